/- What the survey's body, measure and Right answer, of every item. -/
import Derived.Test.YtalhnnjpjaeakaaGreatAK
import Derived.Test.YtalhnnjpjaeakaaGreatG04
import Derived.Deep.OwnRows
import Derived.Laws.OwnMore
set_option linter.unusedVariables false
set_option maxRecDepth 100000
set_option maxHeartbeats 2000000
open Go.Proofs.Tryz Go.RowKit
namespace Go.Proofs.YtalhnnjpjaeakaaGreat
variable {g j n : Nat} {w : World} {u : T}
theorem VB:∀t,∀(x:V)(d W g:Nat)(w0 w:World),Lies w0 t x->Below w0.heap.size w0 w->w0.heap.size<=g->w.heap[g]?=some (.cells #[.int .i64 W] 163)->W<=16777215->d<=8->
 Calls prog 110 #[.pointer (some ⟨g,0,none⟩), .agg #[.bool x.l, .slice x.ba x.bn x.bc, .slice x.ia x.m x.ic], .int .i64 d] w (BodyPost t d W g w):=by
 refine T.ind λl bs its ih x d W g w0 w hli hbel hg hcell hW hd=>?_;by_cases h1:(l=true/\d=8)∨wrongForm l bs its=true∨16777215<W+wt l bs d
 ·exact V9 l bs its x d W g w0 w hli hbel hg hcell hW hd h1
 ·have h2:¬(l=true/\d=8):=λh=>h1 (.inl h);have h3:wrongForm l bs its=false:=by
   cases h:wrongForm l bs its with
   |false=>rfl
   |true=>exact absurd (.inr (.inl h)) h1
  have h4:W+wt l bs d<=16777215:=Nat.le_of_not_lt λh=>h1 (.inr (.inr h));cases l with
  |false=>exact T6 bs its x d W g w0 w hli hbel hg hcell hW hd h2 h3 h4
  |true=>exact T9 bs its x d W g w0 w hli hbel hg hcell hW hd h2 h3 h4 ih
theorem TB{t:T}{d w:Nat}(hw:w<=16777215)(h:(wk t d w).2=0):szb t<1000000000:=by
 obtain⟨l,bs,its⟩:=t;obtain⟨_,h2,h3,h4⟩:=Pd h;rw[h4]at h;obtain⟨b1,b2,b3⟩:=JO (its:=its) (d:=d+1) (w:=w+wt l bs d) (W:=(wks its (d+1) (w+wt l bs d)).1) (by omega) h3 (by rw[<-h]);show bs.length+szs its<_;have hf:=EL h2;cases l with
 |true=>
  have:bs=[]:=by simpa using hf
  subst this;simp;omega
 |false=>
  have:bs.length<=wt false bs d:=by simp[wt];omega
  omega
def mP(t:T):Nat×Nat:=if(wk t 0 0).2≠0 then(0,(wk t 0 0).2)else if 16777215<szb t then(0,20)else(sz t,0)
theorem Ks(t:T)(x:V)(w:World)(hli:Lies w t x):
 Calls prog 80 #[.agg #[.bool x.l, .slice x.ba x.bn x.bc, .slice x.ia x.m x.ic]] w λe w'=>e= .returned (.tuple #[.int .i64 ((mP t).1:Nat), .int .i64 ((mP t).2:Nat)])/\Below w.heap.size w w':=by
 have HLI:=Xba hli;obtain⟨m1,hm1⟩:∃m1,mP t=m1:=⟨_,rfl⟩;rw[hm1];have HM:=Xba hm1;clear hli hm1;go_enter func80,ntmps80;go_wp2_with fail
 have hcal:=VB t x 0 0 (w.heap.size+1) w ((w.alloc (.cells #[.bool x.l, .slice x.ba x.bn x.bc, .slice x.ia x.m x.ic] 110)).alloc (.cells #[.int .i64 0] 163)) HLI.out (((Ak _ _).alloc (Aa _) _).alloc (by simp) _) (by omega)
  (by have:=Ai (w.alloc (.cells #[.bool x.l, .slice x.ba x.bn x.bc, .slice x.ia x.m x.ic] 110)) (.cells #[.int .i64 0] 163);rw[show(w.alloc (.cells #[.bool x.l, .slice x.ba x.bn x.bc, .slice x.ia x.m x.ic] 110)).heap.size=w.heap.size+1 from by simp]at this;exact this) (by omega) (by omega)
 rw[show((0:Nat):Int)=0 from rfl]at hcal;refine hcal.mono ?_;clear hcal;rintro e w1⟨ht1,hres⟩;have hsz:((w.alloc (.cells #[.bool x.l, .slice x.ba x.bn x.bc, .slice x.ia x.m x.ic] 110)).alloc (.cells #[.int .i64 0] 163)).heap.size=w.heap.size+1+1:=by simp
 have hyb:w1.heap[w.heap.size]?=some (.cells #[.bool x.l, .slice x.ba x.bn x.bc, .slice x.ia x.m x.ic] 110):=(ht1.block _ (by rw[hsz];omega) (by omega)).trans ((Au _ _ _ (by simp)).trans (Ai _ _));have hb0:Below w.heap.size w ((w.alloc (.cells #[.bool x.l, .slice x.ba x.bn x.bc, .slice x.ia x.m x.ic] 110)).alloc (.cells #[.int .i64 0] 163)):=((Ak _ _).alloc (Aa _) _).alloc (by simp) _;have hb1:Below w.heap.size w w1:=Touch.below hb0 ht1 (by omega) (by rw[hsz];omega);clear ht1 hsz hb0;obtain⟨ul,ub,ui⟩:=t;have hyl:Hid (x.l=ul):=(lies_eq.1 HLI.out).1;have AG:=Xba ((lies_eq.1 HLI.out).2.1.at hb1);have HMM:=HM.out;unfold mP at HMM;rcases hres with⟨hr0,rfl,hr2⟩|⟨hr0,rfl⟩
 ·have y0:w1.cell? ⟨w.heap.size,0,none⟩=some (.bool x.l):=by rw[Ae _ _ _ _ _ _ hyb];rfl
  have y1:w1.cell? ⟨w.heap.size,1,none⟩=some (.slice x.ba x.bn x.bc):=by rw[Ae _ _ _ _ _ _ hyb];rfl
  have y2:w1.cell? ⟨w.heap.size,2,none⟩=some (.slice x.ia x.m x.ic):=by rw[Ae _ _ _ _ _ _ hyb];rfl
  rw[Ad (by rw[hr0];simp)]at HMM;have hnn:=TB (Ay _) hr0;rw[V5]at HMM;obtain⟨nn,hnn0⟩:∃nn,szb (T.mk ul ub ui)=nn:=⟨_,rfl⟩;rw[hnn0]at hnn HMM⊢;have HB1:=Xba hb1;clear hr0 hr2 hyb hnn0 hb1;by_cases hlong:16777215<nn
  ·rw[Af hlong]at HMM;have hl2:(16777215:Int)<nn:=(by omega);have HM2:=Xba HMM;clear HMM HM;go_wp2_with fail;go_ret2;refine⟨?_,HB1.out⟩;rw[<-HM2.out];rfl
  ·rw[Ad hlong]at HMM;have hl2:¬(16777215:Int)<nn:=(by omega);have HM2:=Xba HMM;clear HMM HM;go_wp2_with fail;refine(L5 x.l x.ba x.bn x.bc x.ia x.m x.ic ub nn _ AG.out hnn).mono ?_;rintro e w2⟨rfl,hb2⟩;rw[hyl.out];go_wp2_with fail;go_ret2;refine⟨?_,HB1.out.trans (hb2.mono HB1.out.size)⟩;rw[<-HM2.out];rfl
 ·rw[Af hr0]at HMM;obtain⟨er,her⟩:∃er,(wk (T.mk ul ub ui) 0 0).2=er:=⟨_,rfl⟩;have hee:((er:Int) !=0)=true:=by rw[BL];rw[her]at hr0;omega
  rw[her]at HMM⊢;have HM2:=Xba HMM;have HB1:=Xba hb1;clear hr0 hyb her HMM HM hb1;go_wp2_with fail;go_ret2;refine⟨?_,HB1.out⟩;rw[<-HM2.out];rfl
def Row(g:Nat)(w:World)(R:List Int):Prop:=w.heap[g]?=some (.cells (R.map (Value.int .u8)).toArray 5)
theorem Row.set{R:List Int}(h:Row g w R)(i:Nat)(x:Int):Row g (w.setCell ⟨g,i,none⟩ (.int .u8 x)) (R.set i x):=by
 have:=AO w g i _ 5 (.int .u8 x) h;unfold Row;rw[this];congr 2;rw[D9,List.map_set]
theorem Row.cell{R:List Int}(h:Row g w R){i:Nat}(hi:i<R.length):w.cell? ⟨g,i,none⟩=some (.int .u8 (R.getD i 0)):=by
 rw[Ae _ _ _ _ _ _ h];simp[Ac hi]
theorem Row.frozen{R:List Int}(h:Row g w R)(i:Nat):w.frozen? ⟨g,i,none⟩=false:=AL _ _ _ _ _ h
theorem Oo(R tl:List Int)(a e:Nat)(v:Int)(ha:a+1<=R.length):(R.take (a+1)++tl++R.drop e).set a v=R.take a++(v::tl)++R.drop e:=by
 have h1:R.take (a+1)=R.take a++[R[a]]:=by rw[BQ,Ac (by omega)];rfl
 have h2:(R.take a).length=a:=by rw[Ao];omega
 rw[h1,AE,AE,DD _ _ (by omega),h2,Cx];simp
theorem Kt(g at_ S n b:Nat)(R:List Int)(w:World)(hR:Row g w R)(hS:R.length=S)(hat:at_<=S)(hS2:S<=4611686018427387904)(hn:n<16777216)(hb:b=128∨b=192)(hfit:(hd b n).length<=at_):
 Calls prog 113 #[.slice (some ⟨g,0,none⟩) S S, .int .i64 at_, .int .u8 b, .int .i64 n] w λe w'=>e= .returned (.int .i64 (at_-(hd b n).length:Nat))/\Row g w' (R.take (at_-(hd b n).length)++hd b n++R.drop at_)/\Touch g w w':=by
 have hlen:=hd_len b n;have hb2:b<=192:=by omega
 by_cases h5:n<=55
 ·have e1:hd b n=[((b+n:Nat):Int)]:=by rw[hd,Af h5]
  rw[e1]at hfit⊢;simp only[C3]at hfit⊢;obtain⟨a,rfl⟩:∃a,at_=a+1:=⟨at_-1,by omega⟩;have hcell:=hR.cell (i:=a) (by omega);have hfz:=hR.frozen a;have hset:=Oo R [] a (a+1) ((b+n:Nat):Int) (by omega);rw[A3,Bf]at hset;have hrow:=hR.set a ((b+n:Nat):Int);rw[hset]at hrow;have HR:=Xba hrow;have h55:(n:Int)<=55:=by omega
  clear hset hrow hR hlen e1 hfit hb;go_enter func113,ntmps113;go_wp2_with fail;go_ret;exact⟨by simp,by simpa using HR.out,Touch.setCell _ _ _ _⟩
 ·have e1:hd b n=((b+55+nb n:Nat):Int)::be n:=by rw[hd,Ad h5]
  have hnb:=G6 hn;have hnb1:=Zn (n:=n) (by omega);rw[Af (by omega)]at hlen;rw[e1]at hlen hfit⊢;rw[hlen]at hfit⊢;obtain⟨a0,rfl⟩:∃a0,at_=a0+(1+nb n):=⟨at_-(1+nb n),by omega⟩;rw[show a0+(1+nb n)-(1+nb n)=a0 from by omega];obtain⟨nbn,hnbn⟩:∃k,nb n=k:=⟨_,rfl⟩;obtain⟨bn,hbn⟩:∃k,be n=k:=⟨_,rfl⟩;rw[hnbn]at hnb hnb1 hat⊢;rw[hbn];have HNB:=Xba hnbn;have HBE:=Xba hbn;have HR:=Xba hR;have h55:¬(n:Int)<=55:=by omega
  clear hR hlen e1 hfit hb hnbn hbn;go_enter func113,ntmps113;go_wp2_with fail
  go_loopw [1,9,10] (λp c q v=>∃(a k r:Nat)(tl:List Int),p= .int .i64 a/\c= .int .i64 k/\q= .int .i64 r/\r<=n/\a=a0+1+nb r/\k+nb r=nbn/\bn=be r++tl/\Row g v (R.take a++tl++R.drop (a0+(1+nbn)))/\Touch g w v) (λ_ _ q _=>(intOf q).toNat)
  case atStart=>exact⟨a0+(1+nbn),0,n,[],rfl,rfl,rfl,Aa _,by rw[HNB.out];omega,by rw[HNB.out];omega,by rw[A3];exact HBE.out.symm,by rw[A3,Bf];exact HR.out,Touch.refl _ _⟩
  case round=>
   obtain⟨a,k,r,tl,rfl,rfl,rfl,hrn,ha,hk,hbe,hrow,ht⟩:=hrel;by_cases h0:r=0
   ·subst h0;rw[Ij]at ha hk;rw[FY,A6]at hbe;have ha':a=a0+1:=(by omega);have hk':k=nbn:=(by omega);subst ha' hk' hbe;have htl:(R.take (a0+1)).length=a0+1:=(by rw[Ao];omega);have hcell:=hrow.cell (i:=a0) (by simp;omega);have hfz:=hrow.frozen a0;have hrow2:=hrow.set a0 ((b+55+k:Nat):Int);rw[Oo _ _ _ _ _ (by omega)]at hrow2;have HRW:=Xba hrow2;have HT:=Xba ht;clear hrow hrow2 ht htl ha hk;go_wp2_with fail;go_ret;exact⟨by simp,by simpa using HRW.out,HT.out.trans (Touch.setCell _ _ _ _)⟩
   ·rw[GQ (by omega)]at ha hk;rw[FM (by omega)]at hbe;obtain⟨a',rfl⟩:∃a',a=a'+1:=⟨a-1,by omega⟩;have hr0:(0:Int)<r:=(by omega);have htl:(R.take (a'+1)).length=a'+1:=(by rw[Ao];omega);have hcell:=hrow.cell (i:=a') (by simp;omega);have hfz:=hrow.frozen a';have hrow2:=hrow.set a' ((r%256:Nat):Int);rw[Oo _ _ _ _ _ (by omega)]at hrow2;have HRW:=Xba hrow2;have HT:=Xba ht;have HBB:=Xba hbe;have HAA:=Xba ha;have HKK:=Xba hk;have hka:a'+1<=S:=(by omega);have hkb:k<10:=(by omega);have hrb:r<16777216:=(by omega);clear hrow hrow2 ht htl ha hk hbe;go_wp2_with fail;refine⟨⟨a',k+1,r/256,((r%256:Nat):Int)::tl,rfl,by simp,by simp,by omega,by have:=HAA.out;omega,by have:=HKK.out;omega,by rw[HBB.out,AE];rfl,by simpa using HRW.out,HT.out.trans (Touch.setCell _ _ _ _)⟩,?_⟩;simp[intOf];omega
theorem L6{o dl dc bn bc:Nat}{ba da:Option Addr}{bs R:List Int}(hR:Row g w R)(hA:Ag w ba bn bc bs)(hdl:dl=bn)(hfit:o+bn<=R.length)(hda:0<bn->da=some ⟨g,o,none⟩):
 ∃w',(∀ty,(Builtin.copy_ #[27,27] ty #[.slice da dl dc, .slice ba bn bc]).run prog w= .ok (.int .i64 bn) w')/\Row g w' (R.take o++bs++R.drop (o+bn))/\Touch g w w':=by
 subst hdl;have hl:=hA.l;by_cases h0:dl=0
 ·subst h0;have hb:bs=[]:=List.eq_nil_of_length_eq_zero hl;subst hb;refine⟨w,λty=>?_,by rw[List.append_nil,Nat.add_zero,List.take_append_drop];exact hR,Touch.refl _ _⟩;rw[run_copy_none (P:=prog) w 27 27 ty 5 _ _ _ _ _ _ underlying27 (by kernel_rfl) (by simp)];rfl
 ·obtain⟨gb,off,rfl,h1,h2,h3⟩:=ag_head hA (by omega);have hda:=hda (by omega);subst hda;refine⟨_,λty=>?_,?_,Touch.setRow g w ((R.take o++bs++R.drop (o+dl)).map (Value.int .u8)).toArray⟩
  ·rw[run_copy_row (P:=prog) w 27 27 ty 5 g o dl dc ⟨gb,off,none⟩ dl bc _ 5 (bs.map (Value.int .u8)) underlying27 (by kernel_rfl) hR (by simp[hl]) ?_ (by simp;omega) (B8_one2 _)]
   ·congr 1
    ·simp[goInt,hl]
    ·congr 2;simp[List.map_append,List.map_take,List.map_drop,hl]
   ·intro j v hv;have hj:j<dl:=(by have:=(List.getElem?_eq_some_iff.1 hv).1;simpa[hl]using this);rw[BM,h3 j hj,<-hv];simp[List.getElem?_eq_getElem (show j<bs.length by omega)]
  ·exact setRow_heap _ _ _ _ _ _ hR
theorem step_copy{P:Program}{ops:Array Oper}{o:Oper}{a:Act}{w:World}{K:Act->World->Prop}{Q:Exit->Act->World->Prop}{E:Prop}
 (hg:o.guard=none) (d x:Operand) (dT sT:TypeId) (X5:o.op=Op.call {callee:=Callee.builtin Builtin.copy,args:=#[d,x],argTypes:=#[dT,sT]})
 (v u:Value) (hd:a.eval d=v) (hx:a.eval x=u) {v':Value} {w':World} (hr:(Builtin.copy_ #[dT,sT] o.type #[v,u]).run P w= .ok v' w') (hK:K (a.put o.dst v') w'):
 if Region.wanted o (yielded ops a.tmps)=true then Oper.wp P o a w K Q else E:=by
 have hw:Region.wanted o (yielded ops a.tmps)=true:=by simp[Region.wanted,hg]
 rw[Af hw];unfold Oper.wp;simp[execOp,X5,resolve,invoke,builtin,hd,hx,hr,Result.andThen];exact hK
theorem Pg{bs:List Int}:enc (.mk false bs [])=if bare false bs then bs else hd 128 bs.length++bs:=by rw[Ef,Cq,A3];rfl
theorem VD(bs:List Int)(x:V)(g S fin:Nat)(R:List Int)(w0 w:World)(hli:Lies w0 (.mk false bs []) x)(hbel:Below w0.heap.size w0 w)(hg:w0.heap.size<=g)(hR:Row g w R)(hS:R.length=S)(hfin:fin<=S)(hS2:S<=4611686018427387904)(hbody:bs.length<16777216)(hfit:(enc (.mk false bs [])).length<=fin):
 Calls prog 81 #[.slice (some ⟨g,0,none⟩) S S, .int .i64 fin, .agg #[.bool x.l, .slice x.ba x.bn x.bc, .slice x.ia x.m x.ic]] w λe w'=>e= .returned (.int .i64 (fin-(enc (.mk false bs [])).length:Nat))/\Row g w' (R.take (fin-(enc (.mk false bs [])).length)++enc (.mk false bs [])++R.drop fin)/\Touch g w w':=by
 obtain⟨l',ba,bn,bc,ia,m,ic⟩:=x;obtain⟨h1,h2,h3,h4,h5,⟨h7,h8⟩,h6⟩:=lies_eq.1 hli;simp only at h1 h2 h3 h4 h5 h6 h7 h8⊢;subst h1;simp only[Cj]at h3;have hl:=h2.l;have hgl:=lt_of_get hR;have hA:=h2.at hbel;have hlen:bs.length<=(enc (.mk false bs [])).length:=by rw[Pg];split<;>simp
 obtain⟨a,ha⟩:∃a,fin=a+bn:=⟨fin-bn,by omega⟩;subst ha;have hR1:Row g (w.alloc (.cells #[.bool false, .slice ba bn bc, .slice ia m ic] 110)).drew R:=(Au _ _ _ hgl).trans hR;have hbw:Below w.heap.size w (w.alloc (.cells #[.bool false, .slice ba bn bc, .slice ia m ic] 110)).drew:=((Ak _ _).alloc (Aa _) _).drew;obtain⟨w1,hrun,hrow,ht⟩:=L6 (o:=a) (dl:=((a:Int)+bn).toNat-a) (dc:=S-a) (da:=if S=a then some ⟨g,0,none⟩else some ⟨g,a,none⟩) hR1 (hA.at hbw) (by omega) (by omega) (λh=>Ad (by omega));have hA1:Ag w1 ba bn bc bs:=h2.at (Touch.below (hbel.alloc hbel.size _).drew ht hg (by have:=hbel.size;simp;omega));have hx:w1.heap[w.heap.size]?=some (.cells #[.bool false, .slice ba bn bc, .slice ia m ic] 110):=(ht.block _ (by simp) (by omega)).trans (Ai _ _);have y0:w1.cell? ⟨w.heap.size,0,none⟩=some (.bool false):=by rw[Ae _ _ _ _ _ _ hx];rfl
 have y1:w1.cell? ⟨w.heap.size,1,none⟩=some (.slice ba bn bc):=by rw[Ae _ _ _ _ _ _ hx];rfl
 have y2:w1.cell? ⟨w.heap.size,2,none⟩=some (.slice ia m ic):=by rw[Ae _ _ _ _ _ _ hx];rfl
 have hT:Touch g w w1:=(Touch.of_below hbw).trans ht;have HRUN:=Xba hrun;have hab:(a:Int)<=(a:Int)+bn:=by omega
 have hbnS:(a:Int)+bn<=S:=by omega
 obtain⟨en,hen⟩:∃en,enc (.mk false bs [])=en:=⟨_,rfl⟩;rw[hen]at hfit⊢;rw[Pg]at hen;have HEN:=Xba hen;have HROW:=Xba hrow;have HA1:=Xba hA1;have HT:=Xba hT;have HX:=Xba hx;have HL:=Xba hl;clear hrun hrow ht hA1 hx hT hR1 hbw hA hli h2 h3 h6 hR hen hl hlen;go_enter func81,ntmps81;go_wp2_with fail
 go_cut [0] (λo v=>o= .slice (some ⟨g,0,none⟩) S S/\v=w1)
 case first=>
  go_region_law (refine step_copy rfl _ _ _ _ rfl _ _ rfl rfl (HRUN.out _) ?_)
  all_goals
   go_wp2_with fail
   all_goals
    go_meet
    case rel=>exact⟨by simp[*],rfl⟩
 case rest=>
 obtain⟨rfl,rfl⟩:=hcut;go_wp2_with fail;refine(Pf false ba bn bc ia m ic bs _ HA1.out).mono ?_;rintro e w2⟨rfl,hb2⟩;have hT2:Touch g w w2:=HT.out.trans (Touch.of_below hb2);have hrow2:Row g w2 (R.take a++bs++R.drop (a+bn)):=Below.row hb2 HROW.out;have hx2:=Below.row hb2 HX.out;by_cases hbr:bare false bs=true
 ·have e1:=HEN.out;rw[Af hbr]at e1;subst e1;rw[hbr];have HR2:=Xba hrow2;have HT2:=Xba hT2;clear hrow2 hT2 hx2 y0 y1 y2;go_wp2_with fail;go_ret;rw[HL.out,show a+bn-bn=a from by omega];exact⟨rfl,HR2.out,HT2.out⟩
 ·have e1:=HEN.out;rw[Ad hbr]at e1;have hbr2:bare false bs=false:=by simpa using hbr
  rw[hbr2];have hle:en.length=(hd 128 bn).length+bn:=by rw[<-e1,Ab,HL.out]
  have hRl:(R.take a++bs++R.drop (a+bn)).length=S:=by simp[HL.out];omega
  have y0:w2.cell? ⟨w.heap.size,0,none⟩=some (.bool false):=by rw[Ae _ _ _ _ _ _ hx2];rfl
  have y1:w2.cell? ⟨w.heap.size,1,none⟩=some (.slice ba bn bc):=by rw[Ae _ _ _ _ _ _ hx2];rfl
  have hcal:=Kt g a S bn 128 (R.take a++bs++R.drop (a+bn)) w2 hrow2 hRl (by omega) hS2 (by rw[HL.out]at hbody;exact hbody) (.inl rfl) (by omega);rw[show((128:Nat):Int)=128 from rfl]at hcal;have HCAL:=Xba hcal;have HT2:=Xba hT2;have HE1:=Xba e1;have HLE:=Xba hle;clear hcal hRl hx2 hrow2 hT2 e1 hle;go_wp2_with fail;refine HCAL.out.mono ?_;rintro e w3⟨rfl,hr3,ht3⟩;have hle:=HLE.out;have e1:=HE1.out;have hta:(R.take a).length=a:=by rw[Ao];omega
  obtain⟨h,hh⟩:∃h,(hd 128 bn).length=h:=⟨_,rfl⟩;rw[hh]at hr3 hle⊢;have hfinal:List.take (a-h) (R.take a++bs++R.drop (a+bn))++hd 128 bn++List.drop a (R.take a++bs++R.drop (a+bn))=R.take (a+bn-en.length)++en++R.drop (a+bn):=by
   rw[<-e1,HL.out,Ab,hh,HL.out,show a+bn-(h+bn)=a-h from by omega,AE (R.take a),Cs (by omega),Es,CN (by omega),Ct (by omega),List.drop_take_self];simp
  rw[hfinal]at hr3;have hret:a-h=a+bn-en.length:=by omega
  rw[hret];have HR3:=Xba hr3;have HT3:=Xba (HT2.out.trans ht3);clear hr3 ht3 hfinal hret hle e1 hta hh;go_wp2_with fail;go_ret;exact⟨rfl,HR3.out,HT3.out⟩
theorem VF{its:List T}:enc (.mk true [] its)=hd 192 (encs its).length++encs its:=by rw[Ef,A6,Ad (by simp[bare])];rfl
theorem Jd{its:List T}(h:its[j]?=some u):encs (its.drop j)=enc u++encs (its.drop (j+1)):=by
 obtain⟨hj,e⟩:=Aw.1 h;rw[Bq hj,C7,e]
theorem L7(its:List T)(j:Nat):encs its=encs (its.take j)++encs (its.drop j):=by rw[<-EJ,Bf]
def PutSaid(t:T):Prop:=∀(x:V)(g S fin:Nat)(R:List Int)(w0 w:World),Lies w0 t x->Below w0.heap.size w0 w->w0.heap.size<=g->Row g w R->R.length=S->fin<=S->S<=4611686018427387904->(bodyOf t).length<16777216->(enc t).length<=fin->
 Calls prog 81 #[.slice (some ⟨g,0,none⟩) S S, .int .i64 fin, .agg #[.bool x.l, .slice x.ba x.bn x.bc, .slice x.ia x.m x.ic]] w λe w'=>e= .returned (.int .i64 (fin-(enc t).length:Nat))/\Row g w' (R.take (fin-(enc t).length)++enc t++R.drop fin)/\Touch g w w'
theorem XP{its:List T}(h:its[j]?=some u):(enc u).length+(encs (its.drop (j+1))).length<=(encs its).length:=by
 have:=Av List.length (L7 its j);rw[Jd h]at this;simp only[Ab]at this;omega
theorem VG(t:T):(bodyOf t).length<=(enc t).length:=by
 cases t with
 |mk l bs its=>
  rw[Ef];show(bs++encs its).length<=_;split<;>simp
theorem Sn(R E F:List Int)(a len fin:Nat)(ha:a<=R.length)(hl:E.length=len)(hla:len<=a):List.take (a-len) (R.take a++F++R.drop fin)++E++List.drop a (R.take a++F++R.drop fin)=R.take (a-len)++(E++F)++R.drop fin:=by
 have hta:(R.take a).length=a:=by rw[Ao];omega
 rw[AE (R.take a),Cs (by omega),Es,CN (by omega),Ct (by omega),List.drop_take_self];simp
theorem VH(its:List T)(ih:∀u∈its,form u=true->PutSaid u)(hform:forms its=true):PutSaid (.mk true [] its):=by
 intro x g S fin R w0 w hli hbel hg hR hS hfin hS2 hbody hfit;obtain⟨l',ba,bn,bc,ia,m,ic⟩:=x;obtain⟨h1,h2,h3,h4,h5,⟨h7,h8⟩,h6⟩:=lies_eq.1 hli;simp only at h1 h2 h3 h4 h5 h6 h7 h8⊢;subst h1;have hbody2:(encs its).length<16777216:=by simpa[bodyOf,T.bs,T.its]using hbody
 obtain⟨en,hen⟩:∃en,enc (.mk true [] its)=en:=⟨_,rfl⟩;rw[hen]at hfit⊢;rw[VF]at hen;have hle:en.length=(hd 192 (encs its).length).length+(encs its).length:=by rw[<-hen,Ab]
 have hgl:=lt_of_get hR;have HR:=Xba hR;have H3:=Xba h3;have H6:=Xba h6;have HI:=Xba ih;have HF:=Xba (Dj hform);have HEN:=Xba hen;have HLE:=Xba hle;have hic:ic<=2^63-1:=h5;clear hR h3 h6 ih hen hle hbody hli h2 hform;go_enter func81,ntmps81;go_wp2_with fail;have hR1:Row g (w.alloc (.cells #[.bool true, .slice ba bn bc, .slice ia m ic] 110)) R:=(Au _ _ _ hgl).trans HR.out;have HR1:=Xba hR1;clear hR1
 go_loopw [8,9] (λp i v=>∃k a:Nat,k<=m/\p= .int .i64 a/\i= .int .i64 ((k:Int)-1)/\a+(encs (its.drop k)).length=fin/\Row g v (R.take a++encs (its.drop k)++R.drop fin)/\Touch g (w.alloc (.cells #[.bool true, .slice ba bn bc, .slice ia m ic] 110)) v) (λ_ i _=>(intOf i+1).toNat)
 case atStart=>exact⟨m,fin,Aa _,rfl,rfl,by rw[Br (by have:=H3.out;omega),Cq];rfl,by rw[Br (by have:=H3.out;omega),Cq,A3,Bf];exact HR1.out,Touch.refl _ _⟩
 case round=>
  obtain⟨k,a,hk,rfl,rfl,ha,hrow,ht⟩:=hrel;have hx:wr.heap[w.heap.size]?=some (.cells #[.bool true, .slice ba bn bc, .slice ia m ic] 110):=(ht.block _ (by simp) (by omega)).trans (Ai _ _);have y0:wr.cell? ⟨w.heap.size,0,none⟩=some (.bool true):=by rw[Ae _ _ _ _ _ _ hx];rfl
  have y1:wr.cell? ⟨w.heap.size,1,none⟩=some (.slice ba bn bc):=by rw[Ae _ _ _ _ _ _ hx];rfl
  have y2:wr.cell? ⟨w.heap.size,2,none⟩=some (.slice ia m ic):=by rw[Ae _ _ _ _ _ _ hx];rfl
  clear hx;cases k with
  |succ j=>
   have hj:j<its.length:=(by have:=H3.out;omega);obtain⟨u,hu⟩:∃u,its[j]?=some u:=⟨_,Ac hj⟩;have hmem:u∈its:=AK hu;obtain⟨gi,off,y,hat⟩:=DX H6.out j u hu;rw[AD]at hat
   have hb:Below w0.heap.size w0 wr:=Touch.below (hbel.alloc hbel.size _) ht hg (by have:=hbel.size;simp;omega);obtain⟨rfl,a0,a1,a2,ali⟩:=hat
   have c0':=(hb.cell (p:=⟨gi,off+j*3,none⟩) (Aj a0)).trans a0;have c1':=(hb.cell (p:=⟨gi,off+j*3+1,none⟩) (Aj a1)).trans a1;have c2':=(hb.cell (p:=⟨gi,off+j*3+2,none⟩) (Aj a2)).trans a2;have hbl:=XP hu;have henc:(enc u).length<=a:=(by have:=Av List.length (L7 its j);rw[Jd hu]at this;simp only[Ab]at this;have:=HLE.out;omega);have haS:a<=R.length:=(by omega);have hRl:(R.take a++encs (its.drop (j+1))++R.drop fin).length=S:=(by simp;omega);have hcal:=HI.out u hmem (HF.out u hmem) y g S a _ w0 wr ali hb hg hrow hRl (by omega) hS2 (by have:=VG u;omega) henc;rw[Sn R (enc u) _ a _ fin haS rfl henc,<-Jd hu]at hcal;have hdl:a-(enc u).length+(encs (its.drop j)).length=fin:=(by rw[Jd hu,Ab];omega);have HCAL:=Xba hcal;have HDL:=Xba hdl;have HT:=Xba ht;rw[show(((j+1:Nat):Int)-1)=(j:Int)from by omega];have hj0:(0:Int)<=j:=(by omega);have hjm:(j:Int)<m:=(by omega);have hjm2:j<m:=(by omega);clear hcal hdl ht hrow a0 a1 a2 ali hb hbl hRl ha;go_wp2_with fail;refine HCAL.out.mono ?_;rintro e w1⟨rfl,hr1,ht1⟩;have HR2:=Xba hr1;have HT2:=Xba (HT.out.trans ht1);clear hr1 ht1;go_wp2_with fail;refine⟨⟨j,a-(enc u).length,by omega,rfl,rfl,HDL.out,HR2.out,HT2.out⟩,?_⟩;simp[intOf]
  |zero=>
   rw[Cy]at ha hrow;have hle:=HLE.out;have hRl:(R.take a++encs its++R.drop fin).length=S:=(by simp;omega);have hcal:=Kt g a S (encs its).length 192 _ wr hrow hRl (by omega) hS2 hbody2 (.inr rfl) (by omega);rw[Sn R _ _ a _ fin (by omega) rfl (by omega),HEN.out,show a-(hd 192 (encs its).length).length=fin-en.length from by omega]at hcal;rw[show((192:Nat):Int)=192 from rfl]at hcal;have hfa:fin=a+(encs its).length:=ha.symm;obtain⟨nn,hnn⟩:∃nn,(encs its).length=nn:=⟨_,rfl⟩;rw[hnn]at hcal hfa hbody2;have HCAL:=Xba hcal;have HT:=Xba ht;have HFA:=Xba hfa;have hfi:(fin:Int)-a=nn:=(by omega);have HFI:=Xba hfi;clear hcal ht hrow hle ha hRl hnn hfa hfi;rw[show(((0:Nat):Int)-1)=-1 from rfl];have haf:(a:Int)<=fin:=(by have:=HFA.out;omega);have hff:fin<9223372036854775807:=(by omega);go_wp2_with fail;rw[HFI.out];refine HCAL.out.mono ?_;rintro e w1⟨rfl,hr1,ht1⟩;have HR2:=Xba hr1;have HT2:=Xba ((Touch.of_below ((Ak _ _).alloc (Aa _) _)).trans (HT.out.trans ht1));clear hr1 ht1;go_wp2_with fail;go_ret;exact⟨rfl,HR2.out,HT2.out⟩
theorem XQ:∀t,form t=true->PutSaid t:=by
 refine T.ind λl bs its ih h=>?_;cases l with
 |false=>
  have:=Ed h;subst this;intro x g S fin R w0 w hli hbel hg hR hS hfin hS2 hbody hfit;exact VD bs x g S fin R w0 w hli hbel hg hR hS hfin hS2 (by simpa[bodyOf,T.bs,T.its,Cq]using hbody) hfit
 |true=>
  obtain⟨h1,h2⟩:=EK h;subst h1;exact VH its ih h2
def encP(t:T):List Int×Nat:=if(mP t).2=0 then(enc t,0)else([],(mP t).2)
theorem Zp{t:T}(h:(mP t).2=0):(wk t 0 0).2=0/\szb t<=16777215/\(mP t).1=sz t:=by
 unfold mP at*;by_cases h1:(wk t 0 0).2=0
 ·rw[Ad (by rw[h1];simp)]at h⊢;by_cases h2:16777215<szb t
  ·rw[Af h2]at h;cases h
  ·rw[Ad h2];exact⟨h1,by omega,rfl⟩
 ·rw[Af h1]at h;exact absurd h h1
theorem Na(n:Nat):∀x∈be n,0<=x/\x<256:=by
 induction n using Nat.strongRecOn with
 |_ n ih=>
  by_cases h:n=0
  ·subst h;rw[FY];intro x hx;cases hx
  ·rw[FM (by omega)];intro x hx;rcases AM.1 hx with hx|hx
   ·exact ih _ (Eb (by omega) (by decide)) x hx
   ·simp at hx;omega
theorem TC{l:Bool}(hn:n<16777216):∀x∈hd (baseOf l) n,0<=x/\x<256:=by
 have hb:baseOf l<=192:=by cases l<;>decide
 intro x hx;unfold hd at hx;split at hx
 ·simp at hx;omega
 ·rcases Az.1 hx with rfl|hx
  ·have:=G6 hn;omega
  ·exact Na n x hx
theorem Ph{its:List T}(ih:∀t∈its,byt t->(bodyOf t).length<16777216->∀x∈enc t,0<=x/\x<256):byts its->(encs its).length<16777216->∀x∈encs its,0<=x/\x<256:=by
 induction its with
 |nil=>intro _ _ x hx;rw[Cq]at hx;cases hx
 |cons t r ihr=>
  intro hb hl x hx;obtain⟨h1,h2⟩:=(MY t r).1 hb;rw[C7]at hx hl;rw[Ab]at hl;rcases AM.1 hx with hx|hx
  ·exact ih t (BU ..) h1 (by have:=VG t;omega) x hx
  ·exact ihr (λu hu=>ih u (A9 _ hu)) h2 (by omega) x hx
theorem Q9:∀t,byt t->(bodyOf t).length<16777216->∀x∈enc t,0<=x/\x<256:=by
 refine T.ind λl bs its ih hb hl x hx=>?_;obtain⟨h1,h2⟩:=(Vy l bs its).1 hb;have hl2:(bs++encs its).length<16777216:=hl;have hbody:∀x∈bs++encs its,0<=x/\x<256:=KO h1 (Ph ih h2 (by rw[Ab]at hl2;omega));rw[Ef]at hx;split at hx
 ·exact hbody x hx
 ·rcases AM.1 hx with hx|hx
  ·exact TC hl2 x hx
  ·exact hbody x hx
theorem Je{t:T}(h:(mP t).2=0):(mP t).1=(enc t).length/\(bodyOf t).length<16777216/\form t=true:=by
 obtain⟨h1,h2,h3⟩:=Zp h;have hf:=Ja t 0 0 h1;rw[h3,V0 t hf,<-IZ hf];exact⟨rfl,by omega,hf⟩
theorem L8{t:T}(hb:(bodyOf t).length<16777216):(enc t).length<=16777220:=by
 obtain⟨l,bs,its⟩:=t;have hb2:(bs++encs its).length<16777216:=hb;rw[Ef];split
 ·omega
 ·rw[Ab,hd_len];have:=G6 hb2;split<;>omega
theorem made_bytes(n:Nat):madeCells #[Value.int .u8 0] n=((List.replicate n (0:Int)).map (Value.int .u8)).toArray:=by
 apply Array.ext';rw[toList_madeCells_one];simp
theorem row_ag{bs:List Int}(h:Row g w bs)(hl:bs.length=n)(hb:∀x∈bs,0<=x/\x<256)(hn:n<=9223372036854775807):Ag w (some ⟨g,0,none⟩) n n bs:=by
 refine⟨?_,(λh=>by cases h),hl,hb⟩;by_cases h0:n=0
 ·exact .inl ⟨h0,Ar (by omega)⟩
 ·exact .inr ⟨g,0,rfl,hl,by omega,Aa _,by unfold maxLen;omega,λj hj=>by rw[AD];exact h.cell hj⟩
theorem info5b:(prog.info? 5).map (λi=>(i.zero,i.size,i.bytes))=some (some (.int .u8 0),1,1):=by kernel_rfl
end Go.Proofs.YtalhnnjpjaeakaaGreat
namespace Go.Proofs.YtalhnnjpjaeakaaGreat
variable {deep : Bool} {b : List Int} {d n : Nat}
theorem VI{P:List Int->Prop}(h0:P [])(h1:∀r x,P r->P (r++[x]))(l:List Int):P l:=by
 have:∀m:List Int,P m.reverse:=by
  intro m
  induction m with
  |nil=>exact h0
  |cons x r ih=>rw[List.reverse_cons];exact h1 _ _ ih
 have:=this l.reverse;rwa [List.reverse_reverse]at this
theorem Z8(s:List Int):(∀x∈s,0<=x/\x<256)->s.headD 0≠0->be (val s)=s:=by
 induction s using VI with
 |h0=>intro _ h;exact absurd rfl h
 |h1 r x ih=>
  intro h hh;have hx:=h x (by simp);rw[Jb];cases r with
  |nil=>
   have hx2:x≠0:=hh;rw[show val ([]:List Int)=0 from rfl,FM (by omega),show(0*256+x.toNat)/256=0 from by omega,FY];simp;omega
  |cons y r=>
   have h1:=ih (λz hz=>h z (Df _ hz)) hh;have h2:0<val (y::r):=by
    rcases EG (val (y::r))with h0|h0
    ·rw[h0,FY]at h1;cases h1
    ·exact h0
   rw[FM (by omega),show(val (y::r)*256+x.toNat)/256=val (y::r)from by omega,h1,show(((val (y::r)*256+x.toNat)%256:Nat):Int)=x from by omega]
theorem TD{f t:Nat}(hb:∀x∈b,0<=x/\x<256)(h:hdr deep b= .ok f t):
 (b.headD 0<128/\f=0/\t=1/\0<b.length)∨(128<=b.headD 0/\1<=f/\f<=t/\t<=b.length/\t-f<=16777215/\b.take f=hd (if 192<=b.headD 0 then 192 else 128) (t-f)/\(192<=b.headD 0->deep=false)/\(f=1↔t-f<=55)):=by
 have hok:=L3 h;unfold hdr at h;split at h
 ·cases h
 ·rename_i c r;have hc:=hb c (by simp);split at h
  ·cases h
  ·rename_i hdeep;have hd2:192<=c->deep=false:=λh1=>by
    cases deep with
    |false=>rfl
    |true=>exact absurd ⟨h1,rfl⟩ hdeep
   split at h
   ·rename_i h1;cases h;exact .inl ⟨h1,rfl,rfl,by simp⟩
   ·rename_i h1;have hbase:(if 192<=c then 192 else 128:Nat)+nOf c=c.toNat:=by
     unfold nOf;split<;>omega
    have hn63:nOf c<=63:=by
     unfold nOf;split<;>omega
    right;show 128<=c/\_;refine⟨by omega,?_⟩;show 1<=f/\f<=t/\t<=(c::r).length/\t-f<=16777215/\(c::r).take f=hd (if 192<=c then 192 else 128) (t-f)/\(192<=c->deep=false)/\_;split at h
    ·rename_i h55;split at h
     ·cases h
     ·rename_i h4;obtain⟨l1,l2,l3,l4,l5⟩:=GR (Decidable.not_not.1 h4);split at h
      ·cases h
      ·cases h;rw[l5]at*;have hk1:1<=nOf c-55:=(by omega);have hlt:=DF (b:=r) (λx hx=>hb x (A9 _ hx)) (j:=nOf c-55) l2 l1;have hhead:(r.take (nOf c-55)).headD 0≠0:=by
        cases r with
        |nil=>simp at l2;omega
        |cons y r=>
         obtain⟨k,hk⟩:∃k,nOf c-55=k+1:=⟨nOf c-55-1,by omega⟩;rw[hk];exact l3
       have hbe:=Z8 (r.take (nOf c-55)) (λx hx=>hb x (A9 _ (Bi hx))) hhead;have hnb:nb (val (r.take (nOf c-55)))=nOf c-55:=by
        rw[<-JN,hbe,Ao];omega
       refine⟨by omega,by omega,by omega,by omega,?_,hd2,by constructor<;>intro _<;>omega⟩;rw[show 1+(nOf c-55)+val (r.take (nOf c-55))-(1+(nOf c-55))=val (r.take (nOf c-55))from by omega];unfold hd;rw[Ad (by omega),hnb,hbe,show 1+(nOf c-55)=(nOf c-55)+1 from by omega,C1];congr 1;omega
    ·rename_i h55;split at h
     ·cases h
     ·cases h;refine⟨by omega,by omega,by omega,by omega,?_,hd2,by constructor<;>intro _<;>omega⟩;rw[show 1+nOf c-1=nOf c from by omega];unfold hd;rw[Af (by omega)];show[c]=_;congr 1;omega
def Good(d:Nat)(b:List Int)(t:T)(n:Nat):Prop:=
 enc t=b.take n/\form t=true/\∀w,w+n<=16777215->(wk t d w).2=0/\(wk t d w).1<=w+n
theorem L9{d:Nat}{g:List Int->R}(hg:∀b t n,(∀x∈b,0<=x/\x<256)->g b= .ok t n->Good d b t n/\1<=n/\n<=b.length):
 ∀(n:Nat)(b:List Int)(ts:List T),(∀x∈b,0<=x/\x<256)->rdAll g n b= .ok ts->encs ts=b/\forms ts=true/\∀w,w+b.length<=16777215->(wks ts d w).2=0/\(wks ts d w).1<=w+b.length
 |n,[],ts,hb,h=>by
  rw[EW]at h;cases h;exact⟨Cq,Ey,λw hw=>by rw[Ej];exact⟨rfl,by simp⟩⟩
 |0,x::b,ts,hb,h=>by cases h
 |n+1,x::b,ts,hb,h=>by
  cases hx:g (x::b)with
  |bad e=>rw[FB (by simp) hx]at h;cases h
  |ok t m=>
   rw[Gq (by simp) hx]at h;obtain⟨⟨g1,g2,g3⟩,m1,m2⟩:=hg _ _ _ hb hx;cases hr:rdAll g n ((x::b).drop m)with
   |bad e=>rw[hr]at h;cases h
   |ok us=>
    rw[hr]at h;cases h;obtain⟨r1,r2,r3⟩:=L9 hg n _ us (λy hy=>hb y (BH hy)) hr;refine⟨by rw[C7,g1,r1,Bf],by rw[IA,g2,r2];rfl,λw hw=>?_⟩;have e:=AQ (i:=m) (l:=x::b);obtain⟨a1,a2⟩:=g3 w (by omega);rw[Fj,Af a1];obtain⟨b1,b2⟩:=r3 _ (show(wk t d w).1+((x::b).drop m).length<=16777215 by omega);exact⟨b1,by omega⟩
theorem VJ{f t:Nat}(h:f<=t):b.take t=b.take f++(b.take t).drop f:=by
 conv=>lhs;rw[<-Bf f (b.take t)];rw[Es,CN h]
theorem VK{l:Bool}{bs:List Int}(h:bs.length<=n)(h1:1<=n):wt l bs d<=n:=by
 unfold wt;split<;>omega
theorem Pj{g:List Int->R}(hdd:deep=false->d<8)(hg:∀b t n,(∀x∈b,0<=x/\x<256)->g b= .ok t n->Good (d+1) b t n/\1<=n/\n<=b.length){t:T}(hb:∀x∈b,0<=x/\x<256)(h:rd1 g deep b= .ok t n):
 Good d b t n/\(bodyOf t).length<=16777215/\((wk t 0 0).2=0∨d≠0):=by
 have hn:=V7 h;unfold rd1 at h;split at h
 ·cases h
 ·rename_i f t' hh;have hp:=TD hb hh;have hok:=L3 hh;have hlb:((b.take t').drop f).length=t'-f:=by rw[AQ,Ao];omega
  split at h
  ·rename_i h192;split at h
   ·cases h
   ·rename_i hno;cases h;have hwk:∀d' w,w+wt false ((b.take n).drop f) d'<=16777215->wk (.mk false ((b.take n).drop f) []) d' w=(w+wt false ((b.take n).drop f) d',0):=by
     intro d' w hw;rw[IY,Ad (by simp),Ad (by simp[wrongForm]),Ad (by omega),Ej]
    have hwt:∀d',wt false ((b.take n).drop f) d'<=n:=λd'=>VK (by omega) hn.1;have hlen:((b.take n).drop f).length<=16777215:=by
     rw[hlb];rcases hp with⟨_,rfl,rfl,_⟩|⟨_,_,_,_,h5,_⟩
     ·omega
     ·exact h5
    refine⟨⟨?_,?_,?_⟩,?_,?_⟩
    ·rw[Ef,Cq,A3];rcases hp with⟨h1,rfl,rfl,h4⟩|⟨h1,h2,h3,h4,h5,h6,h7,h8⟩
     ·cases b with
      |nil=>simp at h4
      |cons c r=>
       have h1':c<128:=h1;rw[Af (by simp[bare,h1'])];simp
     ·have hnb:bare false ((b.take n).drop f)=false:=by
       unfold bare;by_cases hl1:((b.take n).drop f).length=1
       ·rw[hlb]at hl1;have hf1:f=1:=h8.2 (by omega);subst hf1;have hn2:n=2:=(by omega);subst hn2;have hge:¬b.getD 1 0<128:=λhlt=>hno ⟨rfl,rfl,hlt⟩;have hhd:((b.take 2).drop 1).headD 0=b.getD 1 0:=by
         cases b with
         |nil=>rfl
         |cons c r=>cases r<;>rfl
        rw[hhd,AU hge];simp
       ·rw[AU hl1];rfl
      rw[hnb,Ad (by simp),hlb,baseOf,Ad (by simp)];rw[Ad (by omega)]at h6;rw[<-h6,<-VJ h3]
    ·rw[FZ,Ey];simp
    ·intro w hw;have:=hwt d;rw[hwk d w (by omega)];exact⟨rfl,by show w+_<=_;omega⟩
    ·show((b.take n).drop f++encs []).length<=16777215;rw[Cq,A3];exact hlen
    ·left;have:wt false ((b.take n).drop f) 0<=16777215:=VK hlen (by omega);rw[hwk 0 0 (by omega)]
  ·rename_i h192;split at h
   ·cases h
   ·rename_i ts hts;cases h;rcases hp with⟨h1,_⟩|⟨h1,h2,h3,h4,h5,h6,h7,h8⟩
    ·exact absurd h1 (by omega)
    ·have h192':192<=b.headD 0:=(by omega);have hdp:=hdd (h7 h192');obtain⟨r1,r2,r3⟩:=L9 hg _ _ ts (λy hy=>hb y (Bi (BH hy))) hts;have hbody:(encs ts).length=n-f:=(by rw[r1,hlb]);have hwk:∀d' w,d'<8->w+wt true [] d'<=16777215->wk (.mk true [] ts) d' w=wks ts (d'+1) (w+wt true [] d'):=by
      intro d' w hd' hw;rw[IY,Ad (by simp;omega),Ad (by simp[wrongForm]),Ad (by omega)]
     rw[hlb]at r3;refine⟨⟨?_,?_,?_⟩,?_,?_⟩
     ·rw[Ef,A6,Ad (by simp[bare]),hbody,baseOf,Af rfl];rw[Af h192']at h6;rw[<-h6,r1,<-VJ h3]
     ·rw[FZ,r2];rfl
     ·intro w hw;have hw1:wt true [] d<=1:=VK (by simp) (by omega);rw[hwk d w hdp (by omega)];obtain⟨a1,a2⟩:=r3 (w+wt true [] d) (by omega);exact⟨a1,by omega⟩
     ·show(([]:List Int)++encs ts).length<=16777215;rw[A6,hbody];exact h5
     ·by_cases hd0:d=0
      ·subst hd0;left;have hw0:wt true [] 0=0:=rfl;rw[hwk 0 0 (by omega) (by omega),hw0];exact(r3 0 (by omega)).1
      ·exact .inr hd0
theorem Sq:∀k d,d+k=8->∀b t n,(∀x∈b,0<=x/\x<256)->rd k b= .ok t n->Good d b t n/\(bodyOf t).length<=16777215/\((wk t 0 0).2=0∨d≠0)
 |0,d,hd,b,t,n,hb,h=>Pj (deep:=true) (λh=>by cases h) (λb t n _ h=>by cases h) hb h
 |k+1,d,hd,b,t,n,hb,h=>Pj (g:=rd k) (deep:=false) (λ_=>by omega) (λb t n hb h=>⟨(Sq k (d+1) (by omega) b t n hb h).1,Pe h⟩) hb h
theorem XR{t:T}(hb:∀x∈b,0<=x/\x<256)(h:rd 8 b= .ok t b.length):encP t=(b,0)/\(mP t).2=0:=by
 obtain⟨⟨g1,g2,_⟩,g3,g4⟩:=Sq 8 0 rfl b t b.length hb h;have hw:(wk t 0 0).2=0:=g4.resolve_right (λh=>h rfl);have hm:(mP t).2=0:=by
  unfold mP;rw[Ad (by rw[hw];simp),Ad (by rw[IZ g2];omega)]
 rw[List.take_length]at g1;exact⟨by unfold encP;rw[Af hm,g1],hm⟩
end Go.Proofs.YtalhnnjpjaeakaaGreat
namespace Go.Proofs.YtalhnnjpjaeakaaGreat
variable {w w' : World} {g n c k base : Nat} {P : Nat → Prop} {a : Option Addr} {ys : List V} {fn : Func} {p u : Tmp}
theorem Jf(a:Option Addr)(n c k:Nat)(b:List Int)(w:World)(h:Ag w a n c b)(hk:1<=k)(hk8:k<=8)(hn:n<=4611686018427387904):
 Calls prog 147 #[.slice a n c, .int .i64 k] w λe w'=>e= .returned (.tuple #[.int .i64 ((lenIn b k).1:Nat), .int .i64 ((lenIn b k).2:Nat)])/\Below w.heap.size w w':=by
 have hl:=h.l;obtain⟨r,hr⟩:∃r,lenIn b k=r:=⟨_,rfl⟩;rw[hr];unfold lenIn at hr;by_cases h3:3<k
 ·rw[Af h3]at hr;subst hr;have h3i:(3:Int)<k:=by omega
  clear h;go_enter func147,ntmps147;go_wp2_with fail;go_ret2;exact⟨rfl,Ak _ _⟩
 rw[Ad h3]at hr;have h3i:¬(3:Int)<k:=by omega
 by_cases h4:b.length<k
 ·rw[Af h4]at hr;subst hr;have h4i:(n:Int)<k:=by omega
  clear h;go_enter func147,ntmps147;go_wp2_with fail;go_ret2;exact⟨rfl,Ak _ _⟩
 rw[Ad h4]at hr;have h4i:¬(n:Int)<k:=by omega
 obtain⟨g,off,rfl,hc1,hc2,hc⟩:=ag_head h (by omega);unfold maxLen at hc2;have HR:=Xba hr;have HC:=Xba hc;have HB:=Xba h.b;have HL:=Xba hl;have hc0:=hc 0 (by omega);rw[C5]at hc0;have hkc:k<=c:=by omega
 clear h hr hc hl h4;go_enter func147,ntmps147;go_wp2_with fail
 go_loopw [6,19] (λq i v=>∃j:Nat,j<=k/\i= .int .i64 j/\q= .int .i64 (val (b.take j):Nat)/\v=w) (λ_ i _=>k-(intOf i).toNat)
 case atStart=>exact⟨0,by omega,rfl,rfl,rfl⟩
 case round=>
  obtain⟨j,hj,rfl,rfl,rfl⟩:=hrel;by_cases hlt:j<k
  ·have hcell:=HC.out j (by omega);have hb2:=HB.out;have hl:=HL.out;obtain⟨v1,v2⟩:=DF hb2 (j:=j) (by omega) (by omega);have v3:=DF hb2 (j:=j+1) (by omega) (by omega);have hx:=hb2 (b.getD j 0) (by rw[List.getD,Ac (by omega)];exact Bo _);have hvs:=L0 (b:=b) (j:=j) (by omega);obtain⟨q,hq⟩:∃q,val (b.take j)=q:=⟨_,rfl⟩;obtain⟨x,hxx⟩:∃x,b.getD j 0=x:=⟨_,rfl⟩;rw[hq]at v1 hvs⊢;rw[hxx]at hcell hx hvs;obtain⟨hx0,hx1⟩:=hx;rw[hvs]at v3;have hq2:q<65536:=(by omega);have HV:=Xba hvs;have hji:(j:Int)<k:=(by omega);have hor:bits BinOp.or IntKind.i64 ((q:Int)*256) x=(q:Int)*256+x:=by
    refine bits_join .i64 40 (by decide) (λn a b=>by rw[IntKind.wrap_i64];omega) 8 _ _ (by omega) (by omega) (by omega) hx0 (by omega) (by omega)
   clear hvs hb2 hl v1 v2 v3 hq hxx;go_wp2_with fail;refine⟨⟨j+1,by omega,by simp,?_,trivial⟩,?_⟩
   ·rw[HV.out];simp;omega
   ·simp[intOf];omega
  ·have hjk:j=k:=(by omega);subst hjk;have hji:¬(j:Int)<j:=(by omega);obtain⟨v1,v2⟩:=DF HB.out (j:=j) (by have:=HL.out;omega) (by omega);have hh:b.headD 0=b.getD 0 0:=(by cases b<;>rfl);have hr:=HR.out;rw[hh]at hr;have hx:=HB.out (b.getD 0 0) (by rw[List.getD,Ac (by have:=HL.out;omega)];exact Bo _);obtain⟨q,hq⟩:∃q,val (b.take j)=q:=⟨_,rfl⟩;obtain⟨x,hxx⟩:∃x,b.getD 0 0=x:=⟨_,rfl⟩;rw[hq]at v1 hr⊢;rw[hxx]at hc0 hr hx;clear hq hxx hh;by_cases hx0:x=0
   ·subst hx0;rw[Af (.inl rfl)]at hr;subst hr;clear hx;go_wp2_with fail;go_ret2;exact⟨rfl,Ak _ _⟩
   ·have hxb:(x==0)=false:=(by simp[hx0]);by_cases hq5:q<=55
    ·rw[Af (.inr hq5)]at hr;subst hr;have hqi:(q:Int)<=55:=(by omega);go_wp2_with fail;go_ret2;exact⟨rfl,Ak _ _⟩
    ·rw[Ad (by intro h;rcases h with h|h;exact hx0 h;exact hq5 h)]at hr;subst hr;have hqi:¬(q:Int)<=55:=(by omega);go_wp2_with fail;go_ret2;exact⟨rfl,Ak _ _⟩
def HR.f:HR->Nat| .bad _=>0| .ok f _=>f
def HR.t:HR->Nat| .bad _=>0| .ok _ t=>t
def HR.e:HR->Nat| .bad e=>e| .ok _ _=>0
theorem ag_drop{off:Nat}{b:List Int}(h:Ag w (some ⟨g,off,none⟩) n c b)(hk:k<=n):Ag w (if c=k then some ⟨g,off,none⟩else some ⟨g,off+k,none⟩) (n-k) (c-k) (b.drop k):=by
 have hl:=h.l;refine⟨?_,?_,by rw[AQ,hl],λx hx=>h.b x (BH hx)⟩
 ·by_cases h0:n-k=0
  ·exact .inl ⟨h0,Br (by omega)⟩
  ·rcases h.i with⟨h1,_⟩|⟨g',off',h1,h2,h3,h4,h5,h6⟩
   ·omega
   ·cases h1;refine .inr ⟨g,off+k,Ad (by omega),by rw[AQ,hl],by omega,by omega,by omega,λj hj=>?_⟩;rw[AQ]at hj;have:=h6 (k+j) (by omega);rw[CC,this];simp[List.getD]
 ·intro hh;split at hh<;>cases hh
theorem LA(g off n c d k:Nat)(x:Int)(r:List Int)(w:World)(hcell:w.cell? ⟨g,off,none⟩=some (.int .u8 x))(hx0:0<=x)(hx1:x<256)(hbig:192<=x)(hd8:((d:Int)==8)=false)(h128:¬x<128)(hc1:n<=c)(hc2:c<=2^63-1)(hn:n<=4611686018427387904)
 (hl:r.length+1=n) (hdr:Ag w (if c=1 then some ⟨g,off,none⟩else some ⟨g,off+1,none⟩) (n-1) (c-1) r) (h5:55<x-192) (hk:x-192-55=(k:Int)) (R:HR)
 (hR:(if(lenIn r k).2≠0 then HR.bad (lenIn r k).2 else if r.length+1-(1+k)<(lenIn r k).1 then HR.bad 22 else HR.ok (1+k) (1+k+(lenIn r k).1))=R):
 Calls prog 140 #[.slice (some ⟨g,off,none⟩) n c, .int .i64 d] w λe w'=>e= .returned (.tuple #[.int .i64 (R.f:Nat), .int .i64 (R.t:Nat), .int .i64 (R.e:Nat)])/\Below w.heap.size w w':=by
 have hn0:((n:Int)==0)=false:=by simp;omega
 have hn1:0<n:=by omega
 have hn2:(0:Int)<n:=by omega
 have hk1:1<=k:=by omega
 have hk8:k<=8:=by omega
 have hL1:=@GR r k;have hcal:=Jf _ (n-1) (c-1) k r w hdr hk1 hk8 (by omega);obtain⟨L,hL⟩:∃L,lenIn r k=L:=⟨_,rfl⟩;obtain⟨L1,L2⟩:=L;rw[hL]at hR hL1 hcal;simp only at hR hL1 hcal;have hvb:L2=0->L1<16777216:=λh0=>by
  obtain⟨a1,a2,_,_,a3⟩:=hL1 h0;rw[a3];obtain⟨v1,v2⟩:=DF hdr.b a2 a1;omega
 have hkn:L2=0->1+k<=n:=λh0=>by have:=(hL1 h0).2.1;omega
 have HV:=Xba hvb;have HKN:=Xba hkn;have HCAL:=Xba hcal;have HRR:=Xba hR;have HK:=Xba hk;have HL:=Xba hl;have h5':(55:Int)<x-192:=h5;clear hL1 hL hvb hkn hcal hR hk hl hdr h5;by_cases hc1':c=1
 ·subst hc1';have hn3:n=1:=by omega
  subst hn3;simp only[if_true,Cx]at HCAL;go_enter func140,ntmps140;go_wp2_with fail;rw[HK.out];refine HCAL.out.mono ?_;rintro e w1⟨rfl,hb⟩;have h0:L2≠0:=λh=>by have:=HKN.out h;omega
  ·have hr:=HRR.out;rw[Af h0]at hr;have hee:((L2:Int) !=0)=true:=(by rw[BL];omega);subst hr;clear h0;go_wp2_with fail;go_ret3;exact⟨rfl,hb⟩
 ·rw[Ad hc1']at HCAL;go_enter func140,ntmps140;go_wp2_with fail;rw[HK.out];refine HCAL.out.mono ?_;rintro e w1⟨rfl,hb⟩;by_cases h0:L2=0
  ·have hv:=HV.out h0;have hkn:=HKN.out h0;have hr:=HRR.out;rw[Ad (by rw[h0];simp)]at hr;have hl:=HL.out;subst h0;rw[show((0:Nat):Int)=0 from rfl];by_cases h6:r.length+1-(1+k)<L1
   ·rw[Af h6]at hr;have h7:(n:Int)-(1+k)<L1:=(by omega);subst hr;clear hl h6;go_wp2_with fail;go_ret3;exact⟨rfl,hb⟩
   ·rw[Ad h6]at hr;have h7:¬(n:Int)-(1+k)<L1:=(by omega);subst hr;clear hl h6;go_wp2_with fail;go_ret3;exact⟨by simp[HR.f,HR.t,HR.e],hb⟩
  ·have hr:=HRR.out;rw[Af h0]at hr;have hee:((L2:Int) !=0)=true:=(by rw[BL];omega);subst hr;clear h0;go_wp2_with fail;go_ret3;exact⟨rfl,hb⟩
theorem LC(g off n c d k:Nat)(x:Int)(r:List Int)(w:World)(hcell:w.cell? ⟨g,off,none⟩=some (.int .u8 x))(hx0:0<=x)(hx1:x<256)(hbig:¬192<=x)(h128:¬x<128)(hc1:n<=c)(hc2:c<=2^63-1)(hn:n<=4611686018427387904)
 (hl:r.length+1=n) (hdr:Ag w (if c=1 then some ⟨g,off,none⟩else some ⟨g,off+1,none⟩) (n-1) (c-1) r) (h5:55<x-128) (hk:x-128-55=(k:Int)) (R:HR)
 (hR:(if(lenIn r k).2≠0 then HR.bad (lenIn r k).2 else if r.length+1-(1+k)<(lenIn r k).1 then HR.bad 22 else HR.ok (1+k) (1+k+(lenIn r k).1))=R):
 Calls prog 140 #[.slice (some ⟨g,off,none⟩) n c, .int .i64 d] w λe w'=>e= .returned (.tuple #[.int .i64 (R.f:Nat), .int .i64 (R.t:Nat), .int .i64 (R.e:Nat)])/\Below w.heap.size w w':=by
 have hn0:((n:Int)==0)=false:=by simp;omega
 have hn1:0<n:=by omega
 have hn2:(0:Int)<n:=by omega
 have hk1:1<=k:=by omega
 have hk8:k<=8:=by omega
 have hL1:=@GR r k;have hcal:=Jf _ (n-1) (c-1) k r w hdr hk1 hk8 (by omega);obtain⟨L,hL⟩:∃L,lenIn r k=L:=⟨_,rfl⟩;obtain⟨L1,L2⟩:=L;rw[hL]at hR hL1 hcal;simp only at hR hL1 hcal;have hvb:L2=0->L1<16777216:=λh0=>by
  obtain⟨a1,a2,_,_,a3⟩:=hL1 h0;rw[a3];obtain⟨v1,v2⟩:=DF hdr.b a2 a1;omega
 have hkn:L2=0->1+k<=n:=λh0=>by have:=(hL1 h0).2.1;omega
 have HV:=Xba hvb;have HKN:=Xba hkn;have HCAL:=Xba hcal;have HRR:=Xba hR;have HK:=Xba hk;have HL:=Xba hl;have h5':(55:Int)<x-128:=h5;clear hL1 hL hvb hkn hcal hR hk hl hdr h5;by_cases hc1':c=1
 ·subst hc1';have hn3:n=1:=by omega
  subst hn3;simp only[if_true,Cx]at HCAL;go_enter func140,ntmps140;go_wp2_with fail;rw[HK.out];refine HCAL.out.mono ?_;rintro e w1⟨rfl,hb⟩;have h0:L2≠0:=λh=>by have:=HKN.out h;omega
  ·have hr:=HRR.out;rw[Af h0]at hr;have hee:((L2:Int) !=0)=true:=(by rw[BL];omega);subst hr;clear h0;go_wp2_with fail;go_ret3;exact⟨rfl,hb⟩
 ·rw[Ad hc1']at HCAL;go_enter func140,ntmps140;go_wp2_with fail;rw[HK.out];refine HCAL.out.mono ?_;rintro e w1⟨rfl,hb⟩;by_cases h0:L2=0
  ·have hv:=HV.out h0;have hkn:=HKN.out h0;have hr:=HRR.out;rw[Ad (by rw[h0];simp)]at hr;have hl:=HL.out;subst h0;rw[show((0:Nat):Int)=0 from rfl];by_cases h6:r.length+1-(1+k)<L1
   ·rw[Af h6]at hr;have h7:(n:Int)-(1+k)<L1:=(by omega);subst hr;clear hl h6;go_wp2_with fail;go_ret3;exact⟨rfl,hb⟩
   ·rw[Ad h6]at hr;have h7:¬(n:Int)-(1+k)<L1:=(by omega);subst hr;clear hl h6;go_wp2_with fail;go_ret3;exact⟨by simp[HR.f,HR.t,HR.e],hb⟩
  ·have hr:=HRR.out;rw[Af h0]at hr;have hee:((L2:Int) !=0)=true:=(by rw[BL];omega);subst hr;clear h0;go_wp2_with fail;go_ret3;exact⟨rfl,hb⟩
theorem IC(a:Option Addr)(n c d:Nat)(b:List Int)(w:World)(h:Ag w a n c b)(hd:d<=8)(hn:n<=4611686018427387904):
 Calls prog 140 #[.slice a n c, .int .i64 d] w λe w'=>e= .returned (.tuple #[.int .i64 ((hdr (decide (d=8)) b).f:Nat), .int .i64 ((hdr (decide (d=8)) b).t:Nat), .int .i64 ((hdr (decide (d=8)) b).e:Nat)])/\Below w.heap.size w w':=by
 have hl:=h.l;cases b with
 |nil=>
  simp at hl;subst hl;clear h;go_enter func140,ntmps140;go_wp2_with fail;go_ret3;exact⟨rfl,Ak _ _⟩
 |cons x r=>
  simp only[AS]at hl;obtain⟨g,off,rfl,hc1,hc2,hc⟩:=ag_head h (by omega);unfold maxLen at hc2;have hcell:=hc 0 (by omega);simp only[C5,List.getD_cons_zero]at hcell;obtain⟨hx0,hx1⟩:=h.b x (by simp);have hn0:((n:Int)==0)=false:=by simp;omega
  have hn1:0<n:=by omega
  have hn2:(0:Int)<n:=by omega
  have hdrop:=ag_drop h (k:=1) (by omega);simp only[E6,Cy]at hdrop;obtain⟨R,hR⟩:∃R,hdr (decide (d=8)) (x::r)=R:=⟨_,rfl⟩;rw[hR];simp only[hdr,AS]at hR;have HDR:=Xba hdrop;have HL:=Xba hl;clear h hc hdrop;by_cases h1:192<=x/\d=8
  ·obtain⟨h1,rfl⟩:=h1;rw[Af ⟨h1,by simp⟩]at hR;subst hR;clear hl;go_enter func140,ntmps140;go_wp2_with fail;go_ret3;exact⟨rfl,Ak _ _⟩
  rw[Ad (by simpa using h1)]at hR;by_cases h2:x<128
  ·rw[Af h2]at hR;subst hR;have h3:¬192<=x:=(by omega);clear hl h1;go_enter func140,ntmps140;go_wp2_with fail;go_ret3;exact⟨rfl,Ak _ _⟩
  rw[Ad h2]at hR;by_cases hbig:192<=x
  ·have hd8:((d:Int)==8)=false:=(by simp;simp[hbig]at h1;omega);have hnof:nOf x=(x-192).toNat:=(by unfold nOf;rw[Af hbig]);rw[hnof]at hR;by_cases h5:55<(x-192).toNat
   ·obtain⟨k,hk⟩:∃k:Nat,x-192-55=(k:Int):=⟨(x-192-55).toNat,by omega⟩;rw[Af h5,show(x-192).toNat-55=k from by omega]at hR;exact LA g off n c d k x r w hcell hx0 hx1 hbig hd8 h2 hc1 hc2 hn hl HDR.out (by omega) hk R hR
   ·obtain⟨m,hm⟩:∃m:Nat,x-192=(m:Int):=⟨(x-192).toNat,by omega⟩;rw[Ad h5,show(x-192).toNat=m from by omega]at hR;have hm6:¬(55:Int)<x-192:=(by omega);have HM:=Xba hm;by_cases h6:r.length+1-1<m
    ·rw[Af h6]at hR;subst hR;have h7:(n:Int)-1<x-192:=(by omega);clear hnof h5 hl h1 hm h6;go_enter func140,ntmps140;go_wp2_with fail;go_ret3;exact⟨rfl,Ak _ _⟩
    ·rw[Ad h6]at hR;subst hR;have h7:¬(n:Int)-1<x-192:=(by omega);clear hnof h5 hl h1 hm h6;go_enter func140,ntmps140;go_wp2_with fail;go_ret3;exact⟨by simp[HR.f,HR.t,HR.e,HM.out],Ak _ _⟩
  ·have hd9:128<=x:=(by omega);have hnof:nOf x=(x-128).toNat:=(by unfold nOf;rw[Ad hbig]);rw[hnof]at hR;by_cases h5:55<(x-128).toNat
   ·obtain⟨k,hk⟩:∃k:Nat,x-128-55=(k:Int):=⟨(x-128-55).toNat,by omega⟩;rw[Af h5,show(x-128).toNat-55=k from by omega]at hR;exact LC g off n c d k x r w hcell hx0 hx1 hbig h2 hc1 hc2 hn hl HDR.out (by omega) hk R hR
   ·obtain⟨m,hm⟩:∃m:Nat,x-128=(m:Int):=⟨(x-128).toNat,by omega⟩;rw[Ad h5,show(x-128).toNat=m from by omega]at hR;have hm6:¬(55:Int)<x-128:=(by omega);have HM:=Xba hm;by_cases h6:r.length+1-1<m
    ·rw[Af h6]at hR;subst hR;have h7:(n:Int)-1<x-128:=(by omega);clear hnof h5 hl h1 hm h6;go_enter func140,ntmps140;go_wp2_with fail;go_ret3;exact⟨rfl,Ak _ _⟩
    ·rw[Ad h6]at hR;subst hR;have h7:¬(n:Int)-1<x-128:=(by omega);clear hnof h5 hl h1 hm h6;go_enter func140,ntmps140;go_wp2_with fail;go_ret3;exact⟨by simp[HR.f,HR.t,HR.e,HM.out],Ak _ _⟩
mutual
def LiesP(P:Nat->Prop)(w:World):T->V->Prop
 | .mk l bs its,x=>(x.l=l/\Ag w x.ba x.bn x.bc bs/\x.m=its.length/\x.m<=x.ic/\x.ic<=maxLen/\(x.bn<=140737488351232/\x.m<=140737488351232)/\(∀g off,x.ba=some ⟨g,off,none⟩->0<x.bn->P g/\∀o,w.frozen? ⟨g,o,none⟩=false))/\LiesPAll P w its x.ia 0
def LiesPAll(P:Nat->Prop)(w:World):List T->Option Addr->Nat->Prop
 |[],_,_=>True
 |t::r,a,k=>(∃g off y,(a=some ⟨g,off,none⟩/\P g)/\w.cell? ⟨g,off+k*3,none⟩=some (.bool y.l)/\w.cell? ⟨g,off+k*3+1,none⟩=some (.slice y.ba y.bn y.bc)/\w.cell? ⟨g,off+k*3+2,none⟩=some (.slice y.ia y.m y.ic)/\LiesP P w t y)/\LiesPAll P w r a (k+1)
end
theorem liesP_eq{l:Bool}{bs:List Int}{its:List T}{x:V}:LiesP P w (.mk l bs its) x↔((x.l=l/\Ag w x.ba x.bn x.bc bs/\x.m=its.length/\x.m<=x.ic/\x.ic<=maxLen/\(x.bn<=140737488351232/\x.m<=140737488351232)/\(∀g off,x.ba=some ⟨g,off,none⟩->0<x.bn->P g/\∀o,w.frozen? ⟨g,o,none⟩=false))/\LiesPAll P w its x.ia 0):=by rw[LiesP]
theorem liesPAll_cons{t:T}{r:List T}:LiesPAll P w (t::r) a k↔((∃g off y,(a=some ⟨g,off,none⟩/\P g)/\w.cell? ⟨g,off+k*3,none⟩=some (.bool y.l)/\w.cell? ⟨g,off+k*3+1,none⟩=some (.slice y.ba y.bn y.bc)/\w.cell? ⟨g,off+k*3+2,none⟩=some (.slice y.ia y.m y.ic)/\LiesP P w t y)/\LiesPAll P w r a (k+1)):=by rw[LiesPAll]
theorem Du:LiesPAll P w [] a k:=by rw[LiesPAll];trivial
theorem Gg{P:Nat->Prop}{w:World}{a:Option Addr}:∀{its:List T}{k:Nat},(∀t∈its,∀x,LiesP P w t x->Lies w t x)->LiesPAll P w its a k->LiesAll w its a k
 |[],_,_,_=>Dw
 |t::r,k,ih,h=>by
  obtain⟨⟨g,off,y,⟨h1,_⟩,h2,h3,h4,h5⟩,hr⟩:=liesPAll_cons.1 h;exact liesAll_cons.2 ⟨⟨g,off,y,h1,h2,h3,h4,ih t (BU ..) y h5⟩,Gg (λu hu=>ih u (A9 _ hu)) hr⟩
theorem CX:∀t,∀x,LiesP P w t x->Lies w t x:=by
 refine T.ind λl bs its ih x h=>?_;obtain⟨⟨h1,h2,h3,h4,h5,h6,_⟩,h7⟩:=liesP_eq.1 h;exact lies_eq.2 ⟨h1,h2,h3,h4,h5,h6,Gg ih h7⟩
theorem Oq{bs:List Int}(h:Ag w a n c bs)(hk:∀g off,a=some ⟨g,off,none⟩->0<n->g<w.heap.size->w'.heap[g]?=w.heap[g]?):Ag w' a n c bs:=by
 refine⟨?_,h.nil,h.l,h.b⟩;rcases h.i with h0|⟨g,off,h1,h2,h3,h4,h5,h6⟩
 ·exact .inl h0
 ·refine .inr ⟨g,off,h1,h2,h3,h4,h5,λj hj=>?_⟩;have:=h6 j hj;exact(Aq (w:=w) (hk g off h1 h3 (Aj this))).trans this
theorem DL{P Q:Nat->Prop}{w w':World}{a:Option Addr}(hk:∀b,P b->b<w.heap.size->w'.heap[b]?=w.heap[b]?/\Q b):∀{its:List T}{k:Nat},(∀t∈its,∀x,LiesP P w t x->LiesP Q w' t x)->LiesPAll P w its a k->LiesPAll Q w' its a k
 |[],_,_,_=>Du
 |t::r,k,ih,h=>by
  obtain⟨⟨g,off,y,⟨h1,hp⟩,h2,h3,h4,h5⟩,hr⟩:=liesPAll_cons.1 h;have hb:=hk g hp (Aj h2);refine liesPAll_cons.2 ⟨⟨g,off,y,⟨h1,hb.2⟩,?_,?_,?_,ih t (BU ..) y h5⟩,DL hk (λu hu=>ih u (A9 _ hu)) hr⟩
  ·exact(Aq (w:=w) hb.1).trans h2
  ·exact(Aq (w:=w) hb.1).trans h3
  ·exact(Aq (w:=w) hb.1).trans h4
theorem Bz{Q:Nat->Prop}(hk:∀b,P b->b<w.heap.size->w'.heap[b]?=w.heap[b]?/\Q b):∀t,∀x,LiesP P w t x->LiesP Q w' t x:=by
 refine T.ind λl bs its ih x h=>?_;obtain⟨⟨h1,h2,h3,h4,h5,h6,h8⟩,h7⟩:=liesP_eq.1 h;refine liesP_eq.2 ⟨⟨h1,Oq h2 (λg off e1 e2 e3=>(hk g (h8 g off e1 e2).1 e3).1),h3,h4,h5,h6,λg off e1 e2=>?_⟩,DL hk ih h7⟩;obtain⟨g',off',e3,_,_,hc⟩:=ag_head h2 e2;rw[e1]at e3;cases e3;have hkk:=hk g (h8 g off e1 e2).1 (Aj (hc 0 e2));exact⟨hkk.2,λo=>(B6 (w:=w) hkk.1).trans ((h8 g off e1 e2).2 o)⟩
def V.cells(y:V):List Value:=[.bool y.l, .slice y.ba y.bn y.bc, .slice y.ia y.m y.ic]
def OwnI(w:World)(base:Nat)(v:Value)(ys:List V):Prop:=w.ownsRow base 110 3 v ys.length (ys.flatMap V.cells)
theorem Gr(ys:List V):(ys.flatMap V.cells).length=ys.length*3:=by
 induction ys with
 |nil=>rfl
 |cons y r ih=>rw[Cn,Ab,ih];simp[V.cells];omega
theorem Zq:∃i,prog.info? 110=some i/\i.zero=some (.agg #[.bool false, .slice none 0 0, .slice none 0 0])/\i.size=3/\i.bytes=56:=by
 have h:(prog.info? 110).map (λi=>(i.zero,i.size,i.bytes))=some (some (.agg #[.bool false, .slice none 0 0, .slice none 0 0]),3,56):=by kernel_rfl
 cases hq:prog.info? 110 with
 |none=>rw[hq]at h;simp at h
 |some i=>rw[hq]at h;simp at h;exact⟨i,rfl,h.1,h.2.1,h.2.2⟩
theorem JP(y:V):∀u∈V.cells y,u.oneCell'=true:=by
 intro u hu;simp[V.cells]at hu;rcases hu with rfl|rfl|rfl<;>rfl
theorem Jg{v:Value}(hown:OwnI w base v ys)(y:V)(ad:Addr)(c:Nat)(hnews:∀j u,(V.cells y)[j]?=some u->w.cell? (ad.add j)=some u)(hbase:base<=w.heap.size)(hlen:ys.length<=1000000000)(ty:TypeId):
 ∃v' w',(Builtin.append_ #[108,108] ty #[v, .slice (some ad) 1 c]).run prog w= .ok v' w'/\OwnI w' base v' (ys++[y])/\w.grownBy w' v.ownBlock/\(v'.ownBlock=v.ownBlock∨v'.ownBlock=some w.heap.size):=by
 obtain⟨i,hi,hz,hsz,hby⟩:=Zq;obtain⟨v',w',hrun,hown',hgr,_⟩:=run_append_own (P:=prog) w base 108 ty 110 i _ 3 56 underlying108 hi hz hsz hby rfl (by decide) v ys.length (ys.flatMap V.cells) hown ad 1 c (V.cells y) rfl hnews (JP y) (by unfold maxLen;omega) (by omega) hbase;refine⟨v',w',hrun,?_,hgr,?_⟩
 ·unfold OwnI;rw[BX,Ab];simpa using hown'
 ·rcases hown.2 with⟨rfl,hn0⟩|⟨g,cap,cur,rfl,hbg,hg,hnc,hcm,hcs,htake⟩
  ·have hr:=run_append_nil (P:=prog) w 108 ty 110 i _ underlying108 hi hz ad 1 c (V.cells y) (by rw[hsz];rfl) hnews (by decide) (by decide) (by rw[hby];decide);rw[hrun]at hr;injection hr with e1 e2;right;rw[e1];rfl
  ·by_cases hroom:ys.length+1<=cap
   ·have hr:=run_append_room (P:=prog) w 108 ty 110 i underlying108 hi g ys.length cap cur hg ad 1 c (V.cells y) (by rw[hsz];rfl) hnews (JP y) hroom (by rw[hcs,hsz];simp[V.cells];omega);rw[hrun]at hr;injection hr with e1 e2;left;rw[e1];rfl
   ·have hr:=run_append_grow (P:=prog) w 108 ty 110 i _ underlying108 hi hz ⟨g,0,none⟩ ys.length cap (ys.flatMap V.cells) (by rw[hsz,Gr]) (DN hown (g:=g) rfl) ad 1 c (V.cells y) (by rw[hsz];rfl) hnews (by omega) (by omega) (growslice_fits (by omega) (by rw[hby];omega));rw[hrun]at hr;injection hr with e1 e2;right;rw[e1];rfl
def AllP(P:Nat->Prop)(w:World):List T->List V->Prop
 |[],[]=>True
 |t::ts,y::ys=>LiesP P w t y/\AllP P w ts ys
 |_,_=>False
theorem AllP.len{P:Nat->Prop}{w:World}:∀{ts:List T}{ys:List V},AllP P w ts ys->ts.length=ys.length
 |[],[],_=>rfl
 |t::ts,y::ys,h=>by have:=AllP.len h.2;simp[this]
theorem AllP.mono{P Q:Nat->Prop}{w w':World}(hk:∀b,P b->b<w.heap.size->w'.heap[b]?=w.heap[b]?/\Q b):∀{ts:List T}{ys:List V},AllP P w ts ys->AllP Q w' ts ys
 |[],[],_=>trivial
 |t::ts,y::ys,h=>⟨Bz hk t y h.1,AllP.mono hk h.2⟩
theorem AllP.snoc{P:Nat->Prop}{w:World}{t:T}{y:V}(h1:LiesP P w t y):∀{ts:List T}{ys:List V},AllP P w ts ys->AllP P w (ts++[t]) (ys++[y])
 |[],[],_=>⟨h1,trivial⟩
 |_::ts,_::ys,h=>⟨h.1,AllP.snoc h1 h.2⟩
theorem Fk(pre:List V)(y:V)(ys:List V)(j:Nat)(u:Value)(h:(V.cells y)[j]?=some u):((pre++y::ys).flatMap V.cells)[pre.length*3+j]?=some u:=by
 rw[BX,AZ (by rw[Gr];omega),Gr,Nat.add_sub_cancel_left,Cn,AW (Aw.1 h).1,h]
theorem Pk{P:Nat->Prop}{w:World}{g:Nat}{all:List V}(hc:∀j u,(all.flatMap V.cells)[j]?=some u->w.cell? ((⟨g,0,none⟩:Addr).add j)=some u)(hP:P g):
 ∀(ts:List T)(ys pre:List V),all=pre++ys->AllP P w ts ys->LiesPAll P w ts (some ⟨g,0,none⟩) pre.length
 |[],[],pre,_,_=>Du
 |t::ts,y::ys,pre,e,h=>by
  have hr:=Pk hc hP ts ys (pre++[y]) (by rw[e];simp) h.2;rw[Ab]at hr;refine liesPAll_cons.2 ⟨⟨g,0,y,⟨rfl,hP⟩,?_,?_,?_,h.1⟩,hr⟩
  ·have:=hc (pre.length*3+0) (.bool y.l) (by rw[e];exact Fk pre y ys 0 _ rfl);rw[BM]at this;simpa using this
  ·have:=hc (pre.length*3+1) (.slice y.ba y.bn y.bc) (by rw[e];exact Fk pre y ys 1 _ rfl);rw[BM]at this;rw[show 0+pre.length*3+1=0+(pre.length*3+1)from by omega];exact this
  ·have:=hc (pre.length*3+2) (.slice y.ia y.m y.ic) (by rw[e];exact Fk pre y ys 2 _ rfl);rw[BM]at this;rw[show 0+pre.length*3+2=0+(pre.length*3+2)from by omega];exact this
theorem LD{v:Value}{ts:List T}(hown:OwnI w base v ys)(h:AllP P w ts ys)(hP:∀g,v.ownBlock=some g->P g):
 ∃ia ic,v= .slice ia ts.length ic/\ts.length<=ic/\ic<=maxLen/\LiesPAll P w ts ia 0:=by
 have hl:=h.len;rcases hown.2 with⟨rfl,hn0⟩|⟨g,cap,cur,rfl,hbg,hg,hnc,hcm,hcs,htake⟩
 ·have:ts=[]:=Ar (by omega);subst this;exact⟨none,0,rfl,Aa _,by unfold maxLen;omega,Du⟩
 ·exact⟨some ⟨g,0,none⟩,cap,by rw[hl],by omega,hcm,Pk (DN hown (g:=g) rfl) (hP g rfl) ts ys [] rfl h⟩
theorem Ez(h:fn.results=#[.cell p 110, .tmp u])(tmps:Array Value)(w:World)(g:Nat)(a b c:Value)
 (hp:tmps.getD p undef= .pointer (some ⟨g,0,none⟩)) (hg:w.heap[g]?=some (.cells #[a,b,c] 110)):
 (results fn tmps).run prog w= .ok (.tuple #[.agg #[a,b,c],tmps.getD u undef]) w:=by
 have hp':tmps[p]?.getD undef= .pointer (some ⟨g,0,none⟩):=by simpa using hp
 simp[results,h,hp',asAddr,CR (P:=prog) w g 110 110 #[a,b,c] (0,0) _ hg underlying110 rfl (by kernel_rfl)]
theorem Bd{v:Tmp}(h:fn.results=#[.cell p 110, .tmp u, .tmp v])(tmps:Array Value)(w:World)(g:Nat)(a b c:Value)
 (hp:tmps.getD p undef= .pointer (some ⟨g,0,none⟩)) (hg:w.heap[g]?=some (.cells #[a,b,c] 110)):
 (results fn tmps).run prog w= .ok (.tuple #[.agg #[a,b,c],tmps.getD u undef,tmps.getD v undef]) w:=by
 have hp':tmps[p]?.getD undef= .pointer (some ⟨g,0,none⟩):=by simpa using hp
 simp[results,h,hp',asAddr,CR (P:=prog) w g 110 110 #[a,b,c] (0,0) _ hg underlying110 rfl (by kernel_rfl)]
theorem put3{t:Nat}{x0 x1 x2:Value}(h:w.heap[g]?=some (.cells #[x0,x1,x2] t))(a b c:Value):
 (((w.setCell ⟨g,0,none⟩ a).setCell ⟨g,1,none⟩ b).setCell ⟨g,2,none⟩ c).heap[g]?=some (.cells #[a,b,c] t):=by
 have h1:=AO w g 0 _ t a h;have h2:=AO _ g 1 _ t b h1;have h3:=AO _ g 2 _ t c h2;simpa using h3
theorem Ds(hk:k≠g)(a b c:Value):(((w.setCell ⟨g,0,none⟩ a).setCell ⟨g,1,none⟩ b).setCell ⟨g,2,none⟩ c).heap[k]?=w.heap[k]?:=by
 rw[A8 _ _ _ _ hk,A8 _ _ _ _ hk,A8 _ _ _ _ hk]
theorem Ch{B:Nat}{w0:World}(h:Below B w0 w)(hg:B<=g)(a b c:Value):Below B w0 (((w.setCell ⟨g,0,none⟩ a).setCell ⟨g,1,none⟩ b).setCell ⟨g,2,none⟩ c):=
 ((h.setCell hg a).setCell hg b).setCell hg c
def z3:Array Value:=#[.bool false, .slice none 0 0, .slice none 0 0]
theorem Fl(a:Option Addr)(n c:Nat)(b:List Int)(w:World)(h:Ag w a n c b)(hn:n<=140737488351232):
 Calls prog 55 #[.slice a n c] w λe w'=>e= .returned (.agg #[.bool false, .slice (some ⟨w.heap.size+1,0,none⟩) n n, .slice none 0 0])/\Row (w.heap.size+1) w' b/\Below w.heap.size w w':=by
 have hmk:=run_make_row' (P:=prog) 27 5 (.int .u8 0) 1 underlying27 info5b rfl .i64 .i64 n (by omega) (by omega);obtain⟨w0,hw0⟩:∃w0,w.alloc (.cells #[.bool false, .slice none 0 0, .slice none 0 0] 110)=w0:=⟨_,rfl⟩;have hs0:w0.heap.size=w.heap.size+1:=by rw[<-hw0];simp
 have hbw0:Below w.heap.size w w0:=by rw[<-hw0];exact(Ak _ _).alloc (Aa _) _
 have hres:w0.heap[w.heap.size]?=some (.cells #[.bool false, .slice none 0 0, .slice none 0 0] 110):=by rw[<-hw0];exact Ai _ _
 have hrow:Row w0.heap.size (w0.alloc (.cells (madeCells #[.int .u8 0] n) 5)) (List.replicate n 0):=by
  unfold Row;rw[Ai,made_bytes]
 have hbw:Below w.heap.size w (w0.alloc (.cells (madeCells #[.int .u8 0] n) 5)):=hbw0.alloc (by omega) _;obtain⟨w1,hrun,hrow1,ht⟩:=L6 (o:=0) (dl:=n) (dc:=n) (da:=some ⟨w0.heap.size,0,none⟩) hrow (h.at hbw) rfl (by simp) (λ_=>rfl);rw[BD,A6,AD,Br (by simp),A3]at hrow1;have hres1:w1.heap[w.heap.size]?=some (.cells #[.bool false, .slice none 0 0, .slice none 0 0] 110):=(ht.block _ (by simp;omega) (by omega)).trans ((Au _ _ _ (by omega)).trans hres);have hb1:=Touch.below hbw ht (by omega) hbw.size;rw[hs0]at hrun hrow1;rw[<-hw0]at hrun;have HRUN:=Xba hrun;have HROW:=Xba hrow1;have HB:=Xba hb1;have HRES:=Xba hres1;have x0:w1.cell? ⟨w.heap.size,0,none⟩=some (.bool false):=by rw[Ae _ _ _ _ _ _ hres1];rfl
 have x1:w1.cell? ⟨w.heap.size,1,none⟩=some (.slice none 0 0):=by rw[Ae _ _ _ _ _ _ hres1];rfl
 have x2:w1.cell? ⟨w.heap.size,2,none⟩=some (.slice none 0 0):=by rw[Ae _ _ _ _ _ _ hres1];rfl
 have xf:∀o,w1.frozen? ⟨w.heap.size,o,none⟩=false:=λo=>AL _ _ _ _ _ hres1;clear hrow hrun hrow1 ht hbw h hw0 hs0 hbw0 hres hres1 hb1;go_enter func55,ntmps55;go_wp2_with (first|refine wpl_copy rfl _ _ rfl _ _ rfl rfl (HRUN.out _) ?_);have hr:=put3 HRES.out (.bool false) (.slice (some ⟨w.heap.size+1,0,none⟩) n n) (.slice none 0 0);refine Ap (Ba results55 _ _ w.heap.size 110 _ (0,0) _ rfl hr underlying110 rfl (by kernel_rfl)) rfl ?_;exact⟨rfl,(Ds (by omega) _ _ _).trans HROW.out,Ch HB.out (Aa _) _ _ _⟩
end Go.Proofs.YtalhnnjpjaeakaaGreat
