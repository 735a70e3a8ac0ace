/- What readAll answers, by what read answers. -/
import Derived.Test.YtalhnnjpjaeakaaGreatAK
import Derived.Test.YtalhnnjpjaeakaaGreatG05
import Derived.Test.YtalhnnjpjaeakaaGreatG00
set_option linter.unusedVariables false
set_option maxRecDepth 100000
set_option maxHeartbeats 2000000
open Go.Proofs.Tryz Go.RowKit
namespace Go.Proofs.YtalhnnjpjaeakaaGreat
variable {ts : List T} {m base g : Nat} {b r : List Int} {w : World} {ys : List V} {deep : Bool} {x : Int} {P : Nat → Prop}
def lenOf:Value->Nat| .slice _ n _=>n|_=>0
theorem Er{w:World}{ops:Array Oper}{rest:List Oper}{o:Oper}{a:Act}{Q:Exit->Act->World->Prop}(hgd:o.guard=none)(s x:Operand)
 (ho:o.op= .call {callee:= .builtin .append,args:=#[s,x],argTypes:=#[108,108]}) (v u:Value) (hd:a.eval s=v) (hx:a.eval x=u) {v':Value} {w':World}
 (hr:(Builtin.append_ #[108,108] o.type #[v,u]).run prog w= .ok v' w') (h:wpList prog ops Q rest (a.put o.dst v') w'):wpList prog ops Q (o::rest) a w:=by
 refine wpList_plain hgd λK hK=>?_;unfold Oper.wp;simp[execOp,ho,resolve,invoke,builtin,hd,hx,hr,Result.andThen];exact hK _ _ h
def ReadPost(w:World)(r:R):Ending->World->Prop:=λe w'=>Below w.heap.size w w'/\
 match r with
 | .bad er=>e= .returned (.tuple #[.agg #[.bool false, .slice none 0 0, .slice none 0 0], .int .i64 0, .int .i64 (er:Nat)])/\er≠0
 | .ok t m=>∃y:V,e= .returned (.tuple #[.agg #[.bool y.l, .slice y.ba y.bn y.bc, .slice y.ia y.m y.ic], .int .i64 (m:Nat), .int .i64 0])/\LiesP (λb=>w.heap.size<=b) w' t y
def ReadSaid(k:Nat):Prop:=∀(a:Option Addr)(n c d:Nat)(b:List Int)(w:World),Ag w a n c b->d+k=8->n<=140737488351232->Calls prog 125 #[.slice a n c, .int .i64 d] w (ReadPost w (rd k b))
def AllPost(w:World)(r:RL):Ending->World->Prop:=λe w'=>Below w.heap.size w w'/\
 match r with
 | .bad er=>e= .returned (.tuple #[.slice none 0 0, .int .i64 (er:Nat)])/\er≠0
 | .ok ts=>∃ia ic,e= .returned (.tuple #[.slice ia ts.length ic, .int .i64 0])/\ts.length<=ic/\ic<=maxLen/\LiesPAll (λb=>w.heap.size<=b) w' ts ia 0
def RL.pre(ts:List T):RL->RL
 | .bad e=> .bad e
 | .ok us=> .ok (ts++us)
theorem Sr(r:RL):RL.pre [] r=r:=by cases r<;>rfl
theorem Pl{f:List Int->R}(hf:∀b t m,f b= .ok t m->1<=m){t:T}(hb:b≠[])(h:f b= .ok t m):RL.pre ts (rdAll f b.length b)=RL.pre (ts++[t]) (rdAll f (b.drop m).length (b.drop m)):=by
 have hm:=hf _ _ _ h;have hl:0<b.length:=BC.2 hb;obtain⟨n,hn⟩:∃n,b.length=n+1:=⟨b.length-1,by omega⟩;rw[hn,Gq hb h,L4 hf n (b.drop m).length (b.drop m) (by rw[AQ];omega) (Aa _)];cases rdAll f (b.drop m).length (b.drop m)with
 |bad e=>rfl
 |ok us=>simp[RL.pre]
theorem Ik{f:List Int->R}(hf:∀b t m,f b= .ok t m->1<=m/\m<=b.length):∀n b ts,rdAll f n b= .ok ts->ts.length<=b.length
 |n,[],ts,h=>by rw[EW]at h;cases h;simp
 |0,_::_,ts,h=>by cases h
 |n+1,x::b,ts,h=>by
  cases hx:f (x::b)with
  |bad e=>rw[FB (by simp) hx]at h;cases h
  |ok t m=>
   have hm:=hf _ _ _ hx;rw[Gq (by simp) hx]at h;cases hr:rdAll f n ((x::b).drop m)with
   |bad e=>rw[hr]at h;cases h
   |ok us=>
    rw[hr]at h;cases h;have:=Ik hf n _ us hr;rw[AQ]at this;simp only[AS]at*;omega
theorem EX{v:Value}(h:OwnI w base v ys)(hg:v.ownBlock=some g):base<=g/\g<w.heap.size:=by
 rcases h.2 with⟨rfl,_⟩|⟨g',cap,cur,rfl,hbg,hh,_⟩
 ·cases hg
 ·cases hg;exact⟨hbg,lt_of_get hh⟩
theorem DZ{w':World}{v:Value}(h:OwnI w base v ys)(hk:∀g,v.ownBlock=some g->g<w.heap.size->w'.heap[g]?=w.heap[g]?):OwnI w' base v ys:=by
 refine⟨h.1,?_⟩;rcases h.2 with h2|⟨g,cap,cur,hv,hb,hh,r⟩
 ·exact .inl h2
 ·exact .inr ⟨g,cap,cur,hv,hb,(hk g (by rw[hv];rfl) (lt_of_get hh)).trans hh,r⟩
theorem LE{wr w1:World}{it:Value}{y:V}{t:T}(hown:OwnI wr w.heap.size it ys)(hall:AllP (λb=>w.heap.size<=b/\it.ownBlock≠some b) wr ts ys)(hbel:Below w.heap.size w wr)(hb1:Below wr.heap.size wr w1)
 (hy:LiesP (λb=>wr.heap.size<=b) w1 t y) (hlen:ys.length<=1000000000) (ty:TypeId):
 ∃v' w3,(Builtin.append_ #[108,108] ty #[it, .slice (some ⟨w1.heap.size+1,0,none⟩) 1 1]).run prog ((w1.alloc (.cells #[.bool y.l, .slice y.ba y.bn y.bc, .slice y.ia y.m y.ic] 110)).alloc (.cells #[.bool y.l, .slice y.ba y.bn y.bc, .slice y.ia y.m y.ic] 110))= .ok v' w3/\
  OwnI w3 w.heap.size v' (ys++[y])/\AllP (λb=>w.heap.size<=b/\v'.ownBlock≠some b) w3 (ts++[t]) (ys++[y])/\Below w.heap.size w w3:=by
 obtain⟨Y,hY⟩:∃Y:Obj,Obj.cells #[.bool y.l, .slice y.ba y.bn y.bc, .slice y.ia y.m y.ic] 110=Y:=⟨_,rfl⟩;rw[hY];have hs2:((w1.alloc Y).alloc Y).heap.size=w1.heap.size+2:=by simp
 have hb2:Below wr.heap.size wr ((w1.alloc Y).alloc Y):=(hb1.alloc hb1.size _).alloc (by have:=hb1.size;simp;omega) _;have hz:=hbel.size;have hz1:=hb1.size;have hblk:((w1.alloc Y).alloc Y).heap[w1.heap.size+1]?=some Y:=heap_alloc2_new w1 Y Y;have hnews:∀j u,(V.cells y)[j]?=some u->((w1.alloc Y).alloc Y).cell? ((⟨w1.heap.size+1,0,none⟩:Addr).add j)=some u:=by
  intro j u hu;rw[BM,AD];rw[<-hY]at hblk⊢;rw[Ae _ _ _ _ _ _ hblk];simpa[V.cells]using hu
 obtain⟨v',w3,hrun,hown3,hgr,hown4⟩:=Jg (DZ hown λg _ hg=>hb2.block g hg) y _ 1 hnews (by omega) hlen ty;have hfar:∀b,b<w1.heap.size+2->it.ownBlock≠some b->w3.heap[b]?=((w1.alloc Y).alloc Y).heap[b]?:=λb hb hne=>hgr.block b (by rw[hs2];exact hb) (λh=>hne h.symm);have hit:∀g,it.ownBlock=some g->g<wr.heap.size:=λg hg=>(EX hown hg).2;have hv':∀b,b<w1.heap.size->it.ownBlock≠some b->v'.ownBlock≠some b:=λb hb hne h=>by
  rcases hown4 with h4|h4
  ·exact hne (h4.symm.trans h)
  ·rw[h4,hs2]at h;cases h;omega
 refine⟨v',w3,hrun,hown3,AllP.snoc ?_ (hall.mono λb hb hlt=>⟨?_,hb.1,hv' b (by omega) hb.2⟩),?_⟩
 ·refine Bz (λb hb hlt=>⟨?_,by omega,?_⟩) t y hy
  ·have hne:it.ownBlock≠some b:=λh=>by have:=hit b h;omega
   rw[hfar b (by omega) hne,Au _ _ _ (by simp;omega),Au _ _ _ hlt]
  ·exact hv' b hlt (λh=>by have:=hit b h;omega)
 ·rw[hfar b (by omega) hb.2];exact hb2.block b hlt
 ·refine hbel.trans ⟨hgr.os.trans hb2.os,hgr.tape.trans hb2.tape,hgr.output.trans hb2.output,Al hb2.size hgr.size,λb hb=>?_⟩;rw[hfar b (by omega) (λh=>by have:=(EX hown h).1;omega)];exact hb2.block b (by omega)
theorem Pm(k:Nat)(hread:ReadSaid k)(a:Option Addr)(n c d:Nat)(b:List Int)(w:World)(h:Ag w a n c b)(hd:d+k=8)(hn:n<16777216):
 Calls prog 141 #[.slice a n c, .int .i64 d] w (AllPost w (rdAll (rd k) b.length b)):=by
 have HRD:=Xba hread;have HA:=Xba h;obtain⟨res,hres⟩:∃r,rdAll (rd k) b.length b=r:=⟨_,rfl⟩;rw[hres];have HRES:=Xba hres;have HL:=Xba h.l;clear hread h hres;go_enter func141,ntmps141;go_wp2_with fail
 go_loopw [0,6] (λbo it v=>∃(aj:Option Addr)(nj cj:Nat)(bj:List Int)(ts:List T)(ys:List V),bo= .slice aj nj cj/\Ag w aj nj cj bj/\nj+ts.length<=n/\res=RL.pre ts (rdAll (rd k) bj.length bj)/\OwnI v w.heap.size it ys/\AllP (λb=>w.heap.size<=b/\it.ownBlock≠some b) v ts ys/\Below w.heap.size w v) (λbo _ _=>lenOf bo)
 case atStart=>exact⟨a,n,c,b,[],[],rfl,HA.out,by simp,by rw[Sr];exact HRES.out.symm,Dn _ _ _ _,trivial,Ak _ _⟩
 case round=>
  obtain⟨aj,nj,cj,bj,ts,ys,rfl,hag,hnj,hres,hown,hall,hbel⟩:=hrel;have hlj:=hag.l;by_cases h0:nj=0
  ·subst h0;have hb0:bj=[]:=Ar hlj;subst hb0;rw[EW]at hres;obtain⟨ia,ic,rfl,e2,e3,e4⟩:=LD (P:=λb=>w.heap.size<=b) hown (hall.mono λb hb _=>⟨rfl,hb.1⟩) (λg hg=>World.ownsRow.lt hown g hg|>.1);have HF:Hid (AllPost w res (.returned (.tuple #[.slice ia ts.length ic, .int .i64 0])) wr):=by
    rw[hres];simp only[RL.pre,A3];exact⟨hbel,ia,ic,rfl,e2,e3,e4⟩
   clear hag hres hown hall hbel e2 e3 e4 hlj;go_wp2_with fail;go_ret2;exact HF.out
  ·have hb0:bj≠[]:=λh=>by rw[h]at hlj;simp at hlj;omega
   have hni:(0:Int)<nj:=(by omega);have hnn:0<nj:=(by omega);obtain⟨gj,offj,rfl,hc1,hc2,hcc⟩:=ag_head hag hnn;unfold maxLen at hc2;have hcal:=HRD.out _ nj cj d bj wr (hag.at hbel) hd (by omega);have HCAL:=Xba hcal;have HAG:=Xba hag;have HREL:=Xba (And.intro hres (And.intro hown (And.intro hall hbel)));clear hcal hag hres hown hall hbel hcc hlj;go_wp2_with fail;refine HCAL.out.mono ?_;rintro e w1⟨hb1,hm⟩;obtain⟨hres,hown,hall,hbel⟩:=HREL.out;cases hr:rd k bj with
   |bad er=>
    rw[hr]at hm;obtain⟨rfl,her⟩:=hm;have hfin:res= .bad er:=by
     rw[hres];obtain⟨q,hq⟩:∃q,bj.length=q+1:=⟨bj.length-1,by have:=HAG.out.l;omega⟩;rw[hq,FB hb0 hr];rfl
    have HF:Hid (∀w',Below w.heap.size w w'->AllPost w res (.returned (.tuple #[.slice none 0 0, .int .i64 (er:Nat)])) w'):=λw' hw'=>by rw[hfin];exact⟨hw',rfl,her⟩
    have hee:((er:Int) !=0)=true:=(by rw[BL];omega);have HB:=Xba ((hbel.trans (hb1.mono hbel.size)).alloc (Al hbel.size hb1.size) (.cells #[.bool false, .slice none 0 0, .slice none 0 0] 110));clear hfin hres hown hall hbel hb1 her hr HREL;go_wp2_with fail;go_ret2;exact HF.out _ HB.out
   |ok t m=>
    rw[hr]at hm;obtain⟨y,rfl,hy⟩:=hm;have HH:=Xba (And.intro hres (And.intro hown (And.intro hall (And.intro hbel (And.intro hb1 hy)))));obtain⟨hm1,hm2⟩:=Pe hr;have hml:=HAG.out.l;have HRR:=Xba hr;have hyl:ys.length<=1000000000:=(by have:=hall.len;omega);obtain⟨v',w3,hrun,s1,s2,s3⟩:=LE hown hall hbel hb1 hy hyl 108;have HRUN:=Xba hrun;have hdrop:=ag_drop HAG.out (k:=m) (by omega);have hpre:=Pl (f:=rd k) (ts:=ts) (λb t m h=>(Pe h).1) hb0 hr
    have HEND:Hid (∃(bj':List Int)(ts':List T)(ys':List V),Ag w (if cj=m then some ⟨gj,offj,none⟩else some ⟨gj,offj+m,none⟩) (nj-m) (cj-m) bj'/\nj-m+ts'.length<=n/\res=RL.pre ts' (rdAll (rd k) bj'.length bj')/\OwnI w3 w.heap.size v' ys'/\AllP (λb=>w.heap.size<=b/\v'.ownBlock≠some b) w3 ts' ys'/\Below w.heap.size w w3):=
     ⟨bj.drop m,ts++[t],ys++[y],hdrop,by rw[Ab];simp;omega,by rw[hres,hpre],s1,s2,s3⟩
    have hmi:(m:Int)<=nj:=(by omega);clear hres hown hall hbel hb1 hy hr HREL hrun s1 s2 s3 hdrop hpre hyl HH;go_wp2_with (first|refine Er rfl _ _ rfl _ _ rfl rfl HRUN.out ?_);obtain⟨bj',ts',ys',e1,e2,e3,e4,e5,e6⟩:=HEND.out;refine⟨⟨_,nj-m,cj-m,bj',ts',ys',rfl,e1,e2,e3,e4,e5,e6⟩,?_⟩;simp only[lenOf];omega
theorem XS{e:Nat}(h:hdr deep b= .bad e):e≠0:=by
 unfold hdr at h;split at h
 ·cases h;decide
 ·split at h
  ·cases h;decide
  ·split at h
   ·cases h
   ·split at h
    ·split at h
     ·cases h;assumption
     ·split at h
      ·cases h;decide
      ·cases h
    ·split at h
     ·cases h;decide
     ·cases h
theorem VL{f t:Nat}(h:hdr deep (x::r)= .ok f t)(hx:x<256):t-f<16777216∨∃y∈r,¬(0<=y/\y<256):=by
 by_cases hall:∀y∈r,0<=y/\y<256
 ·left;simp only[hdr]at h;split at h
  ·cases h
  ·split at h
   ·cases h;decide
   ·split at h
    ·split at h
     ·cases h
     ·rename_i h4;obtain⟨a1,a2,_,_,a3⟩:=GR (Decidable.not_not.1 h4);split at h
      ·cases h
      ·cases h;obtain⟨v1,v2⟩:=DF hall a2 a1;omega
    ·split at h
     ·cases h
     ·cases h;omega
 ·right;simpa using hall
theorem Po(hx:192<=x):hdr true (x::r)= .bad 21:=by
 simp[hdr,hx]
theorem Ot{off n c:Nat}(h:Ag w (some ⟨g,off,none⟩) n c b){f t:Nat}(hf:f<=t)(ht:t<=n):Ag w (if c=f then some ⟨g,off,none⟩else some ⟨g,off+f,none⟩) (t-f) (c-f) ((b.take t).drop f):=by
 have hl:=h.l;have hl2:((b.take t).drop f).length=t-f:=by rw[List.length_drop,List.length_take];omega
 refine⟨?_,?_,hl2,λx hx=>h.b x (List.mem_of_mem_take (List.mem_of_mem_drop hx))⟩
 ·by_cases h0:t-f=0
  ·exact .inl ⟨h0,List.eq_nil_of_length_eq_zero (by omega)⟩
  ·rcases h.i with⟨h1,_⟩|⟨g',off',h1,h2,h3,h4,h5,h6⟩
   ·omega
   ·cases h1;refine .inr ⟨g,off+f,if_neg (by omega),hl2,by omega,by omega,by omega,λj hj=>?_⟩;rw[hl2]at hj;have:=h6 (f+j) (by omega);rw[Nat.add_assoc,this];simp[List.getD,List.getElem?_drop,List.getElem?_take_of_lt (show f+j<t by omega)]
 ·intro hh;split at hh<;>cases hh
theorem VM(a:Option Addr)(n c d:Nat)(b:List Int)(w:World)(h:Ag w a n c b)(hd:d<=8)(hn:n<=140737488351232)(er:Nat)(hh:hdr (decide (d=8)) b= .bad er):
 Calls prog 125 #[.slice a n c, .int .i64 d] w (ReadPost w (.bad er)):=by
 have hcal:=λw'(hb:Below w.heap.size w w')=>IC a n c d b w' (h.at hb) hd (by omega);simp only[hh,HR.f,HR.t,HR.e]at hcal;have her:=XS hh;have hee:((er:Int) !=0)=true:=by rw[BL];omega
 have HCAL:=Xba hcal;clear hcal hh h;go_enter func125,ntmps125;go_wp2_with fail;refine(HCAL.out _ ((Ak _ _).alloc (Aa _) _)).mono ?_;rintro e w1⟨rfl,hb⟩;rw[show((0:Nat):Int)=0 from rfl];have hres1:w1.heap[w.heap.size]?=some (.cells #[.bool false, .slice none 0 0, .slice none 0 0] 110):=Below.row hb (Ai _ _);have hb1:Below w.heap.size w w1:=((Ak w.heap.size w).alloc (Aa _) _).trans (hb.mono (by simp));have x0:w1.cell? ⟨w.heap.size,0,none⟩=some (.bool false):=by rw[Ae _ _ _ _ _ _ hres1];rfl
 have x1:w1.cell? ⟨w.heap.size,1,none⟩=some (.slice none 0 0):=by rw[Ae _ _ _ _ _ _ hres1];rfl
 have x2:w1.cell? ⟨w.heap.size,2,none⟩=some (.slice none 0 0):=by rw[Ae _ _ _ _ _ _ hres1];rfl
 have xf:∀o,w1.frozen? ⟨w.heap.size,o,none⟩=false:=λo=>AL _ _ _ _ _ hres1;have HR:=Xba hres1;have HB1:=Xba hb1;clear hres1 hb hb1;go_wp2_with fail;have hr:=put3 HR.out (.bool false) (.slice none 0 0) (.slice none 0 0);refine Ap (Bd results125 _ _ w.heap.size _ _ _ rfl hr) rfl ?_;exact⟨Ch HB1.out (Aa _) _ _ _,rfl,her⟩
theorem EY{bs:List Int}(h:Row g w bs)(hl:bs.length=m)(hb:∀x∈bs,0<=x/\x<256)(hm:m<=140737488351232)(hP:P g):LiesP P w (.mk false bs []) ⟨false,some ⟨g,0,none⟩,m,m,none,0,0⟩:=by
 have hm2:m<=9223372036854775807:=by omega
 refine liesP_eq.2 ⟨⟨rfl,row_ag h hl hb hm2,rfl,Aa _,by show 0<=maxLen;unfold maxLen;omega,⟨hm,by show 0<=_;omega⟩,λg' off e _=>?_⟩,Du⟩;cases e;exact⟨hP,λo=>AL _ _ _ _ _ h⟩
theorem TE(a:Option Addr)(n c d:Nat)(x:Int)(r:List Int)(w:World)(h:Ag w a n c (x::r))(hd:d<=8)(hn:n<=140737488351232)(f t:Nat)(hh:hdr (decide (d=8)) (x::r)= .ok f t)(hx:x<192)(res:R)
 (hres:(if f=1/\t=2/\(x::r).getD 1 0<128 then R.bad 23 else R.ok (.mk false (((x::r).take t).drop f) []) t)=res):
 Calls prog 125 #[.slice a n c, .int .i64 d] w (ReadPost w res):=by
 have hcal:=λw'(hb:Below w.heap.size w w')=>IC a n c d (x::r) w' (h.at hb) hd (by omega);simp only[hh,HR.f,HR.t,HR.e]at hcal;obtain⟨hft,htn,ht1,_⟩:=L3 hh;rw[h.l]at htn;obtain⟨g,off,rfl,hc1,hc2,hc⟩:=ag_head h (by omega);unfold maxLen at hc2;have hsub:=Ot h hft htn;have HCAL:=Xba hcal;have HA:=Xba h;have HC:=Xba hc;have HSUB:=Xba hsub;have HRES:=Xba hres;have hbb:=h.b x (by simp);obtain⟨hx0,hx1⟩:=hbb;have hn1:0<n:=by omega
 have hn2:(0:Int)<n:=by omega
 clear hcal hh h hc hsub hres;go_enter func125,ntmps125;go_wp2_with fail;refine(HCAL.out _ ((Ak _ _).alloc (Aa _) _)).mono ?_;rintro e w1⟨rfl,hb⟩;rw[show((0:Nat):Int)=0 from rfl];have hres1:w1.heap[w.heap.size]?=some (.cells #[.bool false, .slice none 0 0, .slice none 0 0] 110):=Below.row hb (Ai _ _);have hb1:Below w.heap.size w w1:=((Ak w.heap.size w).alloc (Aa _) _).trans (hb.mono (by simp));have x0:w1.cell? ⟨w.heap.size,0,none⟩=some (.bool false):=by rw[Ae _ _ _ _ _ _ hres1];rfl
 have x1:w1.cell? ⟨w.heap.size,1,none⟩=some (.slice none 0 0):=by rw[Ae _ _ _ _ _ _ hres1];rfl
 have x2:w1.cell? ⟨w.heap.size,2,none⟩=some (.slice none 0 0):=by rw[Ae _ _ _ _ _ _ hres1];rfl
 have xf:∀o,w1.frozen? ⟨w.heap.size,o,none⟩=false:=λo=>AL _ _ _ _ _ hres1;have y0:w1.cell? ⟨g,off,none⟩=some (.int .u8 x):=by have:=HC.out 0 hn1;exact(hb1.cell (p:=⟨g,off,none⟩) (Aj this)).trans this
 have HR:=Xba hres1;have HB1:=Xba hb1;clear hres1 hb hb1;have fin:∀w1',w1'=w1->True:=λ_ _=>trivial;by_cases h12:f=1/\t=2
 ·obtain⟨rfl,rfl⟩:=h12;have y1:w1.cell? ⟨g,off+1,none⟩=some (.int .u8 ((x::r).getD 1 0)):=by have:=HC.out 1 (by omega);exact(HB1.out.cell (p:=⟨g,off+1,none⟩) (Aj this)).trans this
  have hz:=HA.out.b ((x::r).getD 1 0) (by have hl:=HA.out.l;rw[List.getD,Ac (by omega)];exact Bo _);have hres:=HRES.out;obtain⟨z,hzz⟩:∃z,(x::r).getD 1 0=z:=⟨_,rfl⟩;rw[hzz]at y1 hz hres;obtain⟨hz0,hz1⟩:=hz;have hn3:(1:Int)<n:=by omega
  clear hzz;by_cases hz8:z<128
  ·rw[Af ⟨rfl,rfl,hz8⟩]at hres;subst hres;go_wp2_with fail;have hr:=put3 HR.out (.bool false) (.slice none 0 0) (.slice none 0 0);refine Ap (Bd results125 _ _ w.heap.size _ _ _ rfl hr) rfl ?_;exact⟨Ch HB1.out (Aa _) _ _ _,rfl,by decide⟩
  ·rw[Ad (by intro h;exact hz8 h.2.2)]at hres;subst hres;have hsub:=HSUB.out;rw[Ad (by omega)]at hsub;have HCT:=Xba (Fl _ (2-1) (c-1) _ w1 (hsub.at HB1.out) (by omega));clear hsub;go_wp2_with fail;refine HCT.out.mono ?_;rintro e w2⟨rfl,hrow2,hb2⟩;have hres2:=Below.row hb2 HR.out;have x0:w2.cell? ⟨w.heap.size,0,none⟩=some (.bool false):=(by rw[Ae _ _ _ _ _ _ hres2];rfl);have x1:w2.cell? ⟨w.heap.size,1,none⟩=some (.slice none 0 0):=(by rw[Ae _ _ _ _ _ _ hres2];rfl);have x2:w2.cell? ⟨w.heap.size,2,none⟩=some (.slice none 0 0):=(by rw[Ae _ _ _ _ _ _ hres2];rfl);have xf:∀o,w2.frozen? ⟨w.heap.size,o,none⟩=false:=λo=>AL _ _ _ _ _ hres2;have HR2:=Xba hres2;have HROW:=Xba hrow2;have HB2:=Xba (HB1.out.trans (hb2.mono HB1.out.size));clear hres2 hrow2 hb2;go_wp2_with fail;have hr:=put3 HR2.out (.bool false) (.slice (some ⟨w1.heap.size+1,0,none⟩) (2-1) (2-1)) (.slice none 0 0);refine Ap (Bd results125 _ _ w.heap.size _ _ _ rfl hr) rfl ?_;have hz1:=HB1.out.size;refine⟨Ch HB2.out (Aa _) _ _ _,⟨false,some ⟨w1.heap.size+1,0,none⟩,2-1,2-1,none,0,0⟩,rfl,?_⟩;exact EY ((Ds (by omega) _ _ _).trans HROW.out) HSUB.out.l HSUB.out.b (by omega) (by show w.heap.size<=_;omega)
 ·have hres:=HRES.out;rw[Ad (λh=>h12 ⟨h.1,h.2.1⟩)]at hres;subst hres;have hsub:=HSUB.out;have HSL0:=Xba hsub.l;have HSB:=Xba hsub.b;have hfi:(f:Int)<=t:=by omega
  have hti:(t:Int)<=n:=by omega
  by_cases hcf:c=f
  ·rw[Af hcf]at hsub;have e1:t=f:=(by omega);have e2:n=f:=(by omega);subst e1 e2 hcf;rw[Cx]at hsub HSL0;have HCT:=Xba (Fl _ 0 0 _ w1 (hsub.at HB1.out) (by omega));have HSL:=HSL0;clear hsub HSUB HSL0;by_cases hf1:c=1
   ·subst hf1;have ht2:((1:Int)==2)=false:=(by decide);go_wp2_with fail;refine HCT.out.mono ?_;rintro e w2⟨rfl,hrow2,hb2⟩;have hres2:=Below.row hb2 HR.out;have x0:w2.cell? ⟨w.heap.size,0,none⟩=some (.bool false):=(by rw[Ae _ _ _ _ _ _ hres2];rfl);have x1:w2.cell? ⟨w.heap.size,1,none⟩=some (.slice none 0 0):=(by rw[Ae _ _ _ _ _ _ hres2];rfl);have x2:w2.cell? ⟨w.heap.size,2,none⟩=some (.slice none 0 0):=(by rw[Ae _ _ _ _ _ _ hres2];rfl);have xf:∀o,w2.frozen? ⟨w.heap.size,o,none⟩=false:=λo=>AL _ _ _ _ _ hres2;have HR2:=Xba hres2;have HROW:=Xba hrow2;have HB2:=Xba (HB1.out.trans (hb2.mono HB1.out.size));clear hres2 hrow2 hb2;go_wp2_with fail;have hr:=put3 HR2.out (.bool false) (.slice (some ⟨w1.heap.size+1,0,none⟩) 0 0) (.slice none 0 0);refine Ap (Bd results125 _ _ w.heap.size _ _ _ rfl hr) rfl ?_;have hz1:=HB1.out.size;refine⟨Ch HB2.out (Aa _) _ _ _,⟨false,some ⟨w1.heap.size+1,0,none⟩,0,0,none,0,0⟩,rfl,?_⟩;exact EY ((Ds (by omega) _ _ _).trans HROW.out) HSL.out HSB.out (by omega) (by show w.heap.size<=_;omega)
   ·have hf2:((c:Int)==1)=false:=(by simp;omega);go_wp2_with fail;refine HCT.out.mono ?_;rintro e w2⟨rfl,hrow2,hb2⟩;have hres2:=Below.row hb2 HR.out;have x0:w2.cell? ⟨w.heap.size,0,none⟩=some (.bool false):=(by rw[Ae _ _ _ _ _ _ hres2];rfl);have x1:w2.cell? ⟨w.heap.size,1,none⟩=some (.slice none 0 0):=(by rw[Ae _ _ _ _ _ _ hres2];rfl);have x2:w2.cell? ⟨w.heap.size,2,none⟩=some (.slice none 0 0):=(by rw[Ae _ _ _ _ _ _ hres2];rfl);have xf:∀o,w2.frozen? ⟨w.heap.size,o,none⟩=false:=λo=>AL _ _ _ _ _ hres2;have HR2:=Xba hres2;have HROW:=Xba hrow2;have HB2:=Xba (HB1.out.trans (hb2.mono HB1.out.size));clear hres2 hrow2 hb2;go_wp2_with fail;have hr:=put3 HR2.out (.bool false) (.slice (some ⟨w1.heap.size+1,0,none⟩) 0 0) (.slice none 0 0);refine Ap (Bd results125 _ _ w.heap.size _ _ _ rfl hr) rfl ?_;have hz1:=HB1.out.size;refine⟨Ch HB2.out (Aa _) _ _ _,⟨false,some ⟨w1.heap.size+1,0,none⟩,0,0,none,0,0⟩,rfl,?_⟩;exact EY ((Ds (by omega) _ _ _).trans HROW.out) HSL.out HSB.out (by omega) (by show w.heap.size<=_;omega)
  ·rw[Ad hcf]at hsub;obtain⟨q,hq⟩:∃q,q=t-f:=⟨_,rfl⟩;have HCT:=Xba (Fl _ (t-f) (c-f) _ w1 (hsub.at HB1.out) (by omega));have HSL:Hid ((((x::r).take t).drop f).length=q):=(by rw[hq];exact HSL0);have hq2:q<=140737488351232:=(by omega);have HQ:=Xba hq;clear hsub HSUB HSL0 hq;by_cases hf1:f=1
   ·subst hf1;have ht2:((t:Int)==2)=false:=(by simp at h12⊢;omega);go_wp2_with fail;refine HCT.out.mono ?_;rw[<-HQ.out];rintro e w2⟨rfl,hrow2,hb2⟩;have hres2:=Below.row hb2 HR.out;have x0:w2.cell? ⟨w.heap.size,0,none⟩=some (.bool false):=(by rw[Ae _ _ _ _ _ _ hres2];rfl);have x1:w2.cell? ⟨w.heap.size,1,none⟩=some (.slice none 0 0):=(by rw[Ae _ _ _ _ _ _ hres2];rfl);have x2:w2.cell? ⟨w.heap.size,2,none⟩=some (.slice none 0 0):=(by rw[Ae _ _ _ _ _ _ hres2];rfl);have xf:∀o,w2.frozen? ⟨w.heap.size,o,none⟩=false:=λo=>AL _ _ _ _ _ hres2;have HR2:=Xba hres2;have HROW:=Xba hrow2;have HB2:=Xba (HB1.out.trans (hb2.mono HB1.out.size));clear hres2 hrow2 hb2;go_wp2_with fail;have hr:=put3 HR2.out (.bool false) (.slice (some ⟨w1.heap.size+1,0,none⟩) q q) (.slice none 0 0);refine Ap (Bd results125 _ _ w.heap.size _ _ _ rfl hr) rfl ?_;have hz1:=HB1.out.size;refine⟨Ch HB2.out (Aa _) _ _ _,⟨false,some ⟨w1.heap.size+1,0,none⟩,q,q,none,0,0⟩,rfl,?_⟩;exact EY ((Ds (by omega) _ _ _).trans HROW.out) HSL.out HSB.out (by omega) (by show w.heap.size<=_;omega)
   ·have hf2:((f:Int)==1)=false:=(by simp;omega);go_wp2_with fail;refine HCT.out.mono ?_;rw[<-HQ.out];rintro e w2⟨rfl,hrow2,hb2⟩;have hres2:=Below.row hb2 HR.out;have x0:w2.cell? ⟨w.heap.size,0,none⟩=some (.bool false):=(by rw[Ae _ _ _ _ _ _ hres2];rfl);have x1:w2.cell? ⟨w.heap.size,1,none⟩=some (.slice none 0 0):=(by rw[Ae _ _ _ _ _ _ hres2];rfl);have x2:w2.cell? ⟨w.heap.size,2,none⟩=some (.slice none 0 0):=(by rw[Ae _ _ _ _ _ _ hres2];rfl);have xf:∀o,w2.frozen? ⟨w.heap.size,o,none⟩=false:=λo=>AL _ _ _ _ _ hres2;have HR2:=Xba hres2;have HROW:=Xba hrow2;have HB2:=Xba (HB1.out.trans (hb2.mono HB1.out.size));clear hres2 hrow2 hb2;go_wp2_with fail;have hr:=put3 HR2.out (.bool false) (.slice (some ⟨w1.heap.size+1,0,none⟩) q q) (.slice none 0 0);refine Ap (Bd results125 _ _ w.heap.size _ _ _ rfl hr) rfl ?_;have hz1:=HB1.out.size;refine⟨Ch HB2.out (Aa _) _ _ _,⟨false,some ⟨w1.heap.size+1,0,none⟩,q,q,none,0,0⟩,rfl,?_⟩;exact EY ((Ds (by omega) _ _ _).trans HROW.out) HSL.out HSB.out (by omega) (by show w.heap.size<=_;omega)
theorem ID{ia:Option Addr}{ic:Nat}(h1:ts.length<=ic)(h2:ic<=maxLen)(h3:ts.length<=140737488351232)(h:LiesPAll P w ts ia 0):LiesP P w (.mk true [] ts) ⟨true,none,0,0,ia,ts.length,ic⟩:=
 liesP_eq.2 ⟨⟨rfl,⟨.inl ⟨rfl,rfl⟩,λ_=>⟨rfl,rfl⟩,rfl,λx hx=>by cases hx⟩,rfl,h1,h2,⟨Ay _,h3⟩,λg off e=>by cases e⟩,h⟩
theorem TF(gg:List Int->R)(hlen:∀b t m,gg b= .ok t m->1<=m/\m<=b.length)(a:Option Addr)(n c d:Nat)(x:Int)(r:List Int)(w:World)(h:Ag w a n c (x::r))(hd:d<8)(hn:n<=140737488351232)(f t:Nat)(hh:hdr (decide (d=8)) (x::r)= .ok f t)(hx:192<=x)(res:R)
 (hall:∀(a:Option Addr)(n c:Nat)(b:List Int)(w:World),Ag w a n c b->n<16777216->Calls prog 141 #[.slice a n c, .int .i64 (d+1:Nat)] w (AllPost w (rdAll gg b.length b)))
 (hres:(match rdAll gg (((x::r).take t).drop f).length (((x::r).take t).drop f)with| .bad e=>R.bad e| .ok ts=>R.ok (.mk true [] ts) t)=res):
 Calls prog 125 #[.slice a n c, .int .i64 d] w (ReadPost w res):=by
 have hcal:=λw'(hb:Below w.heap.size w w')=>IC a n c d (x::r) w' (h.at hb) (by omega) (by omega);have hsmall:t-f<16777216:=by
  rcases VL hh (h.b x (by simp)).2 with h'|⟨y,hy,hny⟩
  ·exact h'
  ·exact absurd (h.b y (A9 _ hy)) hny
 simp only[hh,HR.f,HR.t,HR.e]at hcal;obtain⟨hft,htn,ht1,_⟩:=L3 hh;rw[h.l]at htn;obtain⟨g,off,rfl,hc1,hc2,hc⟩:=ag_head h (by omega);unfold maxLen at hc2;have hsub:=Ot h hft htn;have HCAL:=Xba hcal;have HALL:=Xba hall;have HLEN:=Xba hlen;have HC:=Xba hc;have HSL:=Xba hsub.l;have HRES:=Xba hres;obtain⟨hx0,hx1⟩:=h.b x (by simp);have hn1:0<n:=by omega
 have hn2:(0:Int)<n:=by omega
 have hfi:(f:Int)<=t:=by omega
 have hti:(t:Int)<=n:=by omega
 have hx2:¬x<192:=by omega
 clear hcal hh h hc hres hall hlen;by_cases hcf:c=f
 ·rw[Af hcf]at hsub;have e1:t=f:=by omega
  have e2:n=f:=by omega
  subst e1 e2 hcf;rw[Cx]at hsub HSL;have HS:=Xba hsub;clear hsub;go_enter func125,ntmps125;go_wp2_with fail;refine(HCAL.out _ ((Ak _ _).alloc (Aa _) _)).mono ?_;rintro e w1⟨rfl,hb⟩;rw[show((0:Nat):Int)=0 from rfl];have hres1:w1.heap[w.heap.size]?=some (.cells #[.bool false, .slice none 0 0, .slice none 0 0] 110):=Below.row hb (Ai _ _);have hb1:Below w.heap.size w w1:=((Ak w.heap.size w).alloc (Aa _) _).trans (hb.mono (by simp));have y0:w1.cell? ⟨g,off,none⟩=some (.int .u8 x):=by have:=HC.out 0 hn1;exact(hb1.cell (p:=⟨g,off,none⟩) (Aj this)).trans this
  have HR:=Xba hres1;have HB1:=Xba hb1;clear hres1 hb hb1;have hct:=HALL.out _ _ _ _ w1 (HS.out.at HB1.out) (by omega);have HCT:=Xba hct;clear hct;go_wp2_with fail;rw[show((d:Int)+1)=((d+1:Nat):Int)from by omega];refine HCT.out.mono ?_;rintro e w2⟨hb2,hm⟩;have hres2:=Below.row hb2 HR.out;have x0:w2.cell? ⟨w.heap.size,0,none⟩=some (.bool false):=by rw[Ae _ _ _ _ _ _ hres2];rfl
  have x1:w2.cell? ⟨w.heap.size,1,none⟩=some (.slice none 0 0):=by rw[Ae _ _ _ _ _ _ hres2];rfl
  have x2:w2.cell? ⟨w.heap.size,2,none⟩=some (.slice none 0 0):=by rw[Ae _ _ _ _ _ _ hres2];rfl
  have xf:∀o,w2.frozen? ⟨w.heap.size,o,none⟩=false:=λo=>AL _ _ _ _ _ hres2;have HR2:=Xba hres2;have HB2:=Xba (HB1.out.trans (hb2.mono HB1.out.size));have hz1:=HB1.out.size;have hz2:=lt_of_get HR.out;clear hres2 hb2;cases hr:rdAll gg (((x::r).take c).drop c).length (((x::r).take c).drop c)with
  |bad er=>
   rw[hr]at hm;obtain⟨rfl,her⟩:=hm;have hfin:=HRES.out;rw[hr]at hfin;have HF:=Xba hfin;have hee:((er:Int) !=0)=true:=(by rw[BL];omega);clear hr hfin;go_wp2_with fail;have hr:=put3 HR2.out (.bool false) (.slice none 0 0) (.slice none 0 0);refine Ap (Bd results125 _ _ w.heap.size _ _ _ rfl hr) rfl ?_;rw[<-HF.out];exact⟨Ch HB2.out (Aa _) _ _ _,rfl,her⟩
  |ok ts=>
   rw[hr]at hm;obtain⟨ia,ic,rfl,hic1,hic2,hli⟩:=hm;have hfin:=HRES.out;rw[hr]at hfin;have hlen:=Ik HLEN.out _ _ _ hr;have HF:=Xba hfin;have HLI:=Xba hli;have htl:ts.length<=140737488351232:=(by rw[HSL.out]at hlen;omega);clear hr hfin hli hlen;go_wp2_with fail;have hr:=put3 HR2.out (.bool true) (.slice none 0 0) (.slice ia ts.length ic);refine Ap (Bd results125 _ _ w.heap.size _ _ _ rfl hr) rfl ?_;rw[<-HF.out];refine⟨Ch HB2.out (Aa _) _ _ _,⟨true,none,0,0,ia,ts.length,ic⟩,rfl,?_⟩;refine ID hic1 hic2 htl (DL (λb(hb:w1.heap.size<=b) hlt=>⟨Ds (by omega) _ _ _,by omega⟩) (λu _=>Bz (λb(hb:w1.heap.size<=b) hlt=>⟨Ds (by omega) _ _ _,by omega⟩) u) HLI.out)
 ·rw[Ad hcf]at hsub;have HS:=Xba hsub;clear hsub;go_enter func125,ntmps125;go_wp2_with fail;refine(HCAL.out _ ((Ak _ _).alloc (Aa _) _)).mono ?_;rintro e w1⟨rfl,hb⟩;rw[show((0:Nat):Int)=0 from rfl];have hres1:w1.heap[w.heap.size]?=some (.cells #[.bool false, .slice none 0 0, .slice none 0 0] 110):=Below.row hb (Ai _ _);have hb1:Below w.heap.size w w1:=((Ak w.heap.size w).alloc (Aa _) _).trans (hb.mono (by simp));have y0:w1.cell? ⟨g,off,none⟩=some (.int .u8 x):=by have:=HC.out 0 hn1;exact(hb1.cell (p:=⟨g,off,none⟩) (Aj this)).trans this
  have HR:=Xba hres1;have HB1:=Xba hb1;clear hres1 hb hb1;have HCT:=Xba (HALL.out _ _ _ _ w1 (HS.out.at HB1.out) hsmall);go_wp2_with fail;rw[show((d:Int)+1)=((d+1:Nat):Int)from by omega];refine HCT.out.mono ?_;rintro e w2⟨hb2,hm⟩;have hres2:=Below.row hb2 HR.out;have x0:w2.cell? ⟨w.heap.size,0,none⟩=some (.bool false):=by rw[Ae _ _ _ _ _ _ hres2];rfl
  have x1:w2.cell? ⟨w.heap.size,1,none⟩=some (.slice none 0 0):=by rw[Ae _ _ _ _ _ _ hres2];rfl
  have x2:w2.cell? ⟨w.heap.size,2,none⟩=some (.slice none 0 0):=by rw[Ae _ _ _ _ _ _ hres2];rfl
  have xf:∀o,w2.frozen? ⟨w.heap.size,o,none⟩=false:=λo=>AL _ _ _ _ _ hres2;have HR2:=Xba hres2;have HB2:=Xba (HB1.out.trans (hb2.mono HB1.out.size));have hz1:=HB1.out.size;have hz2:=lt_of_get HR.out;clear hres2 hb2;cases hr:rdAll gg (((x::r).take t).drop f).length (((x::r).take t).drop f)with
  |bad er=>
   rw[hr]at hm;obtain⟨rfl,her⟩:=hm;have hfin:=HRES.out;rw[hr]at hfin;have HF:=Xba hfin;have hee:((er:Int) !=0)=true:=(by rw[BL];omega);clear hr hfin;go_wp2_with fail;have hr:=put3 HR2.out (.bool false) (.slice none 0 0) (.slice none 0 0);refine Ap (Bd results125 _ _ w.heap.size _ _ _ rfl hr) rfl ?_;rw[<-HF.out];exact⟨Ch HB2.out (Aa _) _ _ _,rfl,her⟩
  |ok ts=>
   rw[hr]at hm;obtain⟨ia,ic,rfl,hic1,hic2,hli⟩:=hm;have hfin:=HRES.out;rw[hr]at hfin;have hlen:=Ik HLEN.out _ _ _ hr;have HF:=Xba hfin;have HLI:=Xba hli;have htl:ts.length<=140737488351232:=(by rw[HSL.out]at hlen;omega);clear hr hfin hli hlen;go_wp2_with fail;have hr:=put3 HR2.out (.bool true) (.slice none 0 0) (.slice ia ts.length ic);refine Ap (Bd results125 _ _ w.heap.size _ _ _ rfl hr) rfl ?_;rw[<-HF.out];refine⟨Ch HB2.out (Aa _) _ _ _,⟨true,none,0,0,ia,ts.length,ic⟩,rfl,?_⟩;refine ID hic1 hic2 htl (DL (λb(hb:w1.heap.size<=b) hlt=>⟨Ds (by omega) _ _ _,by omega⟩) (λu _=>Bz (λb(hb:w1.heap.size<=b) hlt=>⟨Ds (by omega) _ _ _,by omega⟩) u) HLI.out)
theorem Nc(k:Nat)(gg:List Int->R)(hrd:∀b,rd k b=rd1 gg (decide (k=0)) b)(hlen:∀b t m,gg b= .ok t m->1<=m/\m<=b.length)
 (hall:0<k->∀(d:Nat),d+k=8->∀(a:Option Addr)(n c:Nat)(b:List Int)(w:World),Ag w a n c b->n<16777216->Calls prog 141 #[.slice a n c, .int .i64 (d+1:Nat)] w (AllPost w (rdAll gg b.length b))):ReadSaid k:=by
 intro a n c d b w h hd hn;rw[hrd];have hdec:decide (k=0)=decide (d=8):=by by_cases h0:k=0<;>simp[h0]<;>omega
 rw[hdec];unfold rd1;cases hh:hdr (decide (d=8)) b with
 |bad e=>exact VM a n c d b w h (by omega) hn e hh
 |ok f t=>
  cases b with
  |nil=>simp[hdr]at hh
  |cons x r=>
   dsimp only;by_cases hx:(x::r).headD 0<192
   ·rw[Af hx];exact TE a n c d x r w h (by omega) hn f t hh hx _ rfl
   ·rw[Ad hx];have hx2:¬x<192:=hx;have hk:0<k:=by
     cases k with
     |succ k=>omega
     |zero=>
      exfalso;have hd8:decide (d=8)=true:=(by simp;omega);rw[hd8,Po (by omega)]at hh;cases hh
    exact TF gg hlen a n c d x r w h (by omega) hn f t hh (by omega) _ (hall hk d hd) rfl
theorem Pp:∀k,ReadSaid k
 |0=>Nc 0 (λ_=> .bad 21) (λb=>rfl) (λb t m h=>by cases h) (λh=>absurd h (by omega))
 |k+1=>Nc (k+1) (rd k) (λb=>rfl) (λb t m h=>Pe h) (λ_ d hd a n c b w h hn=>Pm k (Pp k) a n c (d+1) b w h (by omega) hn)
theorem TG(a:Option Addr)(n c:Nat)(b:List Int)(w:World)(h:Ag w a n c b)(hn:n<=140737488351232):Calls prog 97 #[.slice a n c] w (ReadPost w (rd 8 b)):=by
 have hcal:=λw'(hb:Below w.heap.size w w')=>Pp 8 a n c 0 b w' (h.at hb) (by omega) hn;rw[show((0:Nat):Int)=0 from rfl]at hcal;have HCAL:=Xba hcal;obtain⟨res,hres⟩:∃r,rd 8 b=r:=⟨_,rfl⟩;rw[hres]at HCAL⊢;clear hcal h hres;go_enter func97,ntmps97;go_wp2_with fail;refine(HCAL.out _ ((Ak _ _).alloc (Aa _) _)).mono ?_;rintro e w1⟨hb,hm⟩;have hres1:w1.heap[w.heap.size]?=some (.cells #[.bool false, .slice none 0 0, .slice none 0 0] 110):=Below.row hb (Ai _ _);have hb1:Below w.heap.size w w1:=((Ak w.heap.size w).alloc (Aa _) _).trans (hb.mono (by simp));have x0:w1.cell? ⟨w.heap.size,0,none⟩=some (.bool false):=by rw[Ae _ _ _ _ _ _ hres1];rfl
 have x1:w1.cell? ⟨w.heap.size,1,none⟩=some (.slice none 0 0):=by rw[Ae _ _ _ _ _ _ hres1];rfl
 have x2:w1.cell? ⟨w.heap.size,2,none⟩=some (.slice none 0 0):=by rw[Ae _ _ _ _ _ _ hres1];rfl
 have xf:∀o,w1.frozen? ⟨w.heap.size,o,none⟩=false:=λo=>AL _ _ _ _ _ hres1;have HR:=Xba hres1;have HB1:=Xba hb1;clear hres1 hb hb1;cases res with
 |bad er=>
  obtain⟨rfl,her⟩:=hm;go_wp2_with fail;have hr:=put3 HR.out (.bool false) (.slice none 0 0) (.slice none 0 0);refine Ap (Bd results97 _ _ w.heap.size _ _ _ rfl hr) rfl ?_;exact⟨Ch HB1.out (Aa _) _ _ _,rfl,her⟩
 |ok t m=>
  obtain⟨y,rfl,hy⟩:=hm;have HY:=Xba hy;clear hy;go_wp2_with fail;have hr:=put3 HR.out (.bool y.l) (.slice y.ba y.bn y.bc) (.slice y.ia y.m y.ic);refine Ap (Bd results97 _ _ w.heap.size _ _ _ rfl hr) rfl ?_;refine⟨Ch HB1.out (Aa _) _ _ _,y,rfl,Bz (λb hb hlt=>?_) t y HY.out⟩;have hb':w.heap.size+1<=b:=by have:(w.alloc (.cells #[.bool false, .slice none 0 0, .slice none 0 0] 110)).heap.size<=b:=hb;simpa using this
  exact⟨Ds (by omega) _ _ _,by omega⟩
inductive RT where
 |bad (e:Nat)
 |ok (t:T)
def decP(b:List Int):RT:=match rd 8 b with
 | .bad e=> .bad e
 | .ok t n=>if n<b.length then .bad 24 else .ok t
def DecPost(w:World)(r:RT):Ending->World->Prop:=λe w'=>Below w.heap.size w w'/\
 match r with
 | .bad er=>e= .returned (.tuple #[.agg #[.bool false, .slice none 0 0, .slice none 0 0], .int .i64 (er:Nat)])/\er≠0
 | .ok t=>∃y:V,e= .returned (.tuple #[.agg #[.bool y.l, .slice y.ba y.bn y.bc, .slice y.ia y.m y.ic], .int .i64 0])/\LiesP (λb=>w.heap.size<=b) w' t y
theorem gen_w{W:World}{p q:World->Prop}(F:q W)(h:∀v,q v->p v):p W:=h W F
structure Rb(w v:World):Prop where
 row:v.heap[w.heap.size]?=some (.cells #[.bool false, .slice none 0 0, .slice none 0 0] 110)
 bel:Below w.heap.size w v
theorem Rb.x0{v:World}(h:Rb w v):v.cell? ⟨w.heap.size,0,none⟩=some (.bool false):=by rw[Ae _ _ _ _ _ _ h.row];rfl
theorem Rb.x1{v:World}(h:Rb w v):v.cell? ⟨w.heap.size,1,none⟩=some (.slice none 0 0):=by rw[Ae _ _ _ _ _ _ h.row];rfl
theorem Rb.x2{v:World}(h:Rb w v):v.cell? ⟨w.heap.size,2,none⟩=some (.slice none 0 0):=by rw[Ae _ _ _ _ _ _ h.row];rfl
theorem Rb.xf{v:World}(h:Rb w v):∀o,v.frozen? ⟨w.heap.size,o,none⟩=false:=λo=>AL _ _ _ _ _ h.row
theorem Rb.alloc{v:World}(h:Rb w v)(o:Obj):Rb w (v.alloc o):=⟨(Au v o _ (lt_of_get h.row)).trans h.row,h.bel.alloc h.bel.size o⟩
theorem Rb.call{v v':World}(h:Rb w v)(hb:Below v.heap.size v v'):Rb w v':=⟨Below.row hb h.row,h.bel.trans (hb.mono h.bel.size)⟩
theorem Rb.new(w:World):Rb w (w.alloc (.cells #[.bool false, .slice none 0 0, .slice none 0 0] 110)):=⟨Ai _ _,(Ak _ _).alloc (Aa _) _⟩
theorem LF(a:Option Addr)(n c:Nat)(b:List Int)(w:World)(h:Ag w a n c b)(hn:n<=140737488351232):Calls prog 69 #[.slice a n c] w (DecPost w (decP b)):=by
 have hcal:=λw'(hb:Below w.heap.size w w')=>TG a n c b w' (h.at hb) hn;have HCAL:=Xba hcal;have hl:=h.l;obtain⟨res,hres⟩:∃r,decP b=r:=⟨_,rfl⟩;rw[hres];unfold decP at hres;have HRES:=Xba hres;have HL:=Xba hl;clear hcal h hres hl;go_enter func69,ntmps69;go_wp2_with fail;refine(HCAL.out _ ((Ak _ _).alloc (Aa _) _)).mono ?_;rintro e w1⟨hb,hm⟩;have RB:=(Rb.new w).call hb;clear hb;have hres:=HRES.out;cases hrd:rd 8 b with
 |bad er=>
  rw[hrd]at hm hres;obtain⟨rfl,her⟩:=hm;subst hres;have hee:((er:Int) !=0)=true:=by rw[BL];omega
  clear hrd
  go_upto_if 14 with fail
  refine gen_w (p:=λv=>Code.wp _ _ _ _ v) (q:=λv=>Rb w v/\v.heap[w1.heap.size]?=some (.cells #[.bool false, .slice none 0 0, .slice none 0 0] 110)) ⟨RB.alloc _,Ai _ _⟩ ?_;clear RB;rintro v⟨RV,hyv⟩;have x0:=RV.x0;have x1:=RV.x1;have x2:=RV.x2;have xf:=RV.xf;have u0:v.cell? ⟨w1.heap.size,0,none⟩=some (#[.bool false, .slice none 0 0, .slice none 0 0][0]):=by rw[Ae _ _ _ _ _ _ hyv];rfl
  have u1:v.cell? ⟨w1.heap.size,1,none⟩=some (#[.bool false, .slice none 0 0, .slice none 0 0][1]):=by rw[Ae _ _ _ _ _ _ hyv];rfl
  have u2:v.cell? ⟨w1.heap.size,2,none⟩=some (#[.bool false, .slice none 0 0, .slice none 0 0][2]):=by rw[Ae _ _ _ _ _ _ hyv];rfl
  have HRV:=Xba RV;clear RV hyv;go_wp2_with fail;have hr:=put3 HRV.out.row (.bool false) (.slice none 0 0) (.slice none 0 0);refine Ap (Ez results69 _ _ w.heap.size _ _ _ rfl hr) rfl ?_;exact⟨Ch HRV.out.bel (Aa _) _ _ _,rfl,her⟩
 |ok t m=>
  rw[hrd]at hm hres;simp only[HL.out]at hres;obtain⟨y,rfl,hy⟩:=hm;have HY:Hid (∀o,LiesP (λb=>w.heap.size+1<=b) (w1.alloc o) t y):=λo=>Bz (λb hb hlt=>⟨Au _ _ _ hlt,by have:(w.alloc (.cells #[.bool false, .slice none 0 0, .slice none 0 0] 110)).heap.size<=b:=hb;simpa using this⟩) t y hy;clear hy;by_cases hmn:m<n
  ·rw[Af hmn]at hres;subst hres;have hmi:(m:Int)<n:=(by omega);clear hrd
   go_upto_if 14 with fail
   refine gen_w (p:=λv=>Code.wp _ _ _ _ v) (q:=λv=>Rb w v/\v.heap[w1.heap.size]?=some (.cells #[.bool y.l, .slice y.ba y.bn y.bc, .slice y.ia y.m y.ic] 110)/\Hid (LiesP (λb=>w.heap.size+1<=b) v t y)) ⟨RB.alloc _,Ai _ _,HY.out _⟩ ?_;clear RB HY;rintro v⟨RV,hyv,HY⟩;have x0:=RV.x0;have x1:=RV.x1;have x2:=RV.x2;have xf:=RV.xf;have u0:v.cell? ⟨w1.heap.size,0,none⟩=some (#[.bool y.l, .slice y.ba y.bn y.bc, .slice y.ia y.m y.ic][0]):=(by rw[Ae _ _ _ _ _ _ hyv];rfl);have u1:v.cell? ⟨w1.heap.size,1,none⟩=some (#[.bool y.l, .slice y.ba y.bn y.bc, .slice y.ia y.m y.ic][1]):=(by rw[Ae _ _ _ _ _ _ hyv];rfl);have u2:v.cell? ⟨w1.heap.size,2,none⟩=some (#[.bool y.l, .slice y.ba y.bn y.bc, .slice y.ia y.m y.ic][2]):=(by rw[Ae _ _ _ _ _ _ hyv];rfl);have HRV:=Xba RV;clear RV hyv;go_wp2_with fail;have hr:=put3 HRV.out.row (.bool false) (.slice none 0 0) (.slice none 0 0);refine Ap (Ez results69 _ _ w.heap.size _ _ _ rfl hr) rfl ?_;exact⟨Ch HRV.out.bel (Aa _) _ _ _,rfl,by decide⟩
  ·rw[Ad hmn]at hres;subst hres;have hmi:¬(m:Int)<n:=(by omega);clear hrd
   go_upto_if 14 with fail
   refine gen_w (p:=λv=>Code.wp _ _ _ _ v) (q:=λv=>Rb w v/\v.heap[w1.heap.size]?=some (.cells #[.bool y.l, .slice y.ba y.bn y.bc, .slice y.ia y.m y.ic] 110)/\Hid (LiesP (λb=>w.heap.size+1<=b) v t y)) ⟨RB.alloc _,Ai _ _,HY.out _⟩ ?_;clear RB HY;rintro v⟨RV,hyv,HY⟩;have x0:=RV.x0;have x1:=RV.x1;have x2:=RV.x2;have xf:=RV.xf;have u0:v.cell? ⟨w1.heap.size,0,none⟩=some (#[.bool y.l, .slice y.ba y.bn y.bc, .slice y.ia y.m y.ic][0]):=(by rw[Ae _ _ _ _ _ _ hyv];rfl);have u1:v.cell? ⟨w1.heap.size,1,none⟩=some (#[.bool y.l, .slice y.ba y.bn y.bc, .slice y.ia y.m y.ic][1]):=(by rw[Ae _ _ _ _ _ _ hyv];rfl);have u2:v.cell? ⟨w1.heap.size,2,none⟩=some (#[.bool y.l, .slice y.ba y.bn y.bc, .slice y.ia y.m y.ic][2]):=(by rw[Ae _ _ _ _ _ _ hyv];rfl);have HRV:=Xba RV;clear RV hyv;go_wp2_with fail;have hr:=put3 HRV.out.row (.bool y.l) (.slice y.ba y.bn y.bc) (.slice y.ia y.m y.ic);refine Ap (Ez results69 _ _ w.heap.size _ _ _ rfl hr) rfl ?_;refine⟨Ch HRV.out.bel (Aa _) _ _ _,y,rfl,Bz (λb(hb:w.heap.size+1<=b) hlt=>⟨Ds (by omega) _ _ _,by omega⟩) t y HY.out⟩
end Go.Proofs.YtalhnnjpjaeakaaGreat
namespace Go.Proofs.YtalhnnjpjaeakaaGreat
variable {n base : Nat}
theorem Z9(n:Nat):val (be n)=n:=by
 induction n using Nat.strongRecOn with
 |_ n ih=>
  by_cases h:n=0
  ·subst h;rw[FY];rfl
  ·rw[FM (by omega),Jb,ih _ (Eb (by omega) (by decide))];omega
theorem Zr(h:0<n):be n≠[]:=by rw[FM h];simp
theorem XT(n:Nat):0<n->(be n).headD 0≠0:=by
 induction n using Nat.strongRecOn with
 |_ n ih=>
  intro h;rw[FM h];by_cases h0:n/256=0
  ·rw[h0,FY];show((n%256:Nat):Int)≠0;omega
  ·have h1:=ih (n/256) (Eb h (by decide)) (by omega);have h2:=Zr (n:=n/256) (by omega);cases hd:be (n/256)with
   |nil=>exact absurd hd h2
   |cons x r=>rw[hd]at h1;exact h1
theorem VN{a b:List Int}(h:a≠[]):(a++b).headD 0=a.headD 0:=by
 cases a with
 |nil=>exact absurd rfl h
 |cons x r=>rfl
theorem VO(h:55<n)(h2:n<16777216)(r:List Int):lenIn (be n++r) (nb n)=(n,0):=by
 have h3:=G6 h2;have e:(be n++r).take (nb n)=be n:=by rw[<-JN,D8]
 unfold lenIn;rw[Ad (by omega),Ad (by rw[Ab,JN];omega),e,Z9,VN (Zr (by omega)),Ad];rintro(h4|h4)
 ·exact XT n (by omega) h4
 ·omega
theorem Pq(hb:base=128∨base=192)(hn:n<=63)(h:base=128->n<64):nOf ((base+n:Nat):Int)=n:=by
 unfold nOf;rcases hb with rfl|rfl
 ·split<;>omega
 ·split<;>omega
theorem VP{deep:Bool}(hb:base=128∨base=192)(hdp:base=192->deep=false)(body more:List Int)(hl:body.length<=16777215):
 hdr deep (hd base body.length++(body++more))= .ok (hd base body.length).length ((hd base body.length).length+body.length):=by
 unfold hd;by_cases h5:body.length<=55
 ·rw[Af h5];have hn:=Pq (n:=body.length) hb (by omega) (by omega);show hdr deep (((base+body.length:Nat):Int)::(body++more))=_;unfold hdr;simp only;rw[Ad (by rintro⟨h1,h2⟩;rcases hb with rfl|rfl;omega;rw[hdp rfl]at h2;cases h2),Ad (by rcases hb with rfl|rfl<;>omega),hn,Ad (by omega),Ad (by simp only[AS,Ab];omega)];rfl
 ·rw[Ad h5];have h3:=G6 (n:=body.length) (by omega);have h1:=Zn (n:=body.length) (by omega);have hn:=Pq (n:=55+nb body.length) hb (by omega) (by omega);rw[show base+(55+nb body.length)=base+55+nb body.length from by omega]at hn;show hdr deep (((base+55+nb body.length:Nat):Int)::(be body.length++(body++more)))=_;unfold hdr;simp only;rw[Ad (by rintro⟨h1,h2⟩;rcases hb with rfl|rfl;omega;rw[hdp rfl]at h2;cases h2),Ad (by rcases hb with rfl|rfl<;>omega),hn,Af (by omega),show 55+nb body.length-55=nb body.length from by omega,VO (by omega) (by omega)];simp only;rw[Ad (by simp),Ad (by simp only[AS,Ab,JN];omega)];simp only[AS,JN];congr 1<;>omega
theorem Ou(base n:Nat):1<=(hd base n).length:=by rw[hd_len];omega
theorem Jh(t:T):1<=(enc t).length:=by
 obtain⟨l,bs,its⟩:=t;rw[Ef];split
 ·rename_i h;unfold bare at h;simp only[BJ,CQ]at h;have:=h.2.1;omega
 ·rw[Ab];have:=Ou (baseOf l) (bs++encs its).length;omega
theorem Fn(t:T):(bodyOf t).length<=(enc t).length:=by
 obtain⟨l,bs,its⟩:=t;show(bs++encs its).length<=_;rw[Ef];split
 ·exact Aa _
 ·exact Al (Nat.le_add_left _ _) (Nat.le_of_eq List.length_append.symm)
theorem Ps(h body more:List Int):((h++(body++more)).take (h.length+body.length)).drop h.length=body:=by
 rw[<-AE,List.take_left' (by rw[Ab]),Cm]
theorem Ss(hb:base=128∨base=192)(hn:n<16777216)(r:List Int):(hd base n++r).headD 0<192↔base=128:=by
 have h3:=G6 hn;unfold hd;split
 ·show((base+n:Nat):Int)<192↔_;rcases hb with rfl|rfl<;>omega
 ·show((base+55+nb n:Nat):Int)<192↔_;rcases hb with rfl|rfl<;>omega
theorem Pt(g:List Int->R)(deep:Bool)(bs more:List Int)(hl:bs.length<=16777215):rd1 g deep (enc (.mk false bs [])++more)= .ok (.mk false bs []) (enc (.mk false bs [])).length:=by
 rw[Ef,Cq,A3];by_cases hb:bare false bs=true
 ·rw[Af hb];unfold bare at hb;simp only[Bool.not_false,E7,BJ,CQ]at hb
  match bs,hb with
  |[x],⟨_,h2⟩=>
   have h2':x<128:=h2;show rd1 g deep (x::more)=_;have e:hdr deep (x::more)= .ok 0 1:=by
    unfold hdr;simp only;rw[Ad (by omega),Af h2']
   unfold rd1;rw[e];simp only;rw[Af (show(x::more).headD 0<192 by show x<192;omega),Ad (by simp)];rfl
 ·rw[Ad hb,baseOf,Ad (by simp),AE];have e:=VP (deep:=deep) (base:=128) (.inl rfl) (λh=>by cases h) bs more hl;unfold rd1;rw[e];simp only;have hh:(hd 128 bs.length++(bs++more)).headD 0<192:=(Ss (base:=128) (Or.inl rfl) (n:=bs.length) (by omega) (bs++more)).2 rfl;rw[Af hh,Ps,Ab,Ad];rintro⟨h1,h2,h3⟩;apply hb;have hn1:bs.length=1:=by omega
  have h5:hd 128 bs.length=[((128+bs.length:Nat):Int)]:=by unfold hd;rw[Af (by omega)]
  rw[h5]at h3;clear hh e;obtain⟨x,rfl⟩:=List.length_eq_one_iff.1 hn1;have h3':x<128:=h3;unfold bare;simp[h3']
theorem LG{g:List Int->R}:∀(its:List T)(fuel:Nat),(encs its).length<=fuel->(∀t∈its,∀more,g (enc t++more)= .ok t (enc t).length)->rdAll g fuel (encs its)= .ok its
 |[],fuel,_,_=>by rw[Cq,EW]
 |t::r,fuel,hl,h=>by
  rw[C7]at hl⊢;have h1:=Jh t;rw[Ab]at hl;obtain⟨f,rfl⟩:∃f,fuel=f+1:=⟨fuel-1,by omega⟩;have hne:enc t++encs r≠[]:=by
   intro e;have:=Av List.length e;rw[Ab,Cj]at this;omega
  rw[Gq hne (h t (BU ..) _),Cm,LG r f (by omega) (λu hu=>h u (A9 _ hu))]
theorem Fo:∀{its:List T}{t:T},t∈its->(enc t).length<=(encs its).length
 |x::r,t,ht=>by
  rw[C7,Ab];rcases Az.1 ht with rfl|ht
  ·omega
  ·have:=Fo ht;omega
theorem ZA:∀t,∀k d w more,d+k=8->(wk t d w).2=0->(bodyOf t).length<=16777215->rd k (enc t++more)= .ok t (enc t).length:=by
 refine T.ind λl bs its ih k d w more hdk h hl=>?_;obtain⟨h1,h2,h3,h4⟩:=Pd h;have hw:=EL h2;cases l with
 |false=>
  have hi:its=[]:=by simpa using hw
  subst hi;have hl2:bs.length<=16777215:=by
   have:(bs++encs []).length<=16777215:=hl;rwa [Cq,A3]at this
  cases k with
  |zero=>exact Pt _ _ _ _ hl2
  |succ k=>exact Pt _ _ _ _ hl2
 |true=>
  have hbs:bs=[]:=by simpa using hw
  subst hbs;have hd8:=h1 rfl;obtain⟨k,rfl⟩:∃k',k=k'+1:=⟨k-1,by omega⟩;have hl2:(encs its).length<=16777215:=by
   have:(([]:List Int)++encs its).length<=16777215:=hl;rwa [A6]at this
  rw[h4]at h;have hall:∀t∈its,∀more,rd k (enc t++more)= .ok t (enc t).length:=by
   intro t ht more;obtain⟨w',hw'⟩:=On h t ht;have a1:=Fn t;have a2:=Fo ht;exact ih t ht k (d+1) w' more (by omega) hw' (by omega)
  rw[Ef,A6,Ad (by simp[bare]),baseOf,Af rfl,AE];have e:=VP (deep:=false) (base:=192) (.inr rfl) (λ_=>rfl) (encs its) more hl2;show rd1 (rd k) false _=_;unfold rd1;rw[e];simp only;have hh:¬(hd 192 (encs its).length++(encs its++more)).headD 0<192:=λh=>by
   have:=(Ss (base:=192) (Or.inr rfl) (n:=(encs its).length) (by omega) (encs its++more)).1 h;omega
  rw[Ad hh,Ps,LG its _ (Aa _) hall,Ab]
theorem ZB{t:T}(h:(mP t).2=0)(more:List Int):rd 8 (enc t++more)= .ok t (enc t).length:=by
 obtain⟨h1,h2,_⟩:=Zp h;have hf:=Ja t 0 0 h1;exact ZA t 8 0 0 more rfl h1 (by rw[<-IZ hf];omega)
theorem KU{t:T}(h:(mP t).2=0):decP (enc t)= .ok t:=by
 have:=ZB h [];rw[A3]at this;unfold decP;rw[this];simp only;rw[Ad (by omega)]
def Deep(d:Nat)(t:T):Prop:=∀w,w+(enc t).length<=16777215->((wk t d w).2=0/\(wk t d w).1<=w+(enc t).length)∨(wk t d w).2=21
theorem Su(h:n<16777216):(hd base n).length<=4:=by
 rw[hd_len];have:=G6 h;split<;>omega
end Go.Proofs.YtalhnnjpjaeakaaGreat
namespace Go.Proofs.YtalhnnjpjaeakaaGreat
open Ni (unpP packP rightP)
variable {dk' : List Int → Int} {b : List Int} {u : T}
structure PR where
 k:Int
 d:List Int
 i:List Int
structure PN where
 k:Int
 p:List Int
 v:List Int
 c:PR
 ks:List PR
def z32:List Int:=List.replicate 32 0
def r0:PR:=⟨0,z32,[]⟩
def n0:PN:=⟨0,[],[],r0,[]⟩
def t0:T:= .mk false [] []
def refOfP(t:T):Option PR:=
 if t.l=true then(if(mP t).2=0 then some ⟨1,z32,enc t⟩else none)
 else if t.bs.length=0 then some r0
 else if t.bs.length=32 then some ⟨2,t.bs,[]⟩else none
def pathP(x y:T):Option PN:=
 if x.l=true∨(unpP x.bs).2.2≠0 then none
 else if(unpP x.bs).2.1=true then(if y.l=true then none else some ⟨1,(unpP x.bs).1,y.bs,r0,[]⟩)
 else match refOfP y with
  |none=>none
  |some c=>some ⟨2,(unpP x.bs).1,[],c,[]⟩
def kidsP:List T->Option (List PR)
 |[]=>some []
 |t::r=>match refOfP t with
  |none=>none
  |some a=>match kidsP r with
   |none=>none
   |some l=>some (a::l)
def branchP(ts:List T)(y:T):Option PN:=match kidsP ts with
 |none=>none
 |some ks=>if y.l=true then none else some ⟨3,[],y.bs,r0,ks⟩
def nodeOfP(t:T):Option PN:=
 if t.its.length=2 then pathP (t.its.getD 0 t0) (t.its.getD 1 t0)
 else if t.its.length=17 then branchP (t.its.take 16) (t.its.getD 16 t0)else none
def kd(o:Option PN):Int:=match o with
 |none=>0
 |some n=>n.k
def rrefP(dk:List Int->Int)(r:PR):Bool:=
 if r.k=0 then decide (r.d=z32)&&decide (r.i.length=0)
 else if r.k=2 then decide (r.i.length=0)
 else if r.k=1 then decide (r.d=z32)&&decide (r.i.length<32)&&decide (dk r.i≠0)
 else false
def rpathP(n:PN):Bool:=
 if n.k=2 then(if n.p.length=0 then false else decide (n.p.length<=64)&&rightP n.p)
 else if n.k=1 then decide (n.p.length<=64)&&rightP n.p
 else decide (n.p.length=0)
def rvalueP(n:PN):Bool:=
 if n.k=1 then(if n.v.length=0 then false else decide (n.v.length<=256))
 else if n.k=3 then decide (n.v.length<=256)
 else decide (n.v.length=0)
def rchildP(dk:List Int->Int)(n:PN):Bool:=
 if rrefP dk n.c=false then false
 else if n.k≠2 then decide (n.c.k=0)
 else decide (n.c.k=2)||decide (dk n.c.i=3)
def ways:List PR->Nat
 |[]=>0
 |r::l=>(if r.k≠0 then 1 else 0)+ways l
def rkidsP(dk:List Int->Int)(n:PN):Bool:=
 if n.k≠3 then decide (n.ks.length=0)
 else if n.ks.length≠16 then false
 else n.ks.all (rrefP dk)&&decide (2<=(if 0<n.v.length then 1 else 0)+ways n.ks)
def knownP(n:PN):Bool:=decide (n.k=1)||decide (n.k=2)||decide (n.k=3)
def nright(dk:List Int->Int)(n:PN):Bool:=knownP n&&rpathP n&&rvalueP n&&rchildP dk n&&rkidsP dk n
def ndec:Nat->List Int->Option PN
 |0,_=>none
 |f+1,b=>match decP b with
  | .bad _=>none
  | .ok t=>match nodeOfP t with
   |none=>none
   |some n=>if nright (λi=>kd (ndec f i)) n=true then some n else none
def ND(b:List Int):Option PN:=ndec 33 b
def KD(b:List Int):Int:=kd (ND b)
def NR(n:PN):Bool:=nright KD n
def refItemP(r:PR):T:=
 if r.k=1 then(match decP r.i with| .ok t=>t| .bad _=>t0)
 else if r.k=2 then .mk false r.d []else t0
def itemP(n:PN):T:=
 if n.k=3 then .mk true [] (n.ks.map refItemP++[.mk false n.v []])
 else if n.k=1 then .mk true [] [.mk false (packP n.p true).1 [], .mk false n.v []]
 else .mk true [] [.mk false (packP n.p false).1 [],refItemP n.c]
def isB(b:List Int):Prop:=∀x∈b,0<=x/\x<256
def okR(r:PR):Prop:=isB r.d/\r.d.length=32/\isB r.i
def okN(n:PN):Prop:=isB n.p/\isB n.v/\okR n.c/\∀r∈n.ks,okR r
theorem LH{dk:List Int->Int}{r:PR}(h:r.i.length<32->dk r.i=dk' r.i):rrefP dk r=rrefP dk' r:=by
 unfold rrefP;by_cases h32:r.i.length<32
 ·rw[h h32]
 ·simp[h32]
theorem LI{dk:List Int->Int}{r:PR}(h:rrefP dk r=true):r.i.length<32:=by
 unfold rrefP at h;by_cases h0:r.k=0
 ·simp[h0]at h;rw[h.2];decide
 ·by_cases h2:r.k=2
  ·simp[h2]at h;rw[h];decide
  ·by_cases h1:r.k=1
   ·simp[h1]at h;omega
   ·simp[h0,h1,h2]at h
theorem Nd{dk dk':List Int->Int}:∀{ks:List PR},(∀r∈ks,r.i.length<32->dk r.i=dk' r.i)->ks.all (rrefP dk)=ks.all (rrefP dk')
 |[],_=>rfl
 |r::l,h=>by
  rw[List.all_cons,List.all_cons,LH (h r (by simp)),Nd λx hx=>h x (A9 _ hx)]
theorem Ji{dk:List Int->Int}{n:PN}(hc:n.c.i.length<32->dk n.c.i=dk' n.c.i)(hk:∀r∈n.ks,r.i.length<32->dk r.i=dk' r.i):nright dk n=nright dk' n:=by
 unfold nright rchildP rkidsP;rw[Nd hk,LH hc];by_cases h:rrefP dk' n.c=false
 ·simp[h]
 ·rw[hc (LI (by simpa using h))]
theorem G7{t:T}(hb:isB b)(h:decP b= .ok t):enc t=b/\(mP t).2=0/\form t=true:=by
 have hr:rd 8 b= .ok t b.length:=by
  unfold decP at h;cases hq:rd 8 b with
  |bad e=>rw[hq]at h;cases h
  |ok t' n=>
   rw[hq]at h;dsimp only at h;have:=Pe hq;by_cases hn:n<b.length
   ·rw[Af hn]at h;cases h
   ·rw[Ad hn]at h;cases h;rw[show n=b.length from by omega]
 obtain⟨h1,h2⟩:=XR hb hr;refine⟨?_,h2,(Je h2).2.2⟩;unfold encP at h1;rw[Af h2]at h1;exact Av Prod.fst h1
theorem Ku{t:T}(hf:form t=true)(h:0<t.its.length):t.l=true/\t.bs=[]/\forms t.its=true:=by
 obtain⟨l,bs,its⟩:=t;cases l with
 |false=>rw[Ed hf]at h;exact absurd h (by simp[T.its])
 |true=>exact⟨rfl,EK hf⟩
theorem XU{t:T}(h:t.l=true)(hb:t.bs=[]):enc t=hd 192 (encs t.its).length++encs t.its:=by
 obtain⟨l,bs,its⟩:=t;simp only[T.l,T.bs]at h hb;subst h hb;rw[Ef,A6,Ad (by simp[bare]),baseOf,Af rfl];rfl
theorem FC{l:List T}{i:Nat}(h:i<l.length):l.getD i t0∈l:=by
 rw[List.getD,Ac h];exact Bo h
theorem Jj:∀{its:List T}{t:T},t∈its->∀x∈enc t,x∈encs its
 |y::r,t,ht,x,hx=>by
  rw[C7];rcases Az.1 ht with rfl|ht
  ·exact Df _ hx
  ·exact DC _ (Jj ht x hx)
theorem Jk{t:T}(hb:isB b)(h:decP b= .ok t)(hu:u∈t.its):(enc u).length<b.length/\∀x∈enc u,x∈b:=by
 obtain⟨h1,h2,h3⟩:=G7 hb h;obtain⟨l1,l2,l3⟩:=Ku h3 (List.length_pos_of_mem hu);rw[XU l1 l2]at h1;have:=Fo hu;have:=Ou 192 (encs t.its).length;rw[<-h1];refine⟨by rw[Ab];omega,λx hx=>DC _ (Jj hu x hx)⟩
theorem XV{r:PR}(h:refOfP u=some r):r.i=enc u∨r.i=[]:=by
 unfold refOfP at h;by_cases hl:u.l=true
 ·rw[Af hl]at h;by_cases hm:(mP u).2=0
  ·rw[Af hm]at h;cases h;exact .inl rfl
  ·rw[Ad hm]at h;cases h
 ·rw[Ad hl]at h;by_cases h0:u.bs.length=0
  ·rw[Af h0]at h;cases h;exact .inr rfl
  ·rw[Ad h0]at h;by_cases h32:u.bs.length=32
   ·rw[Af h32]at h;cases h;exact .inr rfl
   ·rw[Ad h32]at h;cases h
theorem Pu:∀{ts:List T}{ks:List PR},kidsP ts=some ks->ks.length=ts.length/\∀r∈ks,∃u∈ts,refOfP u=some r
 |[],ks,h=>by cases h;exact⟨rfl,λr hr=>by cases hr⟩
 |t::l,ks,h=>by
  rw[kidsP]at h;cases hr:refOfP t with
  |none=>rw[hr]at h;cases h
  |some a=>
   rw[hr]at h;dsimp only at h;cases hk:kidsP l with
   |none=>rw[hk]at h;cases h
   |some l'=>
    rw[hk]at h;cases h;obtain⟨h1,h2⟩:=Pu hk;refine⟨by simp[h1],λr hr'=>?_⟩;rcases Az.1 hr' with rfl|hr'
    ·exact⟨t,by simp,hr⟩
    ·obtain⟨u,hu,e⟩:=h2 r hr';exact⟨u,by simp[hu],e⟩
theorem Kv{t:T}{n:PN}(h:nodeOfP t=some n):0<t.its.length/\∀r,(r=n.c∨r∈n.ks)->r.i=[]∨∃u∈t.its,refOfP u=some r:=by
 unfold nodeOfP at h;by_cases h2:t.its.length=2
 ·rw[Af h2]at h;refine⟨by omega,?_⟩;unfold pathP at h;split at h
  ·cases h
  ·split at h
   ·split at h
    ·cases h
    ·cases h;intro r hr;rcases hr with rfl|hr
     ·exact .inl rfl
     ·cases hr
   ·cases hq:refOfP (t.its.getD 1 t0)with
    |none=>rw[hq]at h;cases h
    |some c=>
     rw[hq]at h;cases h;intro r hr;rcases hr with rfl|hr
     ·exact .inr ⟨_,FC (by omega),hq⟩
     ·cases hr
 ·rw[Ad h2]at h;by_cases h17:t.its.length=17
  ·rw[Af h17]at h;refine⟨by omega,?_⟩;unfold branchP at h;cases hk:kidsP (t.its.take 16)with
   |none=>rw[hk]at h;cases h
   |some ks=>
    rw[hk]at h;dsimp only at h;split at h
    ·cases h
    ·cases h;intro r hr;rcases hr with rfl|hr
     ·exact .inl rfl
     ·obtain⟨u,hu,e⟩:=(Pu hk).2 r hr;exact .inr ⟨u,Bi hu,e⟩
  ·rw[Ad h17]at h;cases h
theorem LJ{t:T}{n:PN}(hb:isB b)(h:decP b= .ok t)(hn:nodeOfP t=some n):∀r,(r=n.c∨r∈n.ks)->r.i.length<b.length/\isB r.i:=by
 obtain⟨h0,hr⟩:=Kv hn;have hu0:=(Jk hb h (FC h0)).1;intro r hrr;rcases hr r hrr with e|⟨u,hu,e⟩
 ·rw[e];exact⟨by simp;omega,λx hx=>by cases hx⟩
 ·obtain⟨s1,s2⟩:=Jk hb h hu;rcases XV e with e|e
  ·rw[e];exact⟨s1,λx hx=>hb x (s2 x hx)⟩
  ·rw[e];exact⟨by simp;omega,λx hx=>by cases hx⟩
theorem TH:∀(L:Nat)(b:List Int),b.length<=L->isB b->∀f f',b.length<f->b.length<f'->ndec f b=ndec f' b:=by
 intro L
 induction L using Nat.strongRecOn with
 |_ L ih=>
  intro b hL hb f f' hf hf';obtain⟨g,rfl⟩:∃g,f=g+1:=⟨f-1,by omega⟩;obtain⟨g',rfl⟩:∃g',f'=g'+1:=⟨f'-1,by omega⟩;rw[ndec,ndec];cases hd:decP b with
  |bad e=>rfl
  |ok t=>
   dsimp only;cases hn:nodeOfP t with
   |none=>rfl
   |some n=>
    dsimp only;have hs:=LJ hb hd hn;have hcg:∀r,(r=n.c∨r∈n.ks)->ndec g r.i=ndec g' r.i:=λr hr=>by
     obtain⟨s1,s2⟩:=hs r hr;exact ih r.i.length (by omega) r.i (Aa _) s2 g g' (by omega) (by omega)
    rw[Ji (dk:=λi=>kd (ndec g i)) (dk':=λi=>kd (ndec g' i)) (λ_=>by rw[hcg _ (.inl rfl)]) (λr hr _=>by rw[hcg _ (.inr hr)])]
theorem Sv(hb:isB b):ND b=match decP b with
 | .bad _=>none
 | .ok t=>match nodeOfP t with
  |none=>none
  |some n=>if NR n=true then some n else none:=by
 show ndec (32+1) b=_;rw[ndec];cases hd:decP b with
 |bad e=>rfl
 |ok t=>
  dsimp only;cases hn:nodeOfP t with
  |none=>rfl
  |some n=>
   dsimp only;have hs:=LJ hb hd hn;have hcg:∀r,(r=n.c∨r∈n.ks)->r.i.length<32->ndec 32 r.i=ND r.i:=λr hr h32=>by
    obtain⟨s1,s2⟩:=hs r hr;exact TH r.i.length r.i (Aa _) s2 32 33 (by omega) (by omega)
   rw[Ji (dk:=λi=>kd (ndec 32 i)) (dk':=KD) (λh=>by unfold KD;rw[hcg _ (.inl rfl) h]) (λr hr h=>by unfold KD;rw[hcg _ (.inr hr) h])];rfl
theorem Ga{n:PN}(hb:isB b)(h:ND b=some n):∃t,decP b= .ok t/\nodeOfP t=some n/\NR n=true:=by
 rw[Sv hb]at h;cases hd:decP b with
 |bad e=>rw[hd]at h;cases h
 |ok t=>
  rw[hd]at h;dsimp only at h;cases hn:nodeOfP t with
  |none=>rw[hn]at h;cases h
  |some m=>
   rw[hn]at h;dsimp only at h;by_cases hr:NR m=true
   ·rw[Af hr]at h;cases h;exact⟨t,rfl,hn,hr⟩
   ·rw[Ad hr]at h;cases h
theorem ZC{t:T}{n:PN}(hb:isB b)(hd:decP b= .ok t)(hn:nodeOfP t=some n)(hr:NR n=true):ND b=some n:=by
 rw[Sv hb,hd];dsimp only;rw[hn];dsimp only;rw[Af hr]
theorem Ov{n:PN}(h:NR n=true):n.k=1∨n.k=2∨n.k=3:=by
 unfold NR nright knownP at h;simp only[BJ,Bool.or_eq_true,CQ]at h;omega
theorem Jl(h:KD b≠0):∃n,ND b=some n/\n.k=KD b:=by
 unfold KD at h⊢;cases hq:ND b with
 |none=>rw[hq]at h;exact absurd rfl h
 |some n=>exact⟨n,rfl,rfl⟩
end Go.Proofs.YtalhnnjpjaeakaaGreat
