/- Rows of items that grow while a box in front of them is written: what the document's Encode goes through. -/
import Derived.Test.YtalhnnjpjaeakaaGreatAK
import Derived.Test.YtalhnnjpjaeakaaGreatG18
import Derived.Test.YtalhnnjpjaeakaaGreatG14
import Derived.Test.YtalhnnjpjaeakaaGreatG07
import Derived.Deep.CutRange
import Derived.Test.YtalhnnjpjaeakaaGreatG10
import Derived.Test.YtalhnnjpjaeakaaGreatG01
set_option linter.unusedVariables false
set_option maxRecDepth 100000
set_option maxHeartbeats 4000000
open Go.Proofs.Tryz Go.RowKit
namespace Go.Proofs.YtalhnnjpjaeakaaGreat
variable {base k gI c i j : Nat} {w w1 v' U : World} {ys : List V} {ts : List T} {y : V} {x : NV} {b r : List Int} {deep : Bool} {g : List Int → R}
def trunc(base:Nat)(w:World):World:={w with heap:=w.heap.take base}
theorem IP(h:base<=w.heap.size):(trunc base w).heap.size=base:=by
 show(w.heap.take base).size=base;simp;omega
theorem Hj(h:k<base):(trunc base w).heap[k]?=w.heap[k]?:=by
 show(w.heap.take base)[k]?=w.heap[k]?;rw[Array.take_eq_extract,Array.getElem?_extract];by_cases hk:k<w.heap.size
 ·rw[Af (by omega),AD]
 ·rw[Ad (by omega),Array.getElem?_eq_none (by omega)]
theorem KC(h:base<=w.heap.size):Below base (trunc base w) w:=⟨rfl,rfl,rfl,by rw[IP h];exact h,λk hk=>(Hj hk).symm⟩
theorem KE{w':World}(h:base<=w.heap.size)(hz:w.heap.size<=w'.heap.size)(hb:Below base (trunc base w) w'):Below base w w':=⟨hb.os,hb.tape,hb.output,hz,λk hk=>(hb.block k hk).trans (Hj hk)⟩
theorem Rj{wr:World}{it:Value}{t:T}(hz:base<=wr.heap.size)(hown:OwnI wr base it ys)(hall:AllP (λb=>base<=b/\it.ownBlock≠some b) wr ts ys)(hb1:Below wr.heap.size wr w1)
 (hy:LiesP (λb=>wr.heap.size<=b) w1 t y) (hlen:ys.length<=1000000000) (ty:TypeId):
 ∃v' w3,(Builtin.append_ #[108,108] ty #[it, .slice (some ⟨w1.heap.size,0,none⟩) 1 1]).run prog (w1.alloc (.cells #[.bool y.l, .slice y.ba y.bn y.bc, .slice y.ia y.m y.ic] 110))= .ok v' w3/\
  OwnI w3 base v' (ys++[y])/\AllP (λb=>base<=b/\v'.ownBlock≠some b) w3 (ts++[t]) (ys++[y])/\Below base wr w3:=by
 have hs:=IP hz;obtain⟨v',w3,h1,h2,h3,h4,_,h6⟩:=JZ (w:=trunc base wr) (wr:=wr) (w1:=w1) (by rw[hs];exact hown) (by rw[hs];exact hall) (by rw[hs];exact KC hz) hb1 hy hlen ty;rw[hs]at h2 h3 h4;exact⟨v',w3,h1,h2,h3,KE hz (by have:=hb1.size;omega) h4⟩
theorem PX{w0 wr:World}{it:Value}{t:T}(hz0:w0.heap.size<=base)(hb0:Below w0.heap.size w0 wr)(hz:base<=wr.heap.size)(hown:OwnI wr base it ys)(hall:AllP (λb=>base<=b/\it.ownBlock≠some b) wr ts ys)(hb1:Below wr.heap.size wr w1)
 (hy:Lies w0 t y) (hlen:ys.length<=1000000000) (ty:TypeId):
 ∃v' w3,(Builtin.append_ #[108,108] ty #[it, .slice (some ⟨w1.heap.size,0,none⟩) 1 1]).run prog (w1.alloc (.cells #[.bool y.l, .slice y.ba y.bn y.bc, .slice y.ia y.m y.ic] 110))= .ok v' w3/\
  Below base wr w3/\
  ∃ia ic,v'= .slice ia (ts.length+1) ic/\ts.length+1<=ic/\ic<=maxLen/\∀w4,w3.heap.size<=w4.heap.size->(∀b,base<=b->b<w3.heap.size->w4.heap[b]?=w3.heap[b]?)->Below w0.heap.size w0 w4->LiesAll w4 (ts++[t]) ia 0:=by
 have hs:=IP hz;have hb0':Below w0.heap.size w0 (trunc base wr):=⟨hb0.os,hb0.tape,hb0.output,by rw[hs];exact hz0,λk hk=>(Hj (by omega)).trans (hb0.block k hk)⟩;obtain⟨v',w3,h1,h2,h3,h4⟩:=Rh (w:=trunc base wr) (wr:=wr) (w1:=w1) hb0' (by rw[hs];exact hown) (by rw[hs];exact hall) (by rw[hs];exact KC hz) hb1 hy hlen ty;rw[hs]at h2 h4;exact⟨v',w3,h1,KE hz (by have:=hb1.size;omega) h2,h4⟩
structure En(w v:World)(x:NV)(gI:Nat)(it:Value):Prop where
 row:v.heap[gI]?=some (.cells #[.bool true, .slice none 0 0,it] 110)
 bx:NBx w.heap.size v x
 bel:Below w.heap.size w v
 gi:w.heap.size<gI
 sz:gI+1<=v.heap.size
theorem En.go{v:World}{it:Value}(h:En w v x gI it)(hb:Below (gI+1) v v'):En w v' x gI it:=
 ⟨(hb.block gI (by omega)).trans h.row,⟨(hb.block _ (by have:=h.gi;omega)).trans h.bx.row,h.bx.l⟩,
   ⟨hb.os.trans h.bel.os,hb.tape.trans h.bel.tape,hb.output.trans h.bel.output,Al h.bel.size hb.size,λk hk=>(hb.block k (by have:=h.gi;omega)).trans (h.bel.block k hk)⟩,h.gi,Al h.sz hb.size⟩
theorem En.all{v:World}{it:Value}(h:En w v x gI it)(hb:Below v.heap.size v v'):En w v' x gI it:=h.go ⟨hb.os,hb.tape,hb.output,hb.size,λk hk=>hb.block k (by have:=h.sz;omega)⟩
theorem En.c0{v:World}{it:Value}(h:En w v x gI it):v.cell? ⟨gI,0,none⟩=some (.bool true):=by rw[Ae _ _ _ _ _ _ h.row];rfl
theorem En.c1{v:World}{it:Value}(h:En w v x gI it):v.cell? ⟨gI,1,none⟩=some (.slice none 0 0):=by rw[Ae _ _ _ _ _ _ h.row];rfl
theorem En.c2{v:World}{it:Value}(h:En w v x gI it):v.cell? ⟨gI,2,none⟩=some it:=by rw[Ae _ _ _ _ _ _ h.row];rfl
theorem En.fz{v:World}{it:Value}(h:En w v x gI it):∀o,v.frozen? ⟨gI,o,none⟩=false:=λo=>AL _ _ _ _ _ h.row
theorem En.put{v:World}{it:Value}(h:En w v x gI it)(it':Value):En w (v.setCell ⟨gI,2,none⟩ it') x gI it':=by
 refine⟨?_,⟨(A8 _ _ _ _ (by show w.heap.size≠gI;have:=h.gi;omega)).trans h.bx.row,h.bx.l⟩,h.bel.setCell (by have:=h.gi;show w.heap.size<=gI;omega) it',h.gi,by simpa using h.sz⟩;have:=AO v gI 2 _ 110 it' h.row;rw[this];rfl
def So(gI:Nat)(v:World)(it:Value)(ts:List T):Prop:=∃ys:List V,OwnI v (gI+1) it ys/\AllP (λb=>gI+1<=b/\it.ownBlock≠some b) v ts ys
theorem So.put{v:World}{it:Value}(h:So gI v it ts)(u:Value):So gI (v.setCell ⟨gI,2,none⟩ u) it ts:=by
 obtain⟨ys,h1,h2⟩:=h;exact⟨ys,DZ h1 λg hg _=>A8 _ _ _ _ (by have:=(EX h1 hg).1;show g≠gI;omega),h2.mono λb hb _=>⟨A8 _ _ _ _ (by show b≠gI;omega),hb⟩⟩
theorem So.all{v:World}{it:Value}(h:So gI v it ts)(hb:Below v.heap.size v v'):So gI v' it ts:=by
 obtain⟨ys,h1,h2⟩:=h;exact⟨ys,DZ h1 λg _ hlt=>hb.block g hlt,h2.mono λb hb' hlt=>⟨hb.block b hlt,hb'⟩⟩
theorem Xaf(gI:Nat)(v:World):So gI v (.slice none 0 0) []:=⟨[],Dn _ _ _ _,trivial⟩
theorem WM{wr:World}{it:Value}{t:T}(hz:gI+1<=wr.heap.size)(h:So gI wr it ts)(hb1:Below wr.heap.size wr w1)(hy:LiesP (λb=>wr.heap.size<=b) w1 t y)(hlen:ts.length<=1000)(ty:TypeId):
 ∃v' w3,(Builtin.append_ #[108,108] ty #[it, .slice (some ⟨w1.heap.size,0,none⟩) 1 1]).run prog (w1.alloc (.cells #[.bool y.l, .slice y.ba y.bn y.bc, .slice y.ia y.m y.ic] 110))= .ok v' w3/\So gI w3 v' (ts++[t])/\Below (gI+1) wr w3:=by
 obtain⟨ys,h1,h2⟩:=h;obtain⟨v',w3,e1,e2,e3,e4⟩:=Rj hz h1 h2 hb1 hy (by have:=h2.len;omega) ty;exact⟨v',w3,e1,⟨_,e2,e3⟩,e4⟩
def Full(gI:Nat)(w v:World)(it:Value)(ts:List T):Prop:=∃ia ic,it= .slice ia ts.length ic/\ts.length<=ic/\ic<=maxLen/\LiesAll v ts ia 0
theorem So.full{v:World}{it:Value}(h:So gI v it ts):Full gI w v it ts:=by
 obtain⟨ys,h1,h2⟩:=h;exact Kd h1 h2.lies
theorem YI{wr:World}{it:Value}{t:T}(hE:En w wr x gI it)(h:So gI wr it ts)(hb1:Below wr.heap.size wr w1)(hy:Lies w t y)(hlen:ts.length<=1000)(ty:TypeId):
 ∃v' w3,(Builtin.append_ #[108,108] ty #[it, .slice (some ⟨w1.heap.size,0,none⟩) 1 1]).run prog (w1.alloc (.cells #[.bool y.l, .slice y.ba y.bn y.bc, .slice y.ia y.m y.ic] 110))= .ok v' w3/\Below (gI+1) wr w3/\Full gI w (w3.setCell ⟨gI,2,none⟩ v') v' (ts++[t]):=by
 obtain⟨ys,h1,h2⟩:=h;obtain⟨v',w3,e1,e2,ia,ic,e3,e4,e5,e6⟩:=PX (base:=gI+1) (by have:=hE.gi;omega) hE.bel hE.sz h1 h2 hb1 hy (by have:=h2.len;omega) ty;refine⟨v',w3,e1,e2,ia,ic,by rw[Ab];exact e3,by rw[Ab];exact e4,e5,e6 _ (by simp) (λb hb _=>A8 _ _ _ _ (by show b≠gI;omega)) ((hE.go e2).put v').bel⟩
theorem ownB_nil(w:World)(base:Nat):OwnB w base (.slice none 0 0) []:=⟨rfl, .inl ⟨rfl,rfl⟩⟩
theorem Rk{a:Option Addr}{n:Nat}{bs:List Int}(h:OwnB w base (.slice a n c) bs):∀g off,a=some ⟨g,off,none⟩->base<=g/\∀o,w.frozen? ⟨g,o,none⟩=false:=by
 intro g off e;subst e;refine⟨h.lt g rfl,λo=>?_⟩;rcases h.2 with⟨h2,_⟩|⟨g',cap,cur,hv,_,hh,_⟩
 ·cases h2
 ·injection hv with e1 _ _;cases e1;exact AL _ _ _ _ _ hh
theorem Rl(a:Option Addr)(n c:Nat)(b:List Int)(w:World)(h:Ag w a n c b)(hn:n<=140737488351232):
 Calls prog 151 #[.slice a n c] w λe w'=>(∃a' c',e= .returned (.slice a' n c')/\Ag w' a' n c' b/\∀g off,a'=some ⟨g,off,none⟩->w.heap.size<=g/\∀o,w'.frozen? ⟨g,o,none⟩=false)/\Below w.heap.size w w':=by
 have HA:=Xba h;clear h;go_enter func151,ntmps151;go_wp2_with (first|(at_builtin;refine DB rfl (.tmp 4) (.tmp 5) rfl w.heap.size _ [] rfl (ownB_nil w _) a n c b rfl HA.out.i HA.out.nil HA.out.l (by simp;omega) (Aa _) ?_;intro v1 w1 o1 hb1;rw[A6]at o1;obtain⟨a1,c1,rfl,hag1⟩:=OwnB.ag o1 HA.out.b;rw[HA.out.l]at hag1⊢;have HB1:=Xba hb1;have HA1:=Xba hag1;have HO1:=Xba (Rk o1);clear o1 hb1 hag1));go_ret;exact⟨⟨a1,c1,rfl,HA1.out,HO1.out⟩,HB1.out⟩
def pc(b:List Int)(i j:Nat):List Int:=(b.take j).drop i
theorem IQ(h:j<=b.length):(pc b i j).length=j-i:=by unfold pc;rw[AQ,Ao];omega
theorem WN(h:j<=i):pc b i j=[]:=by unfold pc;rw[Br];rw[Ao];omega
theorem JB(h:i<j)(hj:j<=b.length):pc b i j=b.getD i 0::pc b (i+1) j:=by
 unfold pc;rw[Bq (by rw[Ao];omega),List.getElem_take,List.getD,Ac (by omega)];rfl
theorem WO{f t:Nat}(h:i+t<=j):((pc b i j).take t).drop f=pc b (i+f) (i+t):=by
 unfold pc;rw[List.take_drop,List.drop_drop,Es,CN h]
theorem Rm(h:i+k<j)(hj:j<=b.length):(pc b i j).getD k 0=b.getD (i+k) 0:=by
 unfold pc;rw[List.getD,CA,AP h];rfl
theorem WP{x:Int}(h:x∈pc b i j):x∈b:=Bi (BH h)
def zeroV:Value:= .agg #[.bool false, .slice none 0 0, .slice none 0 0]
def FPost(w:World)(i:Nat)(r:R):Ending->World->Prop:=λe w'=>Below w.heap.size w w'/\
 match r with
 | .bad er=>e= .returned (.tuple #[.agg #[.bool false, .slice none 0 0, .slice none 0 0], .int .i64 0, .int .i64 (er:Nat)])/\er≠0
 | .ok t m=>∃y:V,e= .returned (.tuple #[.agg #[.bool y.l, .slice y.ba y.bn y.bc, .slice y.ia y.m y.ic], .int .i64 (i+m:Nat), .int .i64 0])/\LiesP (λb=>w.heap.size<=b) w' t y
def FSaid(k:Nat):Prop:=∀(a:Option Addr)(n c:Nat)(b:List Int)(w:World),Ag w a n c b->n<=140737488351232->∀i j d:Nat,i<=j->j<=n->d+k=8->
 Calls prog 150 #[.slice a n c, .int .i64 i, .int .i64 j, .int .i64 d] w (FPost w i (rd k (pc b i j)))
def GPost(w:World)(j:Nat)(r:RL):Ending->World->Prop:=λe w'=>Below w.heap.size w w'/\
 match r with
 | .bad er=>e= .returned (.tuple #[.agg #[.bool false, .slice none 0 0, .slice none 0 0], .int .i64 0, .int .i64 (er:Nat)])/\er≠0
 | .ok ts=>∃ia ic,e= .returned (.tuple #[.agg #[.bool true, .slice none 0 0, .slice ia ts.length ic], .int .i64 j, .int .i64 0])/\ts.length<=ic/\ic<=maxLen/\LiesPAll (λb=>w.heap.size<=b) w' ts ia 0
theorem Mp(h:3<c):lenIn r c=(0,23):=by unfold lenIn;rw[Af h]
theorem KF(h:¬3<c)(h2:r.length<c):lenIn r c=(0,22):=by unfold lenIn;rw[Ad h,Af h2]
theorem Mq(h:¬3<c)(h2:¬r.length<c)(h3:r.headD 0=0∨val (r.take c)<=55):lenIn r c=(0,23):=by unfold lenIn;rw[Ad h,Ad h2,Af h3]
theorem Rn(h:¬3<c)(h2:¬r.length<c)(h3:¬(r.headD 0=0∨val (r.take c)<=55)):lenIn r c=(val (r.take c),0):=by unfold lenIn;rw[Ad h,Ad h2,Ad h3]
theorem OJ{x:Int}(h1:¬(192<=x/\deep=true))(h2:¬x<128):hdr deep (x::r)=if 55<nOf x then(if(lenIn r (nOf x-55)).2≠0 then .bad (lenIn r (nOf x-55)).2 else if(x::r).length-(1+(nOf x-55))<(lenIn r (nOf x-55)).1 then .bad 22 else .ok (1+(nOf x-55)) (1+(nOf x-55)+(lenIn r (nOf x-55)).1))else if(x::r).length-1<nOf x then .bad 22 else .ok 1 (1+nOf x):=by
 unfold hdr;simp only;rw[Ad h1,Ad h2]
structure Hd(deep:Bool)(x:Int)(r:List Int)(f L:Nat):Prop where
 f1:1<=f
 f4:f<=4
 L24:L<16777216
 iff:f=1↔L<=55
 fle:f<=r.length+1
 eq:hdr deep (x::r)=if(r.length+1)-f<L then .bad 22 else .ok f (f+L)
theorem WQ{x:Int}(h1:¬(192<=x/\deep=true))(h2:¬x<128)(h3:¬55<nOf x):Hd deep x r 1 (nOf x):=
 ⟨Aa _,by omega,by omega,by omega,by omega,by rw[OJ h1 h2,Ad h3];rfl⟩
theorem SV{x:Int}(hb:∀y∈r,0<=y/\y<256)(h1:¬(192<=x/\deep=true))(h2:¬x<128)(h3:55<nOf x)(h4:¬3<nOf x-55)(h5:¬r.length<nOf x-55)(h6:¬(r.headD 0=0∨val (r.take (nOf x-55))<=55)):Hd deep x r (1+(nOf x-55)) (val (r.take (nOf x-55))):=by
 have hv:=DF hb (j:=nOf x-55) (by omega) (by omega);refine⟨by omega,by omega,by omega,by omega,by omega,?_⟩;rw[OJ h1 h2,Af h3,Rn h4 h5 h6];simp only[ne_eq,not_true,DQ];rfl
theorem Ke{x:Int}{er:Nat}(h1:¬(192<=x/\deep=true))(h2:¬x<128)(h3:55<nOf x)(h4:lenIn r (nOf x-55)=(0,er))(her:er≠0):hdr deep (x::r)= .bad er:=by
 rw[OJ h1 h2,Af h3,h4];simp only;rw[Af her]
theorem Ff{e:Nat}(h:hdr deep b= .bad e):rd1 g deep b= .bad e:=by unfold rd1;rw[h]
theorem Ro(a:Option Addr)(n c i j d:Nat)(w:World)(k:Nat)(b:List Int)(hij:¬i<j)(hi:i<=140737488351232)(hrd:rd k (pc b i j)= .bad 22):
 Calls prog 150 #[.slice a n c, .int .i64 i, .int .i64 j, .int .i64 d] w (FPost w i (rd k (pc b i j))):=by
 rw[hrd];have hge:(i:Int)>=j:=by omega
 clear hrd;go_enter func150,ntmps150
 go_upto_if 18 with fail
 refine gen_w (p:=λv=>Code.wp _ _ _ _ v) (q:=Rb w) (Rb.new w) ?_;intro v R;have x0:=R.x0;have x1:=R.x1;have x2:=R.x2;have xf:=R.xf;have HR:=Xba R;clear R;go_wp2_with fail;have hr:=put3 HR.out.row (.bool false) (.slice none 0 0) (.slice none 0 0);refine Ap (Bd results150 _ _ w.heap.size _ _ _ rfl hr) rfl ?_;exact⟨Ch HR.out.bel (Aa _) _ _ _,rfl,by decide⟩
theorem PY(a:Option Addr)(n c i j:Nat)(w:World)(b:List Int)(h:Ag w a n c b)(hn:n<=140737488351232)(hij:i<j)(hj:j<=n)(x:Int)(hx:b.getD i 0=x)(h192:192<=x)(res:R)(hres:res= .bad 21):
 Calls prog 150 #[.slice a n c, .int .i64 i, .int .i64 j, .int .i64 8] w (FPost w i res):=by
 subst hres;obtain⟨g,off,rfl,hc1,hc2,hc⟩:=ag_head h (by omega);unfold maxLen at hc2;have hcell:=hc i (by omega);rw[hx]at hcell;have hxb:=(h.b x (by rw[<-hx,List.getD,Ac (by rw[h.l];omega)];exact Bo _)).2;have hlt:(i:Int)<j:=by omega
 have hin:(i:Int)<n:=by omega
 clear hx hc h;go_enter func150,ntmps150
 go_upto_if 18 with fail
 have hcw:=AN (Rb.new w).bel hcell;refine gen_w (p:=λv=>Code.wp _ _ _ _ v) (q:=λv=>Rb w v/\v.cell? ⟨g,off+i,none⟩=some (.int .u8 x)) ⟨Rb.new w,hcw⟩ ?_;clear hcell hcw;rintro v⟨R,hcell⟩;have x0:=R.x0;have x1:=R.x1;have x2:=R.x2;have xf:=R.xf;have HR:=Xba R;clear R;go_wp2_with fail;have hr:=put3 HR.out.row (.bool false) (.slice none 0 0) (.slice none 0 0);refine Ap (Bd results150 _ _ w.heap.size _ _ _ rfl hr) rfl ?_;exact⟨Ch HR.out.bel (Aa _) _ _ _,rfl,by decide⟩
theorem Rp(a:Option Addr)(n c i j d:Nat)(w:World)(b:List Int)(h:Ag w a n c b)(hn:n<=140737488351232)(hij:i<j)(hj:j<=n)(x:Int)(hx:b.getD i 0=x)(h128:x<128)(res:R)(hres:res= .ok (.mk false [x] []) 1):
 Calls prog 150 #[.slice a n c, .int .i64 i, .int .i64 j, .int .i64 d] w (FPost w i res):=by
 subst hres;obtain⟨g,off,rfl,hc1,hc2,hc⟩:=ag_head h (by omega);unfold maxLen at hc2;have hcell:=hc i (by omega);rw[hx]at hcell;have hxb:=(h.b x (by rw[<-hx,List.getD,Ac (by rw[h.l];omega)];exact Bo _)).1;have hlt:(i:Int)<j:=by omega
 have hin:(i:Int)<n:=by omega
 clear hx hc h;go_enter func150,ntmps150
 go_upto_if 18 with fail
 have hcw:=AN (Rb.new w).bel hcell;refine gen_w (p:=λv=>Code.wp _ _ _ _ v) (q:=λv=>Rb w v/\v.cell? ⟨g,off+i,none⟩=some (.int .u8 x)) ⟨Rb.new w,hcw⟩ ?_;clear hcell hcw;rintro v⟨R,hcell⟩;have HR:=Xba R;clear R;have R2:=HR.out.alloc (.cells #[.int .u8 x] 5);have HR2:=Xba R2;have x0:=R2.x0;have x1:=R2.x1;have x2:=R2.x2;have xf:=R2.xf;clear R2;go_wp2_with fail;have hr:=put3 HR2.out.row (.bool false) (.slice (some ⟨v.heap.size,0,none⟩) 1 1) (.slice none 0 0);refine Ap (Bd results150 _ _ w.heap.size _ _ _ rfl hr) rfl ?_;have hz:=HR.out.bel.size;have hz2:=lt_of_get HR.out.row;refine⟨Ch HR2.out.bel (Aa _) _ _ _,⟨false,some ⟨v.heap.size,0,none⟩,1,1,none,0,0⟩,by simp,?_⟩
 have hrow:Row v.heap.size (((v.alloc (.cells #[.int .u8 x] 5)).setCell ⟨w.heap.size,0,none⟩ (.bool false)).setCell ⟨w.heap.size,1,none⟩ (.slice (some ⟨v.heap.size,0,none⟩) 1 1)|>.setCell ⟨w.heap.size,2,none⟩ (.slice none 0 0)) [x]:=
  (Ds (by omega) _ _ _).trans (Ai _ _)
 exact EY hrow rfl (λy hy=>by
  have e:y=x:=by simpa using hy
  omega) (by omega) (by omega)
set_option maxRecDepth 20000 in
theorem PZ(gg:List Int->R)(a:Option Addr)(n c i j d:Nat)(w:World)(b:List Int)(h:Ag w a n c b)(hn:n<=140737488351232)(hij:i<j)(hj:j<=n)(hd:d<=8)(x:Int)(hx:b.getD i 0=x)(hlo:128<=x)(hhi:x<192)(res:R)
 (hres:res=rd1 gg (decide (d=8)) (x::pc b (i+1) j)):
 Calls prog 150 #[.slice a n c, .int .i64 i, .int .i64 j, .int .i64 d] w (FPost w i res):=by
 obtain⟨g,off,rfl,hc1,hc2,hc⟩:=ag_head h (by omega);unfold maxLen at hc2;have hcell:=hc i (by omega);rw[hx]at hcell;have hbl:=h.l;have hx256:=(h.b x (by rw[<-hx,List.getD,Ac (by omega)];exact Bo _)).2;have hlt:(i:Int)<j:=by omega
 have hin:(i:Int)<n:=by omega
 have hrl:=IQ (b:=b) (i:=i+1) (j:=j) (by omega);have hrb:∀y∈pc b (i+1) j,0<=y/\y<256:=λy hy=>h.b y (WP hy);have hnd:¬(192<=x/\decide (d=8)=true):=by omega
 have hn128:¬x<128:=by omega
 obtain⟨N,hN⟩:∃N,nOf x=N:=⟨_,rfl⟩;have hNx:x-128=N:=by
  rw[<-hN];unfold nOf;rw[Ad (by omega)];omega
 have hN63:N<=63:=by omega
 have HX:=Xba hx;have HC:=Xba hc;have HA:=Xba h;have HRL:=Xba hrl;have HRB:=Xba hrb;have HND:=Xba hnd;have HN:=Xba hN;have HRES:=Xba hres
 skip
 clear hx hc h hrl hrb hnd hN hres hbl;go_enter func150,ntmps150
 go_upto_if 18 with fail
 have hbw:=(Rb.new w).bel;refine gen_w (p:=λv=>Code.wp _ _ _ _ v) (q:=Rb w) (Rb.new w) ?_;clear hbw;intro v R;replace hcell:=AN R.bel hcell;have x0:=R.x0;have x1:=R.x1;have x2:=R.x2;have xf:=R.xf;have HR:=Xba R;clear R;by_cases h58:N>58
 ·have h58i:(N:Int)>58:=by omega
  have hfin:res= .bad 23:=by rw[HRES.out];exact Ff (Ke HND.out hn128 (by rw[HN.out];omega) (Mp (by rw[HN.out];omega)) (by decide))
  subst hfin;go_wp2_with fail;have hr:=put3 HR.out.row (.bool false) (.slice none 0 0) (.slice none 0 0);refine Ap (Bd results150 _ _ w.heap.size _ _ _ rfl hr) rfl ?_;exact⟨Ch HR.out.bel (Aa _) _ _ _,rfl,by decide⟩
 have h58i:¬(N:Int)>58:=by omega
 go_upto_if 54 with fail
 go_cut [1,13] (λp q v'=>∃f L:Nat,p= .int .i64 (i+f:Nat)/\q= .int .i64 L/\Hd (decide (d=8)) x (pc b (i+1) j) f L/\v'=v)
 case first=>
  by_cases h55:N>55
  case neg=>
   have h55i:¬(N:Int)>55:=(by omega);go_wp2_with fail
   go_meet
   case rel=>
    have:=WQ (r:=pc b (i+1) j) HND.out (by omega) (by rw[HN.out];omega);rw[HN.out]at this;exact⟨1,N,by simp,rfl,this,rfl⟩
  have h55i:(N:Int)>55:=by omega
  obtain⟨K,hK⟩:∃K,N=55+K:=⟨N-55,by omega⟩;subst hK;have hK3:K<=3:=by omega
  have hK1:1<=K:=by omega
  have hKi:((55+K:Nat):Int)-55=K:=by omega
  by_cases hsh:j-(i+1)<K
  ·have hshi:(j:Int)-(i+1)<K:=(by omega);have hfin:res= .bad 22:=(by rw[HRES.out];exact Ff (Ke HND.out hn128 (by rw[HN.out];omega) (KF (by rw[HN.out];omega) (by rw[HN.out,HRL.out];omega)) (by decide)));subst hfin;go_wp2_with fail;have hr:=put3 HR.out.row (.bool false) (.slice none 0 0) (.slice none 0 0);refine Ap (Bd results150 _ _ w.heap.size _ _ _ rfl hr) rfl ?_;exact⟨Ch HR.out.bel (Aa _) _ _ _,rfl,by decide⟩
  have hshi:¬(j:Int)-(i+1)<K:=by omega
  go_wp2_with fail
  go_loopw [13,15] (λp q v'=>∃u:Nat,u<=K/\q= .int .i64 u/\p= .int .i64 (val ((pc b (i+1) j).take u):Nat)/\v'=v) (λ_ q _=>K-(intOf q).toNat)
  case atStart=>exact⟨0,by omega,rfl,rfl,rfl⟩
  case round=>
   obtain⟨u,hu,rfl,rfl,rfl⟩:=hrel;have hrl:=HRL.out;by_cases hlt2:u<K
   ·have hui:(u:Int)<K:=(by omega);have hcu:=AN HR.out.bel (HC.out (i+1+u) (by omega));rw[<-Rm (b:=b) (i:=i+1) (j:=j) (k:=u) (by omega) (by rw[HA.out.l];omega)]at hcu;obtain⟨v1,v2⟩:=DF HRB.out (j:=u) (by omega) (by omega);have v3:=DF HRB.out (j:=u+1) (by omega) (by omega);have hvs:=L0 (b:=pc b (i+1) j) (j:=u) (by omega);have hxx:=HRB.out ((pc b (i+1) j).getD u 0) (by rw[List.getD,Ac (by omega)];exact Bo _);obtain⟨q,hq⟩:∃q,val ((pc b (i+1) j).take u)=q:=⟨_,rfl⟩;obtain⟨z,hz⟩:∃z,(pc b (i+1) j).getD u 0=z:=⟨_,rfl⟩;rw[hq]at v1 hvs⊢;rw[hz]at hcu hxx hvs;obtain⟨hz0,hz1⟩:=hxx;rw[hvs]at v3;have hq2:q<65536:=(by omega);have HV:Hid (((val ((pc b (i+1) j).take (u+1)):Nat):Int)=256*q+z):=Xba (by omega);have hnn:(i:Int)+1+u<n:=(by omega);clear hvs v1 v2 v3 hq hz hrl;go_wp2_with fail;exact⟨⟨u+1,by omega,by simp,by rw[HV.out],trivial⟩,by simp[intOf];omega⟩
   ·have huK:u=K:=(by omega);subst huK;have hui:¬(u:Int)<u:=(by omega);obtain⟨v1,v2⟩:=DF HRB.out (j:=u) (by omega) (by omega);have hc0:=AN HR.out.bel (HC.out (i+1) (by omega));have hhd:(pc b (i+1) j).headD 0=b.getD (i+1) 0:=(by rw[JB (by omega) (by rw[HA.out.l];omega)];rfl);have hz1:=HA.out.b (b.getD (i+1) 0) (by rw[List.getD,Ac (by rw[HA.out.l];omega)];exact Bo _);have hform:=λh=>Ff (g:=gg) (Ke HND.out (x:=x) (by omega) (by rw[HN.out];omega) (Mq (r:=pc b (i+1) j) (by rw[HN.out];omega) (by rw[HN.out,HRL.out];omega) h) (show 23≠0 by decide));have hmore:=SV (x:=x) HRB.out HND.out (by omega) (by rw[HN.out];omega) (by rw[HN.out];omega) (by rw[HN.out,HRL.out];omega);rw[<-HRES.out]at hform;rw[HN.out,show 55+u-55=u from by omega,hhd]at hform hmore;obtain⟨q,hq⟩:∃q,val ((pc b (i+1) j).take u)=q:=⟨_,rfl⟩;obtain⟨z,hz⟩:∃z,b.getD (i+1) 0=z:=⟨_,rfl⟩;rw[hq]at v1 hform hmore⊢;rw[hz]at hc0 hz1 hform hmore;have hq24:q<16777216:=(by omega);have hnn:(i:Int)+1<n:=(by omega);have HFO:=Xba hform;have HMO:=Xba hmore;clear hq hz hhd hrl v1 v2 hform hmore;by_cases hz0:z=0
    ·have hfin:res= .bad 23:=HFO.out (.inl hz0);subst hfin hz0;clear hz1;go_wp2_with fail;have hr:=put3 HR.out.row (.bool false) (.slice none 0 0) (.slice none 0 0);refine Ap (Bd results150 _ _ w.heap.size _ _ _ rfl hr) rfl ?_;exact⟨Ch HR.out.bel (Aa _) _ _ _,rfl,by decide⟩
    ·have hzb:(z==0)=false:=(by rw[BB];exact hz0);by_cases hq55:q<56
     ·have hfin:res= .bad 23:=HFO.out (.inr (by omega));have hqi:(q:Int)<56:=(by omega);subst hfin;go_wp2_with fail;have hr:=put3 HR.out.row (.bool false) (.slice none 0 0) (.slice none 0 0);refine Ap (Bd results150 _ _ w.heap.size _ _ _ rfl hr) rfl ?_;exact⟨Ch HR.out.bel (Aa _) _ _ _,rfl,by decide⟩
     ·have hqi:¬(q:Int)<56:=(by omega);have HMM:=Xba (HMO.out (by rintro(h|h);exact hz0 h;omega));go_wp2_with fail
      go_meet
      case rel=>exact⟨1+u,q,by simp;omega,rfl,HMM.out,rfl⟩
 case rest=>
  obtain⟨f,L,rfl,rfl,H,rfl⟩:=hcut;have heq:=H.eq;have hf1:=H.f1;have hf4:=H.f4;have hL24:=H.L24;have hiff:=H.iff;have hfle:=H.fle;rw[HRL.out]at heq hfle;have hpc:x::pc b (i+1) j=pc b i j:=by rw[JB (b:=b) (i:=i) hij (by rw[HA.out.l];omega),HX.out]
  clear H hcell;by_cases hsh:(j-(i+1)+1)-f<L
  ·rw[Af hsh]at heq;have hfin:res= .bad 22:=(by rw[HRES.out];exact Ff heq);subst hfin;have hshi:(j:Int)-((i+f:Nat):Int)<L:=(by omega);clear heq hpc;go_wp2_with fail;have hr:=put3 HR.out.row (.bool false) (.slice none 0 0) (.slice none 0 0);refine Ap (Bd results150 _ _ w.heap.size _ _ _ rfl hr) rfl ?_;exact⟨Ch HR.out.bel (Aa _) _ _ _,rfl,by decide⟩
  rw[Ad hsh]at heq;have hshi:¬(j:Int)-((i+f:Nat):Int)<L:=by omega
  have hfjn:i+f+L<=j:=by omega
  have hri:=HRES.out;unfold rd1 at hri;rw[heq]at hri;simp only at hri;rw[hpc,WO (by omega)]at hri;have hhd:(pc b i j).headD 0=x:=by rw[<-hpc];rfl
  rw[hhd]at hri;have hsub:=Ot (HA.out.at HR.out.bel) (f:=i+f) (t:=i+(f+L)) (by omega) (by omega);rw[show i+(f+L)-(i+f)=L from by omega]at hsub;clear heq hhd hsh;rw[Af hhi]at hri;have hget:(pc b i j).getD 1 0=b.getD (i+1) 0∨¬(f=1/\f+L=2):=by
   by_cases h1:f=1/\f+L=2
   ·exact .inl (Rm (by omega) (by rw[HA.out.l];omega))
   ·exact .inr h1
  by_cases hone:f=1/\f+L=2/\(pc b i j).getD 1 0<128
  ·rw[Af hone]at hri;obtain⟨o1,o2,o3⟩:=hone;have oL:L=1:=(by omega);rw[hget.resolve_right (λh=>h ⟨o1,o2⟩)]at o3;subst o1 oL hri;have hc0:=AN HR.out.bel (HC.out (i+1) (by omega));have hz1:=(HA.out.b (b.getD (i+1) 0) (by rw[List.getD,Ac (by rw[HA.out.l];omega)];exact Bo _)).1;generalize b.getD (i+1) 0=z at*;have hnn:((i+1:Nat):Int)<n:=(by omega);clear hsub hget hpc hiff;go_wp2_with fail;have hr:=put3 HR.out.row (.bool false) (.slice none 0 0) (.slice none 0 0);refine Ap (Bd results150 _ _ w.heap.size _ _ _ rfl hr) rfl ?_;exact⟨Ch HR.out.bel (Aa _) _ _ _,rfl,by decide⟩
  rw[Ad hone]at hri;have HRI:=Xba hri;have hib:((i+f:Nat):Int)<=((i+f:Nat):Int)+L:=by omega
  have hib2:((i+f:Nat):Int)+L<=n:=by omega
  have hcz:¬L=1∨(L=1/\f=1/\¬b.getD (i+1) 0<128):=by
   by_cases hL1:L=1
   ·have hf:f=1:=hiff.2 (by omega);refine .inr ⟨hL1,hf,λh=>hone ⟨hf,by omega,?_⟩⟩;rw[hget.resolve_right (λh=>h ⟨hf,by omega⟩)];exact h
   ·exact .inl hL1
  have hcp:=Rl _ L _ _ _ hsub (by omega);have HCP:=Xba hcp;clear hcp;clear hri hone hget hsub hiff hpc;have hout:∀(a':Option Addr)(c':Nat)(w2:World),Ag w2 a' L c' (pc b (i+f) (i+(f+L)))->(∀g off,a'=some ⟨g,off,none⟩->wc.heap.size<=g/\∀o,w2.frozen? ⟨g,o,none⟩=false)->Below wc.heap.size wc w2->FPost w i res (.returned (.tuple #[.agg #[.bool false, .slice a' L c', .slice none 0 0], .int .i64 (((i+f:Nat):Int)+L), .int .i64 0])) (((w2.setCell ⟨w.heap.size,0,none⟩ (.bool false)).setCell ⟨w.heap.size,1,none⟩ (.slice a' L c')).setCell ⟨w.heap.size,2,none⟩ (.slice none 0 0)):=by
   intro a' c' w2 h1 h2 h3;rw[HRI.out];have hz:=HR.out.bel.size;have hz2:=lt_of_get HR.out.row;refine⟨Ch (below_go HR.out.bel h3) (Aa _) _ _ _,⟨false,a',L,c',none,0,0⟩,by simp;omega,?_⟩;refine liesP_eq.2 ⟨⟨rfl,Oq h1 (λg off e _ _=>Ds (by have:=(h2 g off e).1;omega) _ _ _),rfl,Aa _,by show 0<=maxLen;unfold maxLen;omega,⟨by show L<=140737488351232;omega,by show 0<=140737488351232;omega⟩,λg off e _=>⟨Al hz (h2 g off e).1,λo=>by rw[Ei,Ei,Ei];exact(h2 g off e).2 o⟩⟩,Du⟩
  have HOUT:=Xba hout;clear hout;clear x0 x1 x2 xf;rcases hcz with hL1|⟨rfl,rfl,hz128⟩
  ·have hLb:((L:Int)==1)=false:=(by rw[BB];omega);by_cases hck:c=i+f
   ·rw[Af hck]at HCP;subst hck;rw[Cx]at HCP;go_wp2_with fail;refine HCP.out.mono ?_;rintro e w2⟨⟨a',c',rfl,h1,h2⟩,h3⟩;have R2:=HR.out.call h3;have x0:=R2.x0;have x1:=R2.x1;have x2:=R2.x2;have xf:=R2.xf;have HFI:=Xba (HOUT.out a' c' w2 h1 h2 h3);have HR2:=Xba R2;clear R2 h1 h2 h3 HCP;go_wp2_with fail;have hr:=put3 HR2.out.row (.bool false) (.slice a' L c') (.slice none 0 0);refine Ap (Bd results150 _ _ w.heap.size _ _ _ rfl hr) rfl ?_;exact HFI.out
   ·rw[Ad hck]at HCP;go_wp2_with fail;refine HCP.out.mono ?_;rintro e w2⟨⟨a',c',rfl,h1,h2⟩,h3⟩;have R2:=HR.out.call h3;have x0:=R2.x0;have x1:=R2.x1;have x2:=R2.x2;have xf:=R2.xf;have HFI:=Xba (HOUT.out a' c' w2 h1 h2 h3);have HR2:=Xba R2;clear R2 h1 h2 h3 HCP;go_wp2_with fail;have hr:=put3 HR2.out.row (.bool false) (.slice a' L c') (.slice none 0 0);refine Ap (Bd results150 _ _ w.heap.size _ _ _ rfl hr) rfl ?_;exact HFI.out
  ·have hnn:((i+1:Nat):Int)<n:=(by omega);have hck:¬c=i+1:=(by omega);have hc0:=AN HR.out.bel (HC.out (i+1) (by omega));have hz1:=(HA.out.b (b.getD (i+1) 0) (by rw[List.getD,Ac (by rw[HA.out.l];omega)];exact Bo _));generalize b.getD (i+1) 0=z at*;have hz128:¬z<128:=hz128
   ·rw[Ad hck]at HCP;go_wp2_with fail;refine HCP.out.mono ?_;rintro e w2⟨⟨a',c',rfl,h1,h2⟩,h3⟩;have R2:=HR.out.call h3;have x0:=R2.x0;have x1:=R2.x1;have x2:=R2.x2;have xf:=R2.xf;have HFI:=Xba (HOUT.out a' c' w2 h1 h2 h3);have HR2:=Xba R2;clear R2 h1 h2 h3 HCP;go_wp2_with fail;have hr:=put3 HR2.out.row (.bool false) (.slice a' 1 c') (.slice none 0 0);refine Ap (Bd results150 _ _ w.heap.size _ _ _ rfl hr) rfl ?_;exact HFI.out
set_option maxRecDepth 20000 in
theorem Qa(gg:List Int->R)(a:Option Addr)(n c i j d:Nat)(w:World)(b:List Int)(h:Ag w a n c b)(hn:n<=140737488351232)(hij:i<j)(hj:j<=n)(hd:d<=8)(x:Int)(hx:b.getD i 0=x)(hlo:192<=x)(hd8:d<8)
 (hitems:∀(a:Option Addr)(n c:Nat)(b:List Int)(w:World),Ag w a n c b->n<=140737488351232->∀i j:Nat,i<=j->j<=n->j-i<16777216->Calls prog 152 #[.slice a n c, .int .i64 i, .int .i64 j, .int .i64 (d+1:Nat)] w (GPost w j (rdAll gg (pc b i j).length (pc b i j))))
 (hgg:∀b t m,gg b= .ok t m->1<=m/\m<=b.length) (res:R)
 (hres:res=rd1 gg (decide (d=8)) (x::pc b (i+1) j)):
 Calls prog 150 #[.slice a n c, .int .i64 i, .int .i64 j, .int .i64 d] w (FPost w i res):=by
 obtain⟨g,off,rfl,hc1,hc2,hc⟩:=ag_head h (by omega);unfold maxLen at hc2;have hcell:=hc i (by omega);rw[hx]at hcell;have hbl:=h.l;have hx256:=(h.b x (by rw[<-hx,List.getD,Ac (by omega)];exact Bo _)).2;have hlt:(i:Int)<j:=by omega
 have hin:(i:Int)<n:=by omega
 have hrl:=IQ (b:=b) (i:=i+1) (j:=j) (by omega);have hrb:∀y∈pc b (i+1) j,0<=y/\y<256:=λy hy=>h.b y (WP hy);have hnd:¬(192<=x/\decide (d=8)=true):=by simp;omega
 have hn128:¬x<128:=by omega
 obtain⟨N,hN⟩:∃N,nOf x=N:=⟨_,rfl⟩;have hNx:x-192=N:=by
  rw[<-hN];unfold nOf;rw[Af (by omega)];omega
 have hN63:N<=63:=by omega
 have HX:=Xba hx;have HC:=Xba hc;have HA:=Xba h;have HRL:=Xba hrl;have HRB:=Xba hrb;have HND:=Xba hnd;have HN:=Xba hN;have HRES:=Xba hres;have HIT:=Xba hitems;have HGG:=Xba hgg;clear hitems hgg;clear hx hc h hrl hrb hnd hN hres hbl;go_enter func150,ntmps150
 go_upto_if 18 with fail
 have hbw:=(Rb.new w).bel;refine gen_w (p:=λv=>Code.wp _ _ _ _ v) (q:=Rb w) (Rb.new w) ?_;clear hbw;intro v R;replace hcell:=AN R.bel hcell;have x0:=R.x0;have x1:=R.x1;have x2:=R.x2;have xf:=R.xf;have HR:=Xba R;clear R;by_cases h58:N>58
 ·have h58i:(N:Int)>58:=by omega
  have hfin:res= .bad 23:=by rw[HRES.out];exact Ff (Ke HND.out hn128 (by rw[HN.out];omega) (Mp (by rw[HN.out];omega)) (by decide))
  subst hfin;go_wp2_with fail;have hr:=put3 HR.out.row (.bool false) (.slice none 0 0) (.slice none 0 0);refine Ap (Bd results150 _ _ w.heap.size _ _ _ rfl hr) rfl ?_;exact⟨Ch HR.out.bel (Aa _) _ _ _,rfl,by decide⟩
 have h58i:¬(N:Int)>58:=by omega
 go_upto_if 54 with fail
 go_cut [1,13] (λp q v'=>∃f L:Nat,p= .int .i64 (i+f:Nat)/\q= .int .i64 L/\Hd (decide (d=8)) x (pc b (i+1) j) f L/\v'=v)
 case first=>
  by_cases h55:N>55
  case neg=>
   have h55i:¬(N:Int)>55:=(by omega);go_wp2_with fail
   go_meet
   case rel=>
    have:=WQ (r:=pc b (i+1) j) HND.out (by omega) (by rw[HN.out];omega);rw[HN.out]at this;exact⟨1,N,by simp,rfl,this,rfl⟩
  have h55i:(N:Int)>55:=by omega
  obtain⟨K,hK⟩:∃K,N=55+K:=⟨N-55,by omega⟩;subst hK;have hK3:K<=3:=by omega
  have hK1:1<=K:=by omega
  have hKi:((55+K:Nat):Int)-55=K:=by omega
  by_cases hsh:j-(i+1)<K
  ·have hshi:(j:Int)-(i+1)<K:=(by omega);have hfin:res= .bad 22:=(by rw[HRES.out];exact Ff (Ke HND.out hn128 (by rw[HN.out];omega) (KF (by rw[HN.out];omega) (by rw[HN.out,HRL.out];omega)) (by decide)));subst hfin;go_wp2_with fail;have hr:=put3 HR.out.row (.bool false) (.slice none 0 0) (.slice none 0 0);refine Ap (Bd results150 _ _ w.heap.size _ _ _ rfl hr) rfl ?_;exact⟨Ch HR.out.bel (Aa _) _ _ _,rfl,by decide⟩
  have hshi:¬(j:Int)-(i+1)<K:=by omega
  go_wp2_with fail
  go_loopw [13,15] (λp q v'=>∃u:Nat,u<=K/\q= .int .i64 u/\p= .int .i64 (val ((pc b (i+1) j).take u):Nat)/\v'=v) (λ_ q _=>K-(intOf q).toNat)
  case atStart=>exact⟨0,by omega,rfl,rfl,rfl⟩
  case round=>
   obtain⟨u,hu,rfl,rfl,rfl⟩:=hrel;have hrl:=HRL.out;by_cases hlt2:u<K
   ·have hui:(u:Int)<K:=(by omega);have hcu:=AN HR.out.bel (HC.out (i+1+u) (by omega));rw[<-Rm (b:=b) (i:=i+1) (j:=j) (k:=u) (by omega) (by rw[HA.out.l];omega)]at hcu;obtain⟨v1,v2⟩:=DF HRB.out (j:=u) (by omega) (by omega);have v3:=DF HRB.out (j:=u+1) (by omega) (by omega);have hvs:=L0 (b:=pc b (i+1) j) (j:=u) (by omega);have hxx:=HRB.out ((pc b (i+1) j).getD u 0) (by rw[List.getD,Ac (by omega)];exact Bo _);obtain⟨q,hq⟩:∃q,val ((pc b (i+1) j).take u)=q:=⟨_,rfl⟩;obtain⟨z,hz⟩:∃z,(pc b (i+1) j).getD u 0=z:=⟨_,rfl⟩;rw[hq]at v1 hvs⊢;rw[hz]at hcu hxx hvs;obtain⟨hz0,hz1⟩:=hxx;rw[hvs]at v3;have hq2:q<65536:=(by omega);have HV:Hid (((val ((pc b (i+1) j).take (u+1)):Nat):Int)=256*q+z):=Xba (by omega);have hnn:(i:Int)+1+u<n:=(by omega);clear hvs v1 v2 v3 hq hz hrl;go_wp2_with fail;exact⟨⟨u+1,by omega,by simp,by rw[HV.out],trivial⟩,by simp[intOf];omega⟩
   ·have huK:u=K:=(by omega);subst huK;have hui:¬(u:Int)<u:=(by omega);obtain⟨v1,v2⟩:=DF HRB.out (j:=u) (by omega) (by omega);have hc0:=AN HR.out.bel (HC.out (i+1) (by omega));have hhd:(pc b (i+1) j).headD 0=b.getD (i+1) 0:=(by rw[JB (by omega) (by rw[HA.out.l];omega)];rfl);have hz1:=HA.out.b (b.getD (i+1) 0) (by rw[List.getD,Ac (by rw[HA.out.l];omega)];exact Bo _);have hform:=λh=>Ff (g:=gg) (Ke HND.out (x:=x) (by omega) (by rw[HN.out];omega) (Mq (r:=pc b (i+1) j) (by rw[HN.out];omega) (by rw[HN.out,HRL.out];omega) h) (show 23≠0 by decide));have hmore:=SV (x:=x) HRB.out HND.out (by omega) (by rw[HN.out];omega) (by rw[HN.out];omega) (by rw[HN.out,HRL.out];omega);rw[<-HRES.out]at hform;rw[HN.out,show 55+u-55=u from by omega,hhd]at hform hmore;obtain⟨q,hq⟩:∃q,val ((pc b (i+1) j).take u)=q:=⟨_,rfl⟩;obtain⟨z,hz⟩:∃z,b.getD (i+1) 0=z:=⟨_,rfl⟩;rw[hq]at v1 hform hmore⊢;rw[hz]at hc0 hz1 hform hmore;have hq24:q<16777216:=(by omega);have hnn:(i:Int)+1<n:=(by omega);have HFO:=Xba hform;have HMO:=Xba hmore;clear hq hz hhd hrl v1 v2 hform hmore;by_cases hz0:z=0
    ·have hfin:res= .bad 23:=HFO.out (.inl hz0);subst hfin hz0;clear hz1;go_wp2_with fail;have hr:=put3 HR.out.row (.bool false) (.slice none 0 0) (.slice none 0 0);refine Ap (Bd results150 _ _ w.heap.size _ _ _ rfl hr) rfl ?_;exact⟨Ch HR.out.bel (Aa _) _ _ _,rfl,by decide⟩
    ·have hzb:(z==0)=false:=(by rw[BB];exact hz0);by_cases hq55:q<56
     ·have hfin:res= .bad 23:=HFO.out (.inr (by omega));have hqi:(q:Int)<56:=(by omega);subst hfin;go_wp2_with fail;have hr:=put3 HR.out.row (.bool false) (.slice none 0 0) (.slice none 0 0);refine Ap (Bd results150 _ _ w.heap.size _ _ _ rfl hr) rfl ?_;exact⟨Ch HR.out.bel (Aa _) _ _ _,rfl,by decide⟩
     ·have hqi:¬(q:Int)<56:=(by omega);have HMM:=Xba (HMO.out (by rintro(h|h);exact hz0 h;omega));go_wp2_with fail
      go_meet
      case rel=>exact⟨1+u,q,by simp;omega,rfl,HMM.out,rfl⟩
 case rest=>
  obtain⟨f,L,rfl,rfl,H,rfl⟩:=hcut;have heq:=H.eq;have hf1:=H.f1;have hf4:=H.f4;have hL24:=H.L24;have hiff:=H.iff;have hfle:=H.fle;rw[HRL.out]at heq hfle;have hpc:x::pc b (i+1) j=pc b i j:=by rw[JB (b:=b) (i:=i) hij (by rw[HA.out.l];omega),HX.out]
  clear H hcell;by_cases hsh:(j-(i+1)+1)-f<L
  ·rw[Af hsh]at heq;have hfin:res= .bad 22:=(by rw[HRES.out];exact Ff heq);subst hfin;have hshi:(j:Int)-((i+f:Nat):Int)<L:=(by omega);clear heq hpc;go_wp2_with fail;have hr:=put3 HR.out.row (.bool false) (.slice none 0 0) (.slice none 0 0);refine Ap (Bd results150 _ _ w.heap.size _ _ _ rfl hr) rfl ?_;exact⟨Ch HR.out.bel (Aa _) _ _ _,rfl,by decide⟩
  rw[Ad hsh]at heq;have hshi:¬(j:Int)-((i+f:Nat):Int)<L:=by omega
  have hfjn:i+f+L<=j:=by omega
  have hri:=HRES.out;unfold rd1 at hri;rw[heq]at hri;simp only at hri;rw[hpc,WO (by omega)]at hri;have hhd:(pc b i j).headD 0=x:=by rw[<-hpc];rfl
  rw[hhd]at hri;have hsub:=Ot (HA.out.at HR.out.bel) (f:=i+f) (t:=i+(f+L)) (by omega) (by omega);rw[show i+(f+L)-(i+f)=L from by omega]at hsub;clear heq hhd hsh;rw[Ad (by omega)]at hri;have hit:=HIT.out _ n c b wc (HA.out.at HR.out.bel) hn (i+f) (i+(f+L)) (by omega) (by omega) (by omega);rw[show((i+(f+L):Nat):Int)=((i+f:Nat):Int)+L from by omega,show((d+1:Nat):Int)=(d:Int)+1 from by omega]at hit;have hln:=λts h=>Ik HGG.out (pc b (i+f) (i+(f+L))).length (pc b (i+f) (i+(f+L))) ts h;rw[IQ (by rw[HA.out.l];omega)]at hln;have HLN:=Xba hln;have HIC:=Xba hit;have HRI:=Xba hri;clear hit hri hsub hiff hpc HIT hln x0 x1 x2 xf;go_wp2_with fail;refine HIC.out.mono ?_;rintro e w2⟨h3,hm⟩;have R2:=HR.out.call h3;have x0:=R2.x0;have x1:=R2.x1;have x2:=R2.x2;have xf:=R2.xf;have HR2:=Xba R2;have H3:=Xba h3;have hz:=HR.out.bel.size;have hz2:=lt_of_get HR.out.row;clear R2 h3 HIC;cases hr:rdAll gg (pc b (i+f) (i+(f+L))).length (pc b (i+f) (i+(f+L)))with
  |bad er=>
   rw[hr]at hm;obtain⟨rfl,her⟩:=hm;have hfin:=HRI.out;rw[hr]at hfin;simp only at hfin;subst hfin;clear hr;go_wp2_with fail;have hr:=put3 HR2.out.row (.bool false) (.slice none 0 0) (.slice none 0 0);refine Ap (Bd results150 _ _ w.heap.size _ _ _ rfl hr) rfl ?_;exact⟨Ch HR2.out.bel (Aa _) _ _ _,rfl,her⟩
  |ok ts=>
   rw[hr]at hm;obtain⟨ia,ic,rfl,q1,q2,q3⟩:=hm;have hfin:=HRI.out;rw[hr]at hfin;simp only at hfin;subst hfin;have htl:=HLN.out ts (by rw[IQ (by rw[HA.out.l];omega)]at hr;exact hr);have HQ:=Xba q3;clear hr q3;go_wp2_with fail;have hr:=put3 HR2.out.row (.bool true) (.slice none 0 0) (.slice ia ts.length ic);refine Ap (Bd results150 _ _ w.heap.size _ _ _ rfl hr) rfl ?_;refine⟨Ch HR2.out.bel (Aa _) _ _ _,⟨true,none,0,0,ia,ts.length,ic⟩,by simp,?_⟩;refine ID q1 q2 (by omega) (DL (λb(hb:wc.heap.size<=b) hlt=>⟨Ds (by omega) _ _ _,by omega⟩) (λu _=>Bz (λb(hb:wc.heap.size<=b) hlt=>⟨Ds (by omega) _ _ _,by omega⟩) u) HQ.out)
theorem U2{N:Nat}{u v:World}(h:Below N u v){g o t:Nat}{cs:Array Value}(hg:g<N)(hu:u.heap[g]?=some (.cells cs t))(x:Value):Below N (u.setCell ⟨g,o,none⟩ x) (v.setCell ⟨g,o,none⟩ x):=by
 have hgb:=(h.block g hg).trans hu;refine⟨h.os,h.tape,h.output,by simpa using h.size,λk hk=>?_⟩;by_cases e:k=g
 ·subst e;rw[AO u k o _ t x hu,AO v k o _ t x hgb]
 ·rw[A8 _ _ _ _ e,A8 _ _ _ _ e];exact h.block k hk
structure Ib(w v U:World)(it:Value)(ts:List T)(ys:List V):Prop where
 sz:U.heap.size=w.heap.size+2
 res:U.heap[w.heap.size]?=some (.cells #[.bool false, .slice none 0 0, .slice none 0 0] 110)
 box:U.heap[w.heap.size+1]?=some (.cells #[.bool true, .slice none 0 0,it] 110)
 bw:Below w.heap.size w U
 bel:Below U.heap.size U v
 own:OwnI v U.heap.size it ys
 all:AllP (λb=>U.heap.size<=b/\it.ownBlock≠some b) v ts ys
theorem Xag(w:World):Ib w ((w.alloc (.cells #[.bool false, .slice none 0 0, .slice none 0 0] 110)).alloc (.cells #[.bool true, .slice none 0 0, .slice none 0 0] 110)) ((w.alloc (.cells #[.bool false, .slice none 0 0, .slice none 0 0] 110)).alloc (.cells #[.bool true, .slice none 0 0, .slice none 0 0] 110)) (.slice none 0 0) [] []:=
 ⟨by simp,(Au _ _ _ (by simp)).trans (Ai _ _),heap_alloc2_new _ _ _,((Ak _ _).alloc (Aa _) _).alloc (by simp) _,Ak _ _,Dn _ _ _ _,trivial⟩
theorem YJ{v:World}{it:Value}{t:T}(h:Ib w v U it ts ys)(hb1:Below v.heap.size v w1)(hy:LiesP (λb=>v.heap.size<=b) w1 t y)(hlen:ys.length<=1000000000)(ty:TypeId):
 ∃it' w3,(Builtin.append_ #[108,108] ty #[it, .slice (some ⟨w1.heap.size+1,0,none⟩) 1 1]).run prog ((w1.alloc (.cells #[.bool y.l, .slice y.ba y.bn y.bc, .slice y.ia y.m y.ic] 110)).alloc (.cells #[.bool y.l, .slice y.ba y.bn y.bc, .slice y.ia y.m y.ic] 110))= .ok it' w3/\
  Below U.heap.size U w3/\Ib w (w3.setCell ⟨w.heap.size+1,2,none⟩ it') (U.setCell ⟨w.heap.size+1,2,none⟩ it') it' (ts++[t]) (ys++[y]):=by
 obtain⟨it',w3,hrun,s1,s2,s3⟩:=LE h.own h.all h.bel hb1 hy hlen ty;have hs:=h.sz;refine⟨it',w3,hrun,s3,⟨by simpa using hs,(A8 _ _ _ _ (show w.heap.size≠w.heap.size+1 by omega)).trans h.res,?_,h.bw.setCell (by simp) _,?_,?_,?_⟩⟩
 ·have:=AO U (w.heap.size+1) 2 _ 110 it' h.box;simpa using this
 ·have:=U2 s3 (g:=w.heap.size+1) (o:=2) (by omega) h.box it';simpa using this
 ·have e:(U.setCell ⟨w.heap.size+1,2,none⟩ it').heap.size=U.heap.size:=by simp
  rw[e];exact DZ s1 (λg hg _=>A8 _ _ _ _ (show g≠w.heap.size+1 by have:=(EX s1 hg).1;omega))
 ·have e:(U.setCell ⟨w.heap.size+1,2,none⟩ it').heap.size=U.heap.size:=by simp
  rw[e];exact s2.mono λb hb _=>⟨A8 _ _ _ _ (show b≠w.heap.size+1 by have:=hb.1;omega),hb⟩
theorem U3{v:Value}(h:OwnI w base v ys):∃a n c,v= .slice a n c:=by
 rcases h.2 with⟨h2,_⟩|⟨g,cap,cur,hv,_⟩
 ·exact⟨_,_,_,h2⟩
 ·exact⟨_,_,_,hv⟩
theorem Ib.cells{v:World}{it:Value}(h:Ib w v U it ts ys)(hb:Below U.heap.size U v'):
 (∀o,v'.frozen? ⟨w.heap.size,o,none⟩=false)/\(∀o,v'.frozen? ⟨w.heap.size+1,o,none⟩=false)/\v'.cell? ⟨w.heap.size,0,none⟩=some (.bool false)/\v'.cell? ⟨w.heap.size,1,none⟩=some (.slice none 0 0)/\v'.cell? ⟨w.heap.size,2,none⟩=some (.slice none 0 0)/\v'.cell? ⟨w.heap.size+1,0,none⟩=some (.bool true)/\v'.cell? ⟨w.heap.size+1,1,none⟩=some (.slice none 0 0)/\v'.cell? ⟨w.heap.size+1,2,none⟩=some it:=by
 have r1:=Below.row hb h.res;have r2:=Below.row hb h.box;exact⟨λo=>AL _ _ _ _ _ r1,λo=>AL _ _ _ _ _ r2,by rw[Ae _ _ _ _ _ _ r1];rfl,by rw[Ae _ _ _ _ _ _ r1];rfl,by rw[Ae _ _ _ _ _ _ r1];rfl,by rw[Ae _ _ _ _ _ _ r2];rfl,by rw[Ae _ _ _ _ _ _ r2];rfl,by rw[Ae _ _ _ _ _ _ r2];rfl⟩
theorem Rq(k:Nat)(hfirst:FSaid k)(a:Option Addr)(n c:Nat)(b:List Int)(w:World)(h:Ag w a n c b)(hn:n<=140737488351232)(i j d:Nat)(hij:i<=j)(hj:j<=n)(hl:j-i<16777216)(hd:d+k=8):
 Calls prog 152 #[.slice a n c, .int .i64 i, .int .i64 j, .int .i64 d] w (GPost w j (rdAll (rd k) (pc b i j).length (pc b i j))):=by
 have HF:=Xba hfirst;have HA:=Xba h;obtain⟨res,hres⟩:∃r,rdAll (rd k) (pc b i j).length (pc b i j)=r:=⟨_,rfl⟩;rw[hres];have HRES:=Xba hres;clear hfirst h hres;go_enter func152,ntmps152;go_wp2_with fail
 go_loopw [1] (λp v=>∃(q:Nat)(U:World)(it:Value)(ts:List T)(ys:List V),p= .int .i64 q/\i<=q/\q<=j/\ts.length<=q-i/\res=RL.pre ts (rdAll (rd k) (pc b q j).length (pc b q j))/\Ib w v U it ts ys) (λp _=>j-(intOf p).toNat)
 case atStart=>exact⟨i,_,_,[],[],rfl,Aa _,hij,by simp,by rw[Sr];exact HRES.out.symm,Xag w⟩
 case round=>
  obtain⟨q,U,it,ts,ys,rfl,hiq,hqj,htl,hpre,H⟩:=hrel;obtain⟨f1,f2,c0,c1,c2,e0,e1,e2⟩:=H.cells H.bel;have HH:=Xba H;have HP:=Xba hpre;clear H hpre;by_cases hlt:q<j
  ·have hqi:(q:Int)<j:=(by omega);have hcal:=HF.out a n c b wr (HA.out.at (below_go HH.out.bw HH.out.bel)) hn q j d (by omega) hj hd;have HC:=Xba hcal;clear hcal;go_wp2_with fail;refine HC.out.mono ?_;rintro e w1⟨hb1,hm⟩;cases hr:rd k (pc b q j)with
   |bad er=>
    rw[hr]at hm;obtain⟨rfl,her⟩:=hm;have hne:pc b q j≠[]:=by
     intro e;have:=IQ (b:=b) (i:=q) (j:=j) (by rw[HA.out.l];omega);rw[e]at this;simp at this;omega
    have hfin:res= .bad er:=by
     rw[HP.out];obtain⟨u,hu⟩:∃u,(pc b q j).length=u+1:=⟨(pc b q j).length-1,by have:=BC.2 hne;omega⟩;rw[hu,FB hne hr];rfl
    subst hfin;have hee:((er:Int) !=0)=true:=(by rw[BL];omega);have hb2:=below_go HH.out.bel (below_go hb1 (below_new w1 (.cells #[.bool false, .slice none 0 0, .slice none 0 0] 110)));obtain⟨f1,f2,c0,c1,c2,e0,e1,e2⟩:=HH.out.cells hb2;have HB2:=Xba (below_go HH.out.bw hb2);have HRW:=Xba (Below.row hb2 HH.out.res);clear hb1 hb2 hr hne HC;go_wp2_with fail;have hr:=put3 HRW.out (.bool false) (.slice none 0 0) (.slice none 0 0);refine Ap (Bd results152 _ _ w.heap.size _ _ _ rfl hr) rfl ?_;exact⟨Ch HB2.out (Aa _) _ _ _,rfl,her⟩
   |ok t m=>
    rw[hr]at hm;obtain⟨y,rfl,hy⟩:=hm;have hmn:=Pe hr;rw[IQ (by rw[HA.out.l];omega)]at hmn;have hyl:ys.length<=1000000000:=(by have:=HH.out.all.len;omega);obtain⟨it',w3,hrun,s3,I2⟩:=YJ HH.out hb1 hy hyl 108;obtain⟨ia',n',ic',rfl⟩:=U3 I2.own;have hne:pc b q j≠[]:=by
     intro e;have:=IQ (b:=b) (i:=q) (j:=j) (by rw[HA.out.l];omega);rw[e]at this;simp at this;omega
    have hpre:=Pl (f:=rd k) (ts:=ts) (λb t m h=>(Pe h).1) hne hr;have hdrop:(pc b q j).drop m=pc b (q+m) j:=(by unfold pc;rw[List.drop_drop]);rw[hdrop,<-HP.out]at hpre;have hb2:=below_go HH.out.bel (below_go hb1 (below_new w1 (.cells #[.bool y.l, .slice y.ba y.bn y.bc, .slice y.ia y.m y.ic] 110)));have hb3:=below_go hb2 (below_new _ (.cells #[.bool y.l, .slice y.ba y.bn y.bc, .slice y.ia y.m y.ic] 110));obtain⟨f1,f2,c0,c1,c2,e0,e1,e2⟩:=HH.out.cells hb2;obtain⟨g1,g2,d0,d1,d2,h0,h1,h2⟩:=HH.out.cells s3;have HRUN:=Xba hrun;have HI2:=Xba I2;have HPP:=Xba hpre;clear hb1 hb2 hb3 hr hne HC hy hrun s3 I2 hpre hdrop;go_wp2_with (first|refine Er rfl _ _ rfl _ _ rfl rfl HRUN.out ?_);refine⟨⟨q+m,_,_,ts++[t],ys++[y],by simp,by omega,by omega,by rw[Ab];simp;omega,HPP.out,HI2.out⟩,by simp[intOf];omega⟩
  ·have hqe:q=j:=(by omega);subst hqe;have hqi:¬(q:Int)<q:=(by omega);have hfin:=HP.out;rw[WN (Aa _),EW]at hfin;simp only[RL.pre,A3]at hfin;subst hfin;obtain⟨ia,ic,hit,q1,q2,q3⟩:=LD (P:=λb=>U.heap.size<=b) HH.out.own (HH.out.all.mono λb hb _=>⟨rfl,hb.1⟩) (λg hg=>(EX HH.out.own hg).1);subst hit;have HQ:=Xba q3;clear q3;go_wp2_with fail;have hr:=put3 (Below.row HH.out.bel HH.out.res) (.bool true) (.slice none 0 0) (.slice ia ts.length ic);refine Ap (Bd results152 _ _ w.heap.size _ _ _ rfl hr) rfl ?_;have hs:=HH.out.sz;refine⟨Ch (below_go HH.out.bw HH.out.bel) (Aa _) _ _ _,ia,ic,rfl,q1,q2,?_⟩;exact DL (λb(hb:U.heap.size<=b) hlt=>⟨Ds (by omega) _ _ _,by omega⟩) (λu _=>Bz (λb(hb:U.heap.size<=b) hlt=>⟨Ds (by omega) _ _ _,by omega⟩) u) HQ.out
theorem YK{x:Int}(h:x<128):rd1 g deep (x::r)= .ok (.mk false [x] []) 1:=by
 have e:hdr deep (x::r)= .ok 0 1:=by
  unfold hdr;simp only;rw[Ad (by omega),Af h]
 unfold rd1;rw[e];simp only;rw[Af (show(x::r).headD 0<192 by show x<192;omega),Ad (by simp)];rfl
theorem KG(k:Nat)(gg:List Int->R)(hrd:∀b,rd k b=rd1 gg (decide (k=0)) b)(hgg:∀b t m,gg b= .ok t m->1<=m/\m<=b.length)
 (hitems:0<k->∀d,d+k=8->∀(a:Option Addr)(n c:Nat)(b:List Int)(w:World),Ag w a n c b->n<=140737488351232->∀i j:Nat,i<=j->j<=n->j-i<16777216->Calls prog 152 #[.slice a n c, .int .i64 i, .int .i64 j, .int .i64 (d+1:Nat)] w (GPost w j (rdAll gg (pc b i j).length (pc b i j)))):FSaid k:=by
 intro a n c b w h hn i j d hij hj hd;have hdec:decide (k=0)=decide (d=8):=by by_cases h0:k=0<;>simp[h0]<;>omega
 by_cases hlt:i<j
 case neg=>exact Ro a n c i j d w k b hlt (by omega) (by rw[WN (by omega),hrd];exact Ff rfl)
 rw[JB hlt (by rw[h.l];omega),hrd,hdec];by_cases h1:b.getD i 0<128
 ·exact Rp a n c i j d w b h hn hlt hj _ rfl h1 _ (YK h1)
 by_cases h2:b.getD i 0<192
 ·exact PZ gg a n c i j d w b h hn hlt hj (by omega) _ rfl (by omega) h2 _ rfl
 by_cases h8:d=8
 ·subst h8;exact PY a n c i j w b h hn hlt hj _ rfl (by omega) _ (Ff (by rw[AT rfl];exact Po (by omega)))
 ·exact Qa gg a n c i j d w b h hn hlt hj (by omega) _ rfl (by omega) (by omega) (hitems (by omega) d hd) hgg _ rfl
theorem Mr:∀k,FSaid k
 |0=>KG 0 (λ_=> .bad 21) (λb=>rfl) (λb t m h=>by cases h) (λh=>absurd h (by omega))
 |k+1=>KG (k+1) (rd k) (λb=>rfl) (λb t m h=>Pe h) (λ_ d hd a n c b w h hn i j hij hj hl=>Rq k (Mr k) a n c b w h hn i j (d+1) hij hj hl (by omega))
theorem Rs(a:Option Addr)(n c:Nat)(b:List Int)(w:World)(h:Ag w a n c b)(hn:n<=140737488351232):Calls prog 143 #[.slice a n c] w (ReadPost w (rd 8 b)):=by
 have hpcb:pc b 0 n=b:=by unfold pc;rw[Cy,A5 (by rw[h.l];exact Aa _)]
 have hcal:=λw'(hb:Below w.heap.size w w')=>Mr 8 a n c b w' (h.at hb) hn 0 n 0 (Ay _) (Aa _) rfl;rw[hpcb,show((0:Nat):Int)=0 from rfl]at hcal;clear hpcb;have HCAL:=Xba hcal;obtain⟨res,hres⟩:∃r,rd 8 b=r:=⟨_,rfl⟩;rw[hres]at HCAL⊢;clear hcal h hres;go_enter func143,ntmps143;go_wp2_with fail;refine(HCAL.out _ ((Ak _ _).alloc (Aa _) _)).mono ?_;rintro e w1⟨hb,hm⟩;have hres1:w1.heap[w.heap.size]?=some (.cells #[.bool false, .slice none 0 0, .slice none 0 0] 110):=Below.row hb (Ai _ _);have hb1:Below w.heap.size w w1:=((Ak w.heap.size w).alloc (Aa _) _).trans (hb.mono (by simp));have x0:w1.cell? ⟨w.heap.size,0,none⟩=some (.bool false):=by rw[Ae _ _ _ _ _ _ hres1];rfl
 have x1:w1.cell? ⟨w.heap.size,1,none⟩=some (.slice none 0 0):=by rw[Ae _ _ _ _ _ _ hres1];rfl
 have x2:w1.cell? ⟨w.heap.size,2,none⟩=some (.slice none 0 0):=by rw[Ae _ _ _ _ _ _ hres1];rfl
 have xf:∀o,w1.frozen? ⟨w.heap.size,o,none⟩=false:=λo=>AL _ _ _ _ _ hres1;have HR:=Xba hres1;have HB1:=Xba hb1;clear hres1 hb hb1;cases res with
 |bad er=>
  obtain⟨rfl,her⟩:=hm;go_wp2_with fail;have hr:=put3 HR.out (.bool false) (.slice none 0 0) (.slice none 0 0);refine Ap (Bd results143 _ _ w.heap.size _ _ _ rfl hr) rfl ?_;exact⟨Ch HB1.out (Aa _) _ _ _,rfl,her⟩
 |ok t m=>
  obtain⟨y,rfl,hy⟩:=hm;rw[AD];have HY:=Xba hy;clear hy;go_wp2_with fail;have hr:=put3 HR.out (.bool y.l) (.slice y.ba y.bn y.bc) (.slice y.ia y.m y.ic);refine Ap (Bd results143 _ _ w.heap.size _ _ _ rfl hr) rfl ?_;refine⟨Ch HB1.out (Aa _) _ _ _,y,rfl,Bz (λb hb hlt=>?_) t y HY.out⟩;have hb':w.heap.size+1<=b:=by have:(w.alloc (.cells #[.bool false, .slice none 0 0, .slice none 0 0] 110)).heap.size<=b:=hb;simpa using this
  exact⟨Ds (by omega) _ _ _,by omega⟩
theorem KH(a:Option Addr)(n c:Nat)(b:List Int)(w:World)(h:Ag w a n c b)(hn:n<=140737488351232):Calls prog 132 #[.slice a n c] w (DecPost w (decP b)):=by
 have hcal:=λw'(hb:Below w.heap.size w w')=>Rs a n c b w' (h.at hb) hn;have HCAL:=Xba hcal;have hl:=h.l;obtain⟨res,hres⟩:∃r,decP b=r:=⟨_,rfl⟩;rw[hres];unfold decP at hres;have HRES:=Xba hres;have HL:=Xba hl;clear hcal h hres hl;go_enter func132,ntmps132;go_wp2_with fail;refine(HCAL.out _ ((Ak _ _).alloc (Aa _) _)).mono ?_;rintro e w1⟨hb,hm⟩;have RB:=(Rb.new w).call hb;clear hb;have hres:=HRES.out;cases hrd:rd 8 b with
 |bad er=>
  rw[hrd]at hm hres;obtain⟨rfl,her⟩:=hm;subst hres;have hee:((er:Int) !=0)=true:=by rw[BL];omega
  clear hrd
  go_upto_if 14 with fail
  refine gen_w (p:=λv=>Code.wp _ _ _ _ v) (q:=λv=>Rb w v/\v.heap[w1.heap.size]?=some (.cells #[.bool false, .slice none 0 0, .slice none 0 0] 110)) ⟨RB.alloc _,Ai _ _⟩ ?_;clear RB;rintro v⟨RV,hyv⟩;have x0:=RV.x0;have x1:=RV.x1;have x2:=RV.x2;have xf:=RV.xf;have u0:v.cell? ⟨w1.heap.size,0,none⟩=some (#[.bool false, .slice none 0 0, .slice none 0 0][0]):=by rw[Ae _ _ _ _ _ _ hyv];rfl
  have u1:v.cell? ⟨w1.heap.size,1,none⟩=some (#[.bool false, .slice none 0 0, .slice none 0 0][1]):=by rw[Ae _ _ _ _ _ _ hyv];rfl
  have u2:v.cell? ⟨w1.heap.size,2,none⟩=some (#[.bool false, .slice none 0 0, .slice none 0 0][2]):=by rw[Ae _ _ _ _ _ _ hyv];rfl
  have HRV:=Xba RV;clear RV hyv;go_wp2_with fail;have hr:=put3 HRV.out.row (.bool false) (.slice none 0 0) (.slice none 0 0);refine Ap (Ez results132 _ _ w.heap.size _ _ _ rfl hr) rfl ?_;exact⟨Ch HRV.out.bel (Aa _) _ _ _,rfl,her⟩
 |ok t m=>
  rw[hrd]at hm hres;simp only[HL.out]at hres;obtain⟨y,rfl,hy⟩:=hm;have HY:Hid (∀o,LiesP (λb=>w.heap.size+1<=b) (w1.alloc o) t y):=λo=>Bz (λb hb hlt=>⟨Au _ _ _ hlt,by have:(w.alloc (.cells #[.bool false, .slice none 0 0, .slice none 0 0] 110)).heap.size<=b:=hb;simpa using this⟩) t y hy;clear hy;by_cases hmn:m<n
  ·rw[Af hmn]at hres;subst hres;have hmi:(m:Int)<n:=(by omega);clear hrd
   go_upto_if 14 with fail
   refine gen_w (p:=λv=>Code.wp _ _ _ _ v) (q:=λv=>Rb w v/\v.heap[w1.heap.size]?=some (.cells #[.bool y.l, .slice y.ba y.bn y.bc, .slice y.ia y.m y.ic] 110)/\Hid (LiesP (λb=>w.heap.size+1<=b) v t y)) ⟨RB.alloc _,Ai _ _,HY.out _⟩ ?_;clear RB HY;rintro v⟨RV,hyv,HY⟩;have x0:=RV.x0;have x1:=RV.x1;have x2:=RV.x2;have xf:=RV.xf;have u0:v.cell? ⟨w1.heap.size,0,none⟩=some (#[.bool y.l, .slice y.ba y.bn y.bc, .slice y.ia y.m y.ic][0]):=(by rw[Ae _ _ _ _ _ _ hyv];rfl);have u1:v.cell? ⟨w1.heap.size,1,none⟩=some (#[.bool y.l, .slice y.ba y.bn y.bc, .slice y.ia y.m y.ic][1]):=(by rw[Ae _ _ _ _ _ _ hyv];rfl);have u2:v.cell? ⟨w1.heap.size,2,none⟩=some (#[.bool y.l, .slice y.ba y.bn y.bc, .slice y.ia y.m y.ic][2]):=(by rw[Ae _ _ _ _ _ _ hyv];rfl);have HRV:=Xba RV;clear RV hyv;go_wp2_with fail;have hr:=put3 HRV.out.row (.bool false) (.slice none 0 0) (.slice none 0 0);refine Ap (Ez results132 _ _ w.heap.size _ _ _ rfl hr) rfl ?_;exact⟨Ch HRV.out.bel (Aa _) _ _ _,rfl,by decide⟩
  ·rw[Ad hmn]at hres;subst hres;have hmi:¬(m:Int)<n:=(by omega);clear hrd
   go_upto_if 14 with fail
   refine gen_w (p:=λv=>Code.wp _ _ _ _ v) (q:=λv=>Rb w v/\v.heap[w1.heap.size]?=some (.cells #[.bool y.l, .slice y.ba y.bn y.bc, .slice y.ia y.m y.ic] 110)/\Hid (LiesP (λb=>w.heap.size+1<=b) v t y)) ⟨RB.alloc _,Ai _ _,HY.out _⟩ ?_;clear RB HY;rintro v⟨RV,hyv,HY⟩;have x0:=RV.x0;have x1:=RV.x1;have x2:=RV.x2;have xf:=RV.xf;have u0:v.cell? ⟨w1.heap.size,0,none⟩=some (#[.bool y.l, .slice y.ba y.bn y.bc, .slice y.ia y.m y.ic][0]):=(by rw[Ae _ _ _ _ _ _ hyv];rfl);have u1:v.cell? ⟨w1.heap.size,1,none⟩=some (#[.bool y.l, .slice y.ba y.bn y.bc, .slice y.ia y.m y.ic][1]):=(by rw[Ae _ _ _ _ _ _ hyv];rfl);have u2:v.cell? ⟨w1.heap.size,2,none⟩=some (#[.bool y.l, .slice y.ba y.bn y.bc, .slice y.ia y.m y.ic][2]):=(by rw[Ae _ _ _ _ _ _ hyv];rfl);have HRV:=Xba RV;clear RV hyv;go_wp2_with fail;have hr:=put3 HRV.out.row (.bool y.l) (.slice y.ba y.bn y.bc) (.slice y.ia y.m y.ic);refine Ap (Ez results132 _ _ w.heap.size _ _ _ rfl hr) rfl ?_;refine⟨Ch HRV.out.bel (Aa _) _ _ _,y,rfl,Bz (λb(hb:w.heap.size+1<=b) hlt=>⟨Ds (by omega) _ _ _,by omega⟩) t y HY.out⟩
theorem Iy(K:Nat->Prop)(x:RV)(r:PR)(w:World)(h:RefAt K w x r):
 Calls prog 105 #[.agg x.cells.toArray] w (IPost w (refItemP r)):=by
 have HRI:=Xba (Wl w x h.len);have HH:=Xba h;have HLX:=Xba h.len;obtain⟨res,hres⟩:∃res,refItemP r=res:=⟨_,rfl⟩;rw[hres];unfold refItemP at hres;rw[<-h.1]at hres;have HRES:=Xba hres;clear h hres;go_enter func105,ntmps105;go_upto_region 1 with fail;refine gen_w (p:=λv=>Code.wp _ _ _ _ v) (q:=λv=>Ri w v x) HRI.out ?_;clear HRI;intro v R0;have c0:=R0.bx.c0;have c33:=R0.bx.c33;have HR0:=Xba R0;clear R0;by_cases h1:x.k=1
 ·have hr:=HRES.out;rw[if_pos h1]at hr;have HCD:=Xba (KH x.a x.n x.c r.i v (HH.out.2.2.2.2.1.at HR0.out.bel) HH.out.2.2.2.2.2.1);have HR:=Xba hr;clear hr HRES;go_wp2_with fail;refine HCD.out.mono ?_;intro e w1 hp;obtain⟨hb1,hp⟩:=hp;have HR1:=Xba (HR0.out.go hb1);have HS0:=Xba HR0.out.sz;have hr:=HR.out;cases hq:decP r.i with
  |bad er=>
   rw[hq]at hp hr;have hr:t0=res:=hr;subst hr;obtain⟨rfl,her⟩:=hp;clear hb1 hq her;go_upto_region 3 with fail;refine gen_w (p:=λv=>Code.wp _ _ _ _ v) (q:=λv=>Ri w v x/\B1 w1.heap.size v ⟨false,none,0,0,none,0,0⟩) ⟨HR1.out.go (below_new w1 _),E5 w1 ⟨false,none,0,0,none,0,0⟩⟩ ?_;rintro v2⟨R2,B2⟩;have x0:=R2.x0;have x1:=R2.x1;have x2:=R2.x2;have xf:=R2.xf;have d0:=B2.c0;have d1:=B2.c1;have d2:=B2.c2;have HR2:=Xba R2;clear R2 B2 c0 c33;go_wp2_with fail;have hr:=put3 HR2.out.row (.bool false) (.slice none 0 0) (.slice none 0 0);refine bodyPost_ret (results_cell_row results105 _ _ (w.heap.size+1) 110 _ (0,0) _ rfl hr underlying110 rfl (by kernel_rfl)) rfl ?_;exact EN (y:=⟨false,none,0,0,none,0,0⟩) HR2.out (IJ _ _)
  |ok t=>
   rw[hq]at hp hr;have hr:t=res:=hr;subst hr;obtain⟨y,rfl,hy⟩:=hp;have HY:=Xba (show LiesP (λb=>w.heap.size+2<=b) w1 t y from Bz (λb hb hlt=>⟨rfl,by have:=HS0.out;omega⟩) _ _ hy);clear hb1 hq hy;go_upto_region 3 with fail;refine gen_w (p:=λv=>Code.wp _ _ _ _ v) (q:=λv=>Ri w v x/\B1 w1.heap.size v y/\LiesP (λb=>w.heap.size+2<=b) v t y) ⟨HR1.out.go (below_new w1 _),E5 w1 _,Bz (λb hb hlt=>⟨heap_alloc_old _ _ hlt,hb⟩) _ _ HY.out⟩ ?_;rintro v2⟨R2,B2,L2⟩;have x0:=R2.x0;have x1:=R2.x1;have x2:=R2.x2;have xf:=R2.xf;have d0:=B2.c0;have d1:=B2.c1;have d2:=B2.c2;have HR2:=Xba R2;have HL2:=Xba L2;clear R2 B2 L2 c0 c33;go_wp2_with fail;have hr:=put3 HR2.out.row (.bool y.l) (.slice y.ba y.bn y.bc) (.slice y.ia y.m y.ic);refine bodyPost_ret (results_cell_row results105 _ _ (w.heap.size+1) 110 _ (0,0) _ rfl hr underlying110 rfl (by kernel_rfl)) rfl ?_;exact EN HR2.out HL2.out
 ·by_cases h2:x.k=2
  ·have hr:=HRES.out;rw[if_neg h1,if_pos h2]at hr;subst hr;have e1:(x.k==1)=false:=(by simp[h1]);have HS0:=Xba HR0.out.sz;clear c33;go_wp2_with fail;clear c0 e1
   go_loopw [5,6] (λs5 s6 u=>∃j:Nat,j<=32/\s6= .int .i64 j/\OwnB u v.heap.size s5 (r.d.take j)/\Below v.heap.size v u) (λ_ s6 _=>32-(intOf s6).toNat)
   case atStart=>exact⟨0,by omega,rfl,Ni.ownB_nil _ _,Below.refl _ _⟩
   case round=>
    obtain⟨j,hj,rfl,hown,hb⟩:=hrel;have HO:=Xba hown;have HBW:=Xba hb;have HRR:=Xba (HR0.out.go hb);clear hown hb;by_cases hlt:j<32
    ·have hji:(j:Int)<32:=(by omega);have hjd:j<r.d.length:=(by rw[HH.out.2.2.2.1];exact hlt);have hcell:wr.cell? ⟨w.heap.size,1+j,none⟩=some (.int .u8 (r.d.getD j 0)):=by
      have hd:=HRR.out.bx.digest;rw[HH.out.2.1]at hd;exact hd j _ (by rw[List.getElem?_map,List.getD,List.getElem?_eq_getElem hjd];rfl)
     have HN:=Xba (Ni.take_snoc hjd);have HTL:=Xba (show(r.d.take j).length=j from by rw[List.length_take];omega);generalize r.d.getD j 0=z at hcell HN;have HO2:Hid (∀o:Obj,OwnB (wr.alloc o) v.heap.size u5 (r.d.take j)):=Xba λo=>OwnB.alloc HO.out o;have HSZ:=Xba HBW.out.size;clear HO hjd
     go_wp2_with (first
      |(at_builtin;refine DB rfl (.tmp 24) (.tmp 29) rfl v.heap.size _ (r.d.take j) rfl (HO2.out _) (some ⟨wr.heap.size,0,none⟩) 1 1 [z] rfl (Ni.in0_one wr _) (λh=>by cases h) rfl (by rw[HTL.out];omega) (by have:=HSZ.out;simp;omega) ?_;intro v1 w1 o1 hb1;rw[<-HN.out]at o1;have HO3:=Xba o1;have HB3:=Xba ((HBW.out.alloc HSZ.out _).trans hb1);clear o1 hb1))
     go_roundw
     case rel=>exact⟨j+1,by omega,by simp,HO3.out,HB3.out⟩
     case measure=>simp[intOf];omega
    ·have hji:¬(j:Int)<32:=(by omega);have hbt:r.d.take j=r.d:=List.take_of_length_le (by rw[HH.out.2.2.2.1];omega);rw[hbt]at HO;obtain⟨g,cap,rfl,hg1,hg2,hg3,hg4,hg5⟩:=HO.out.slice (by rw[HH.out.2.2.2.1];omega);have hag:=(HO.out.ag HH.out.2.2.1);obtain⟨aa,cc,hve,hag⟩:=hag;cases hve;have hfz:∀o,wr.frozen? ⟨g,o,none⟩=false:=by
      rcases HO.out.2 with⟨hx,_⟩|⟨g',cap',cur,hx,_,hh,_⟩
      ·cases hx
      ·cases hx;exact λo=>frozen_of_row _ _ _ _ _ hh
     have hld:=HH.out.2.2.2.1;rw[hld]at hag⊢
     have HLY:=Xba (show LiesP (λb=>w.heap.size+2<=b) wr (.mk false r.d []) ⟨false,some ⟨g,0,none⟩,32,cap,none,0,0⟩from
      liesP_eq.2 ⟨⟨rfl,hag,rfl,Nat.le_refl _,Nat.zero_le _,⟨by show 32<=_;omega,Nat.zero_le _⟩,λg' off e _=>by cases e;exact⟨by have:=HS0.out;omega,hfz⟩⟩,Du⟩)
     have x0:=HRR.out.x0;have x1:=HRR.out.x1;have x2:=HRR.out.x2;have xf:=HRR.out.xf;clear hag hfz hld hbt hg1 hg2 hg3 hg4 hg5;go_wp2_with fail;have hr:=put3 HRR.out.row (.bool false) (.slice (some ⟨g,0,none⟩) 32 cap) (.slice none 0 0);refine bodyPost_ret (results_cell_row results105 _ _ (w.heap.size+1) 110 _ (0,0) _ rfl hr underlying110 rfl (by kernel_rfl)) rfl ?_;exact EN (y:=⟨false,some ⟨g,0,none⟩,32,cap,none,0,0⟩) HRR.out HLY.out
  ·have hr:=HRES.out;rw[if_neg h1,if_neg h2]at hr;subst hr;have e1:(x.k==1)=false:=(by simp[h1]);have e2:(x.k==2)=false:=(by simp[h2]);have x0:=HR0.out.x0;have x1:=HR0.out.x1;have x2:=HR0.out.x2;have xf:=HR0.out.xf;go_wp2_with fail;have hr:=put3 HR0.out.row (.bool false) (.slice none 0 0) (.slice none 0 0);refine bodyPost_ret (results_cell_row results105 _ _ (w.heap.size+1) 110 _ (0,0) _ rfl hr underlying110 rfl (by kernel_rfl)) rfl ?_;exact EN (y:=⟨false,none,0,0,none,0,0⟩) HR0.out (IJ _ _)
end Go.Proofs.YtalhnnjpjaeakaaGreat
