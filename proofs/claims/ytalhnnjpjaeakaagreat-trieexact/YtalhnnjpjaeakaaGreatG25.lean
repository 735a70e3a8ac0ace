/- A question to a trie tells what the document's list tells. -/
import Derived.Test.YtalhnnjpjaeakaaGreatAK
import Derived.Test.YtalhnnjpjaeakaaGreatG16
import Derived.Test.YtalhnnjpjaeakaaGreatG24
import Derived.Test.YtalhnnjpjaeakaaGreatG17
import Derived.Test.YtalhnnjpjaeakaaGreatG01
import Derived.Test.YtalhnnjpjaeakaaGreatG15
import Derived.Test.YtalhnnjpjaeakaaGreatG00
import Derived.ProofKit
import Derived.OpenShut
import Derived.ShutString
import Derived.ChangeOld
import Derived.SizedLaws
import Derived.Test.YtalhnnjpjaeakaaGreatG12
set_option linter.unusedVariables false
set_option maxRecDepth 100000
set_option maxHeartbeats 8000000
open Go.Proofs.Tryz Go.RowKit
namespace Go.Proofs.YtalhnnjpjaeakaaGreat
open Tr
variable {K K1 K0 : Nat → Prop} {w w' : World} {g n c B0 : Nat} {a : Option Addr} {k : List Int} {vs : List (Value × Value)} {y : Opx} {p : Addr} {x : Int}
theorem Fe(t:Tr):(rootP t).length=32:=by unfold rootP;split<;>exact dref_len _
def getX(t:Tr)(k:List Int):List Int:=if k.length<=32 then Tr.get t (Ni.nib k)else[]
def getZ(k:List Int):Int:=if k.length<=32 then 0 else 70
theorem Za{v:Value}{t:Tr}(hr:Rw g w #[v] 67)(ht:TA K w t v)(hok:t=no∨Ok 64 t)(hk:Sk K1 w a n c k)(hn:n<=32)(hK:∀b,w.heap.size<=b->K b):
 Calls prog 22 #[.pointer (some ⟨g,0,none⟩), .slice a n c] w λe w'=>∃u,e= .returned u/\(∃a2 n2 c2 b,u= .tuple #[.slice a2 n2 c2, .bool b, .int .i64 0]/\b=decide (Tr.get t (Ni.nib k)≠[])/\Sk (λb=>w.heap.size<=b) w' a2 n2 c2 (Tr.get t (Ni.nib k))/\Wr w' a2 n2)/\Bl w w':=by
 have hB:=Bl.refl w;have hnb:Nb (Ni.nib k):=JM hk.ag.b;have hkl:(Ni.nib k).length=2*n:=by rw[Ni.nib_len,hk.len]
 have hFS:t=no∨∃B,Ok B t/\FS t:=by
  rcases hok with h|h
  ·exact .inl h
  ·exact .inr ⟨_,h,Oc t⟩
 refine Dp func22 23<|Hc 11 (args:=#[.slice a n c]) (R:=λu w'=>u= .bool true/\Bl (w) w') ((G5 hn)) ?_;rintro _ u1⟨rfl,hb2⟩;replace hr:=hr.go hb2;refine GK 7 (λw=>Rw g w #[v] 67) (hr.drew) ?_;replace hr:=hr.drew;refine Dx [0] 1 (og f22 3 1) (.pointer (some ⟨g,0,none⟩)) (λv hv=>(λ_=>by kernel_rfl)) hr<|Dl [2] 3 (λv hv=>hv) 0 65 (v) hr<|Dy [4] [5] hr ?_;replace hk:=(hk.go hb2).drew;refine Yc 5 (R:=λu w'=>(∃a',u= .slice a' (2*n) (2*n)/\Ni.Cut w' (u1.drew).heap.size a' (2*n) (Ni.nib k))/\Bl (u1.drew) w') (((Ni.of_any _ _ _ k _ hk.ag (by omega)).mono (λe w' h=>by obtain⟨⟨a',e1,h1⟩,h2⟩:=h;exact⟨_,e1,⟨a',rfl,h1⟩,h2⟩))) (λu w' h=>hr.go h.2) ?_ yn;rintro _ u3⟨⟨aq,rfl,hcut⟩,hb4⟩;replace hB:=(hB.go hb2).drew;have hsq:=hB.size;have hq:Sk K u3 aq (2*n) (2*n) (Ni.nib k):=JL hcut (λb hb=>hK b (Al hsq hb));refine Dz [6] ?_;replace ht:=((ht.go hb2).drew).go hb4;replace hr:=hr.go hb4;refine Yc 6 (R:=RS K (u3) (Tr.get t (Ni.nib k))) ((GO hFS ht hq hnb)) (λu w' h=>hr.go h.2) ?_ yn;rintro _ u5⟨⟨a3,n3,c3,rfl,hs3⟩,hb6⟩;replace hr:=hr.go hb6;refine Dq [7] hr ?_;have l3:=hs3.len;replace ht:=ht.go hb6;have l4:=ht.len _ hnb;replace hB:=(hB.go hb4).go hb6;have hsz:=hB.size;refine Hc 4 (R:=λu w'=>∃a2 n2 c2,u= .slice a2 n2 c2/\Sk (λb=>(u5).heap.size<=b) w' a2 n2 c2 (Tr.get t (Ni.nib k))/\Wr w' a2 n2/\Bl (u5) w') ((LS hs3 (by omega))) ?_;rintro _ u7⟨a4,n4,c4,rfl,hs4,hw4,hb8⟩;refine Hp 2 (.bool (decide ((n3:Int)>(0:Int))))<|Hp 1 (.bool (decide ((n3:Int)>(0:Int)))) ?_;replace hB:=hB.go hb8;exact Hr 4 (.tuple #[.slice a4 n4 c4, .bool (decide ((n3:Int)>(0:Int))), .int .i64 0]) ⟨_,rfl,⟨_,_,_,_,rfl,(by rw[<-l3];exact Sh _),hs4.mono (λb hb=>Al hsz hb),hw4⟩,hB⟩
theorem Xq{t:Tr}(h:Tri K w g t)(hk:Sk K1 w a n c k):
 Calls prog 22 #[.pointer (some ⟨g,0,none⟩), .slice a n c] w λe w'=>∃u,e= .returned u/\(∃a2 n2 c2,u= .tuple #[.slice a2 n2 c2, .bool (decide (getX t k≠[])), .int .i64 (getZ k)]/\Sk (λb=>w.heap.size<=b) w' a2 n2 c2 (getX t k)/\Wr w' a2 n2)/\Bl w w':=by
 have lk:=hk.len;obtain⟨⟨v,h1,h2⟩,h3⟩:=h;unfold getX getZ;rw[lk];by_cases hn:n<=32
 ·rw[Af hn,Af hn];exact(Za h1 (h2.mono (K':=λ_=>True) (λ_ _=>trivial)) h3 hk hn (λ_ _=>trivial)).mono (λe w'⟨u,e1,⟨a2,n2,c2,b,e2,e3,e4,e5⟩,e6⟩=>⟨u,e1,⟨a2,n2,c2,by rw[e2,e3],e4,e5⟩,e6⟩)
 ·rw[Ad hn,Ad hn];exact(XL hk (by omega)).mono (λe w'⟨u,e1,e2,e3⟩=>⟨u,e1,⟨none,0,0,by rw[e2];rfl,Sk.nil _ _, .inl rfl⟩,e3⟩)
theorem UU{l:PList}{t:Tr}(hR:Rel t l)(hl:PAt K w a n c vs l){ak:Option Addr}{nk ck:Nat}(hk:Sk K1 w ak nk ck k)(hb:n<=2600000000000)(hlen:∀(j:Nat) k x,l[j]?=some (k,x)->k.length<=1000000):
 Calls prog 17 #[.slice a n c, .slice ak nk ck] w λe w'=>∃u,e= .returned u/\(∃a2 n2 c2,u= .tuple #[.slice a2 n2 c2, .bool (decide (getX t k≠[])), .int .i64 (getZ k)]/\Sk (λ_=>True) w' a2 n2 c2 (getX t k))/\Bl w w':=by
 have lk:=hk.len;unfold getX getZ;rw[lk];by_cases hn:nk<=32
 ·rw[Af hn,Af hn];have hi:=hR.isAt hk.ag.b (by omega);cases hq:isAt k l with
  |true=>
   refine(Y7 hl hk hb hlen hn hq).mono (λe w'⟨u,e1,⟨a2,n2,c2,e2,x,e3,e4⟩,e5⟩=>⟨u,e1,⟨a2,n2,c2,?_,?_⟩,e5⟩)
   ·rw[e2,<-hi,hq]
   ·rw[((hR.m _ _).1 (AK e3)).2.2.2];exact e4.mono (λ_ _=>trivial)
  |false=>
   have h0:Tr.get t (Ni.nib k)=[]:=(by rw[hq]at hi;by_cases h:Tr.get t (Ni.nib k)=[];exact h;simp[h]at hi);refine(WA hl hk hb hlen hn hq).mono (λe w'⟨u,e1,e2,e5⟩=>⟨u,e1,⟨none,0,0,by rw[e2,h0];rfl,by rw[h0];exact Sk.nil _ _⟩,e5⟩)
 ·rw[Ad hn,Ad hn];exact(Un hl hk hb (by omega)).mono (λe w'⟨u,e1,e2,e3⟩=>⟨u,e1,⟨none,0,0,by rw[e2];rfl,Sk.nil _ _⟩,e3⟩)
theorem Rel.bd{t:Tr}{l:PList}(h:Rel t l):∀e∈l,e.1.length<=1000/\e.2.length<=1000:=λe he=>by
 have h1:=((h.m e.1 e.2).1 he).2.1;have h2:=h.v e.1 e.2 he;exact⟨by omega,by omega⟩
theorem Xr{t:Tr}{l:PList}(h:Rel t l)(hk:Byk k):(getX t k).length<=256:=by
 unfold getX;split
 ·by_cases e:Tr.get t (Ni.nib k)=[]
  ·rw[e];simp
  ·exact h.v k _ ((h.m k _).2 ⟨hk,by assumption,e,rfl⟩)
 ·simp
theorem Rel.klen3{t:Tr}{l:PList}(h:Rel t l)(j:Nat)(k x:List Int)(he:l[j]?=some (k,x)):k.length<=1000000:=by
 have:=((h.m k x).1 (AK he)).2.1;omega
theorem Xak{t:Tr}(hT:Tri K0 w g t){l:PList}(hP:PAt K0 w a n c vs l)(hR:Rel t l)(hk:Ag w y.ka y.kn y.kc y.k)(hbn:n<=2600000000000)(hM:(nmd t).length+1<=7600000000000)(hz:y.z=2):
 Calls prog 13 #[.pointer (some ⟨g,0,none⟩), .slice a n c, .agg #[.int .i64 y.z, .slice y.ka y.kn y.kc, .slice y.va y.vn y.vc]] w λe w'=>∃u,e= .returned u/\(λu w'=>u= .bool true/\Bl w w') u w':=by
 have hB:=Bl.refl w;have lk:=hk.l;have hok:=hk.an;have hdl:=Fe t;have hne:=hR.ents;have hll:=hP.ll;obtain⟨ds,hds⟩:∃ds,rootP t=ds:=⟨_,rfl⟩;rw[hds]at hdl;obtain⟨bG,hbG⟩:∃b,decide (getX t y.k≠[])=b:=⟨_,rfl⟩;obtain⟨zG,hzG⟩:∃z,getZ y.k=z:=⟨_,rfl⟩;obtain⟨xG,hxG⟩:∃x,getX t y.k=x:=⟨_,rfl⟩;refine Dp func13 85<|Hn 2 (#[.int .i64 y.z, .slice y.ka y.kn y.kc, .slice y.va y.vn y.vc]) 29 ?_;intro w1 g2 hn3 hr4;refine Hl 7 hr4 0 3 (.int .i64 y.z)<|Hb 5 ((y.z:Int)==(2:Int)) true (C9.2 hz)<|Hl 8 hr4 1 27 (.slice y.ka y.kn y.kc) ?_;replace hT:=hT.go hn3.below;replace hok:=hok.go hn3.below;refine Hc 0 (R:=λu w'=>(∃a n c,u= .tuple #[.slice a n c, .bool bG, .int .i64 zG]/\Sk (λb=>(w1).heap.size<=b) w' a n c xG/\Wr w' a n)/\Bl (w1) w') (((Xq hT hok).mono (λe w'⟨u,e1,⟨a,n,c,e2,e3,e4⟩,e5⟩=>⟨u,e1,⟨a,n,c,by rw[e2,hbG,hzG],by rw[hxG]at e3;exact e3,e4⟩,e5⟩))) ?_;rintro _ u5⟨⟨aG,nG,cG,rfl,hsG,hwG⟩,hb6⟩;replace hB:=hB.go hn3.below;replace hsG:=hsG.mono (λb hb=>Al hB.size hb);refine Hp 0 (.tuple #[.slice aG nG cG, .bool bG, .int .i64 zG])<|Hp 1 (.bool bG)<|Hp 2 (.bool bG) ?_;replace hr4:=hr4.go hb6;refine Hl 7 hr4 1 27 (.slice y.ka y.kn y.kc) ?_;replace hP:=(hP.go hn3.below).go hb6;replace hok:=hok.go hb6;refine Hc 0 (R:=λu w'=>(∃a n c,u= .tuple #[.slice a n c, .bool bG, .int .i64 zG]/\Sk (λ_=>True) w' a n c xG)/\Bl (u5) w') (((UU hR hP hok hbn hR.klen3).mono (λe w'⟨u,e1,⟨a,n,c,e2,e3⟩,e5⟩=>⟨u,e1,⟨a,n,c,by rw[e2,hbG,hzG],by rw[hxG]at e3;exact e3⟩,e5⟩))) ?_;rintro _ u7⟨⟨aH,nH,cH,rfl,hsH⟩,hb8⟩;refine Hp 0 (.tuple #[.slice aH nH cH, .bool bG, .int .i64 zG])<|Hp 1 (.bool bG)<|Hp 2 (.bool bG)<|Hp 5 (.bool bG)<|Hp 0 (.bool bG)<|Hx 0 (og f13 5 2) (.bool true) (λ_=>Qu 4 _ _ _ bG bG rfl (by kernel_rfl) (by kernel_rfl) (by simp))<|Hb 3 ((zG:Int)==(zG:Int)) true (beq_self_eq_true _) ?_;replace hsG:=hsG.go hb8;refine Hx 3 (og f13 5 10) (.string (strOfNums xG)) (λ_=>hsG.run_str _ _ _ rfl (by kernel_rfl))<|Hx 1 (og f13 5 12) (.string (strOfNums xG)) (λ_=>hsH.run_str _ _ _ rfl (by kernel_rfl))<|Hx 0 (og f13 5 13) (.bool true) (λ_=>Gf 9 _ _ _ (strOfNums xG) (strOfNums xG) rfl (by kernel_rfl) (by kernel_rfl) (by simp)) ?_;replace hB:=(hB.go hb6).go hb8;replace hwG:=hwG.go hb8;refine Ho (X:=Nat) 13 (λj=>[(52, .int .i64 (j:Int)),(51, .int .i64 nG),(7, .slice aG nG cG),(13, .bool true)]) (λj u=>Bl w u/\Wr u aG nG/\j<=nG) (λj=>nG-j) 0 ⟨hB,hwG,Ay _⟩ ?_;have hKG:=hsG.k;have hnG:nG<=256:=by rw[<-hsG.len,<-hxG];exact Xr hR hk.b
 replace hT:=(hT.go hb6).go hb8;replace hP:=hP.go hb8;clear hB hwG hsG hsH hT hP;rintro j v⟨hB,hwG,hj⟩ I1 hN1;by_cases hlt:j<nG
 ·skip
  obtain⟨g1,o1,cur1,ea,hr1,hz1⟩:=hwG.pos (by omega);have hg1:w.heap.size<=g1:=hKG _ ea (by omega);subst ea;refine Ht 2 ((j:Int)<(nG:Int))<|Hx 17 (og f13 9 2) (.pointer (some ⟨g1,o1+j*1,none⟩)) (λ_=>AV 27 _ _ g1 o1 j nG cG 1 5 rfl (by kernel_rfl) (by kernel_rfl) hlt underlying27 (by kernel_rfl))<|Ha 0 (og f13 9 3) g1 (o1+j*1) (.int .u8 99) (λ_=>BO 5 _ _ g1 (o1+j*1) _ 5 _ hr1 rfl (by kernel_rfl) (by kernel_rfl) (by omega) rfl rfl (by kernel_rfl)) ?_;intro vS hset;refine Hi 4 ((j:Int)+1) ((j:Int)+1) ?_;exact hN1 2 (j+1) ⟨hset.touch.below hB hg1 hB.size,hwG.set hset hr1,by omega⟩ (by show nG-(j+1)<nG-j;omega) (λ_=>by kernel_rfl)
 have hjn:j=nG:=by omega
 refine Hf 2 ((j:Int)<(nG:Int)) ?_;exact Hr 18 (.bool true) ⟨_,rfl,rfl,hB⟩
theorem Xal{t:Tr}(hT:Tri K0 w g t){l:PList}(hP:PAt K0 w a n c vs l)(hR:Rel t l)(hk:Ag w y.ka y.kn y.kc y.k)(hbn:n<=2600000000000)(hM:(nmd t).length+1<=7600000000000)(hz:y.z=3):
 Calls prog 13 #[.pointer (some ⟨g,0,none⟩), .slice a n c, .agg #[.int .i64 y.z, .slice y.ka y.kn y.kc, .slice y.va y.vn y.vc]] w λe w'=>∃u,e= .returned u/\(λu w'=>u= .bool true/\Bl w w') u w':=by
 have hB:=Bl.refl w;have lk:=hk.l;have hok:=hk.an;have hdl:=Fe t;have hne:=hR.ents;have hll:=hP.ll;obtain⟨ds,hds⟩:∃ds,rootP t=ds:=⟨_,rfl⟩;rw[hds]at hdl;refine Dp func13 85<|Hn 2 (#[.int .i64 y.z, .slice y.ka y.kn y.kc, .slice y.va y.vn y.vc]) 29 ?_;intro w1 g2 hn3 hr4;refine Hl 7 hr4 0 3 (.int .i64 y.z)<|Hz 5 (y.z:Int) (2:Int)<|Hb 6 ((y.z:Int)==(3:Int)) true (C9.2 hz) ?_;replace hT:=hT.go hn3.below;refine Hc 7 (R:=λu w'=>u= .agg (B8 ds)/\Bl (w1) w') (((Mx hT hM).mono (λe w'⟨u,e1,e2,e3⟩=>⟨u,e1,by rw[e2,hds],e3⟩))) ?_;rintro _ u5⟨rfl,hb6⟩;replace hP:=(hP.go hn3.below).go hb6;refine Hc 1 (R:=λu w'=>u= .agg (B8 ds)/\Bl (u5) w') (((Kj hR hP hbn).mono (λe w'⟨u,e1,e2,e3⟩=>⟨u,e1,by rw[e2,hds],e3⟩))) ?_;rintro _ u7⟨rfl,hb8⟩;refine Hx 0 (og f13 13 4) (.bool true) (λ_=>QJ rfl (by kernel_rfl) (by kernel_rfl) hdl) ?_;replace hB:=((hB.go hn3.below).go hb6).go hb8;exact Hr 6 (.bool true) ⟨_,rfl,rfl,hB⟩
theorem Xam{t:Tr}(hT:Tri K0 w g t){l:PList}(hP:PAt K0 w a n c vs l)(hR:Rel t l)(hk:Ag w y.ka y.kn y.kc y.k)(hbn:n<=2600000000000)(hM:(nmd t).length+1<=7600000000000)(hz:y.z=4):
 Calls prog 13 #[.pointer (some ⟨g,0,none⟩), .slice a n c, .agg #[.int .i64 y.z, .slice y.ka y.kn y.kc, .slice y.va y.vn y.vc]] w λe w'=>∃u,e= .returned u/\(λu w'=>u= .bool true/\Bl w w') u w':=by
 have hB:=Bl.refl w;have lk:=hk.l;have hok:=hk.an;have hdl:=Fe t;have hne:=hR.ents;have hll:=hP.ll;obtain⟨ds,hds⟩:∃ds,rootP t=ds:=⟨_,rfl⟩;rw[hds]at hdl;refine Dp func13 85<|Hn 2 (#[.int .i64 y.z, .slice y.ka y.kn y.kc, .slice y.va y.vn y.vc]) 29 ?_;intro w1 g2 hn3 hr4;refine Hl 7 hr4 0 3 (.int .i64 y.z)<|Hz 5 (y.z:Int) (2:Int)<|Hz 6 (y.z:Int) (3:Int)<|Hb 6 ((y.z:Int)==(4:Int)) true (C9.2 hz) ?_;replace hT:=hT.go hn3.below;refine Hc 7 (R:=RNo (w1) t) ((UO hT hM)) ?_;rintro _ u5⟨⟨aN,nN,cN,rfl,hbt,_,hnN⟩,hb6⟩;replace hP:=(hP.go hn3.below).go hb6;refine Hc 1 (R:=RNs7 (u5) t) ((MA hR hP hbn hM)) ?_;rintro _ u7⟨⟨aM,nM,cM,rfl,hbu⟩,hb8⟩;replace hbt:=hbt.go hb8;refine Hc 0 (args:=#[.slice aN nN cN, .slice aM nM cM]) (R:=λu w'=>u= .bool true/\Bl (u7) w') (((K7 hbt hbu (by omega)).mono (λe w'⟨u,e1,e2,e3⟩=>⟨u,e1,by rw[e2,AT rfl],e3⟩))) ?_;rintro _ u9⟨rfl,hb10⟩;replace hB:=(((hB.go hn3.below).go hb6).go hb8).go hb10;exact Hr 6 (.bool true) ⟨_,rfl,rfl,hB⟩
theorem Xan{t:Tr}(hT:Tri K0 w g t){l:PList}(hP:PAt K0 w a n c vs l)(hR:Rel t l)(hk:Ag w y.ka y.kn y.kc y.k)(hbn:n<=2600000000000)(hM:(nmd t).length+1<=7600000000000)(hz:y.z=5):
 Calls prog 13 #[.pointer (some ⟨g,0,none⟩), .slice a n c, .agg #[.int .i64 y.z, .slice y.ka y.kn y.kc, .slice y.va y.vn y.vc]] w λe w'=>∃u,e= .returned u/\(λu w'=>u= .bool true/\Bl w w') u w':=by
 have hB:=Bl.refl w;have lk:=hk.l;have hok:=hk.an;have hdl:=Fe t;have hne:=hR.ents;have hll:=hP.ll;obtain⟨ds,hds⟩:∃ds,rootP t=ds:=⟨_,rfl⟩;rw[hds]at hdl;refine Dp func13 85<|Hn 2 (#[.int .i64 y.z, .slice y.ka y.kn y.kc, .slice y.va y.vn y.vc]) 29 ?_;intro w1 g2 hn3 hr4;refine Hl 7 hr4 0 3 (.int .i64 y.z)<|Hz 5 (y.z:Int) (2:Int)<|Hz 6 (y.z:Int) (3:Int)<|Hz 6 (y.z:Int) (4:Int)<|Hb 6 ((y.z:Int)==(5:Int)) true (C9.2 hz) ?_;replace hT:=hT.go hn3.below;refine Hc 7 (R:=λu w'=>(∃a c vs,u= .slice a n c/\PAt (λ_=>True) w' a n c vs l)/\Bl (w1) w') (((IM hT (by rw[hne];exact hR.bd) (by rw[hne,hll];exact hbn)).mono (λe w'⟨u,e1,⟨a,c,vs,e2,e3⟩,e4⟩=>⟨u,e1,⟨a,c,vs,by rw[e2,hne,hll],by rw[hne,hll]at e3;exact e3⟩,e4⟩))) ?_;rintro _ u5⟨⟨aL,cL,vsL,rfl,hPl⟩,hb6⟩;replace hP:=(hP.go hn3.below).go hb6;refine Hc 1 (R:=λu w'=>u= .bool true/\Bl (u5) w') ((IN hPl hP hbn)) ?_;rintro _ u7⟨rfl,hb8⟩;replace hB:=((hB.go hn3.below).go hb6).go hb8;exact Hr 6 (.bool true) ⟨_,rfl,rfl,hB⟩
theorem Xao{t:Tr}(hT:Tri K0 w g t){l:PList}(hP:PAt K0 w a n c vs l)(hR:Rel t l)(hk:Ag w y.ka y.kn y.kc y.k)(hbn:n<=2600000000000)(hM:(nmd t).length+1<=7600000000000)(hz:y.z≠2/\y.z≠3/\y.z≠4/\y.z≠5):
 Calls prog 13 #[.pointer (some ⟨g,0,none⟩), .slice a n c, .agg #[.int .i64 y.z, .slice y.ka y.kn y.kc, .slice y.va y.vn y.vc]] w λe w'=>∃u,e= .returned u/\(λu w'=>u= .bool true/\Bl w w') u w':=by
 have hB:=Bl.refl w;have lk:=hk.l;have hok:=hk.an;have hdl:=Fe t;have hne:=hR.ents;have hll:=hP.ll;obtain⟨ds,hds⟩:∃ds,rootP t=ds:=⟨_,rfl⟩;rw[hds]at hdl;refine Dp func13 85<|Hn 2 (#[.int .i64 y.z, .slice y.ka y.kn y.kc, .slice y.va y.vn y.vc]) 29 ?_;intro w1 g2 hn3 hr4;refine Hl 7 hr4 0 3 (.int .i64 y.z)<|Hz 5 (y.z:Int) (2:Int)<|Hz 6 (y.z:Int) (3:Int)<|Hz 6 (y.z:Int) (4:Int)<|Hz 6 (y.z:Int) (5:Int) ?_;replace hT:=hT.go hn3.below;refine Hc 10 (R:=λu w'=>u= .int .i64 (n:Int)/\Bl (w1) w') (((SL hT (by rw[hne];omega)).mono (λe w'⟨u,e1,e2,e3⟩=>⟨u,e1,by rw[e2,hne,hll],e3⟩))) ?_;rintro _ u5⟨rfl,hb6⟩;refine Hb 2 ((n:Int)==(n:Int)) true (beq_self_eq_true _) ?_;replace hB:=(hB.go hn3.below).go hb6;exact Hr 4 (.bool true) ⟨_,rfl,rfl,hB⟩
theorem Xs{t:Tr}(hT:Tri K0 w g t){l:PList}(hP:PAt K0 w a n c vs l)(hR:Rel t l)(hk:Ag w y.ka y.kn y.kc y.k)(hbn:n<=2600000000000)(hM:(nmd t).length+1<=7600000000000):
 Calls prog 13 #[.pointer (some ⟨g,0,none⟩), .slice a n c, .agg #[.int .i64 y.z, .slice y.ka y.kn y.kc, .slice y.va y.vn y.vc]] w λe w'=>∃u,e= .returned u/\u= .bool true/\Bl w w':=by
 by_cases h2:y.z=2
 ·exact Xak hT hP hR hk hbn hM h2
 by_cases h3:y.z=3
 ·exact Xal hT hP hR hk hbn hM h3
 by_cases h4:y.z=4
 ·exact Xam hT hP hR hk hbn hM h4
 by_cases h5:y.z=5
 ·exact Xan hT hP hR hk hbn hM h5
 exact Xao hT hP hR hk hbn hM ⟨h2,h3,h4,h5⟩
theorem Zb{ρ:Operand->Value}{w:World}{x y:Operand}{o:Oper}{ds:List Int}(ho:o.op= .binOp .neq 49 x y 49)(hx:ρ x= .agg (B8 ds))(hy:ρ y= .agg (B8 ds))(hl:ds.length=32):(execOp ρ o).run prog w= .ok (.value (.bool false)) w:=by
 have e:=XaG ds ds hl hl w;simp at e;unfold execOp;rw[ho];simp only[hx,hy];go_simp
theorem Zc{ρ:Operand->Value}{w:World}{o:Oper}(T:TypeId)(x y:Operand)(g j:Nat)(old v:Value)(hc:w.cell? ⟨g,j,none⟩=some old)(hf:w.frozen? ⟨g,j,none⟩=false)(ho:o.op= .store T x y)(hx:ρ x= .pointer (some ⟨g,j,none⟩))(hy:ρ y=v)(h1:v.cells=#[v])(h2:v.oneCell'=true)(hi:(prog.info? T).map (·.size)=some 1):
 (execOp ρ o).run prog w= .ok .skip (w.setCell ⟨g,j,none⟩ v):=by
 have hs:(sizeOf T).run prog w= .ok 1 w:=by
  cases hq:prog.info? T with
  |none=>simp[hq]at hi
  |some z=>simp[hq]at hi;simp[sizeOf,typeInfo,hq,hi]
 unfold execOp;rw[ho];simp only[hx,hy,Instr.storeAt,Instr.sureAddr,storeVar,h1,Bm,Bp,AH,hs];go_simp;rw[run_store _ _ _ _ _ h2];simp[hc,hf]
def By(w:World)(p:Addr):Prop:=(∃x,w.cell? p=some (.int .u8 x))/\w.frozen? p=false
theorem By.go(h:By w p)(hb:Below w.heap.size w w'):By w' p:=by
 obtain⟨⟨x,h1⟩,h2⟩:=h;have hl:=Aj h1;exact⟨⟨x,(Aq (w:=w) (hb.block _ hl)).trans h1⟩,(B6 (w:=w) (hb.block _ hl)).trans h2⟩
theorem By.set{o:Nat}(h:By w p)(hs:Set1 w w' g o (.int .u8 x)):By w' p:=by
 obtain⟨⟨y,h1⟩,h2⟩:=h;rw[hs.hw];refine⟨?_,by rw[Ei];exact h2⟩;by_cases e:(⟨g,o,none⟩:Addr)=p
 ·subst e;exact⟨x,World.cell?_setCell_same (h:=h1) ..⟩
 ·exact⟨y,by rw[World.cell?_setCell_other (h:=e) ..];exact h1⟩
def Sp(B0:Nat)(w:World)(a:Option Addr)(n:Nat):Prop:=∀j,j<n->∃g off a' n' c',a=some ⟨g,off,none⟩/\w.cell? ⟨g,off+j*1,none⟩=some (.slice a' n' c')/\n'<=9223372036854775807/\(n'=0∨∃g2 o2,a'=some ⟨g2,o2,none⟩/\g2≠g/\B0<=g2/\∀i,i<n'->By w ⟨g2,o2+i*1,none⟩)
theorem Sp.go(h:Sp B0 w a n)(hb:Below w.heap.size w w'):Sp B0 w' a n:=λj hj=>by
 obtain⟨g,off,a',n',c',h1,h2,h3,h4⟩:=h j hj;exact⟨g,off,a',n',c',h1,(Aq (w:=w) (hb.block _ (Aj h2))).trans h2,h3,h4.imp id λ⟨g2,o2,q1,q2,q3,q4⟩=>⟨g2,o2,q1,q2,q3,λi hi=>(q4 i hi).go hb⟩⟩
theorem Sp.set(h:Sp B0 w a n){g1 o1:Nat}(hs:Set1 w w' g1 o1 (.int .u8 x)){off:Nat}(ha:a=some ⟨g,off,none⟩)(hne:g1≠g):Sp B0 w' a n:=λj hj=>by
 obtain⟨g',off',a',n',c',h1,h2,h3,h4⟩:=h j hj;rw[ha]at h1;cases h1;exact⟨g,off,a',n',c',ha,(Aq (w:=w) (hs.other (λe=>hne e.symm))).trans h2,h3,h4.imp id λ⟨g2,o2,q1,q2,q3,q4⟩=>⟨g2,o2,q1,q2,q3,λi hi=>(q4 i hi).set hs⟩⟩
theorem XaE{B1:Nat}{M:List (List Int)}(hB:B0<=B1)(h:Bt (λb=>B1<=b/\(∀x,a=some x->b≠x.block)/\Nf w b) w a n M):Sp B0 w a n:=λj hj=>by
 obtain⟨g,off,a',n',c',h1,h2,h3⟩:=h.row j hj;refine⟨g,off,a',n',c',h1,h2,?_,?_⟩
 ·rcases h3.ag.i with⟨q1,_⟩|⟨gb,o2,q1,q2,q3,q4,q5,q7⟩
  ·omega
  ·unfold maxLen at q5;omega
 ·rcases h3.ag.i with⟨q1,_⟩|⟨gb,o2,q1,q2,q3,q4,q5,q7⟩
  ·exact .inl q1
  ·have hk:=h3.k _ q1 q3;exact .inr ⟨gb,o2,q1,hk.2.1 _ h1,Al hB hk.1,λi hi=>⟨⟨_,by rw[Ce];exact q7 i (by omega)⟩,hk.2.2.2 _⟩⟩
theorem RD{t:Tr}(hT:Tri K0 w g t){l:PList}(hP:PAt K0 w a n c vs l)(hR:Rel t l)(hbn:n<=2600000000000)(hM:(nmd t).length+1<=7600000000000):
 Calls prog 14 #[.pointer (some ⟨g,0,none⟩), .slice a n c] w λe w'=>∃u,e= .returned u/\(λu w'=>u= .bool true/\Bl w w') u w':=by
 have hB:=Bl.refl w;have hT0:=hT;have hP0:=hP;have hdl:=Fe t;have hne:=hR.ents;have hll:=hP.ll;obtain⟨ds,hds⟩:∃ds,rootP t=ds:=⟨_,rfl⟩;rw[hds]at hdl;refine Dp func14 70<|Hc 9 (R:=λu w'=>u= .int .i64 (n:Int)/\Bl (w) w') (((SL hT (by rw[hne];omega)).mono (λe w'⟨u,e1,e2,e3⟩=>⟨u,e1,by rw[e2,hne,hll],e3⟩))) ?_;rintro _ u1⟨rfl,hb2⟩;refine Hb 2 (!((n:Int)==(n:Int))) false (by simp) ?_;replace hT:=hT.go hb2;refine Hc 2 (R:=λu w'=>u= .agg (B8 ds)/\Bl (u1) w') (((Mx hT hM).mono (λe w'⟨u,e1,e2,e3⟩=>⟨u,e1,by rw[e2,hds],e3⟩))) ?_;rintro _ u3⟨rfl,hb4⟩;replace hP:=(hP.go hb2).go hb4;refine Hc 1 (R:=λu w'=>u= .agg (B8 ds)/\Bl (u3) w') (((Kj hR hP hbn).mono (λe w'⟨u,e1,e2,e3⟩=>⟨u,e1,by rw[e2,hds],e3⟩))) ?_;rintro _ u5⟨rfl,hb6⟩;refine Hx 0 (og f14 1 10) (.bool false) (λ_=>Zb rfl (by kernel_rfl) (by kernel_rfl) hdl) ?_;replace hT:=(hT.go hb4).go hb6;refine Hc 3 (R:=λu w'=>(∃a c vs,u= .slice a n c/\PAt (λ_=>True) w' a n c vs l)/\Bl (u5) w') (((IM hT (by rw[hne];exact hR.bd) (by rw[hne,hll];exact hbn)).mono (λe w'⟨u,e1,⟨a,c,vs,e2,e3⟩,e4⟩=>⟨u,e1,⟨a,c,vs,by rw[e2,hne,hll],by rw[hne,hll]at e3;exact e3⟩,e4⟩))) ?_;rintro _ u7⟨⟨aL1,cL1,vsL1,rfl,hPl1⟩,hb8⟩;replace hP:=(hP.go hb6).go hb8;refine Hc 1 (R:=λu w'=>u= .bool true/\Bl (u7) w') ((IN hPl1 hP hbn)) ?_;rintro _ u9⟨rfl,hb10⟩;replace hT:=(hT.go hb8).go hb10;refine Hc 4 (R:=λu w'=>(∃a c vs,u= .slice a n c/\PAt (λ_=>True) w' a n c vs l)/\Bl (u9) w') (((IM hT (by rw[hne];exact hR.bd) (by rw[hne,hll];exact hbn)).mono (λe w'⟨u,e1,⟨a,c,vs,e2,e3⟩,e4⟩=>⟨u,e1,⟨a,c,vs,by rw[e2,hne,hll],by rw[hne,hll]at e3;exact e3⟩,e4⟩))) ?_;rintro _ u11⟨⟨aL2,cL2,vsL2,rfl,hPl2⟩,hb12⟩;replace hP:=(hP.go hb10).go hb12;refine Hc 1 (R:=λu w'=>u= .bool true/\Bl (u11) w') ((IN hPl2 hP hbn)) ?_;rintro _ u13⟨rfl,hb14⟩;replace hT:=(hT.go hb12).go hb14;refine Hc 10 (R:=RNoW (u13) t) ((M8 hT hM)) ?_;rintro _ u15⟨⟨aN,nN,cN,rfl,hbt,_,hnN⟩,hb16⟩;replace hB:=((((((hB.go hb2).go hb4).go hb6).go hb8).go hb10).go hb12).go hb14;have hsp:=XaE hB.size hbt;replace hP:=(hP.go hb14).go hb16;refine Hc 7 (R:=RNs7 (u15) t) ((MA hR hP hbn hM)) ?_;rintro _ u17⟨⟨aM,nM,cM,rfl,hbu⟩,hb18⟩;replace hbt:=hbt.go hb18;refine Hc 0 (args:=#[.slice aN nN cN, .slice aM nM cM]) (R:=λu w'=>u= .bool true/\Bl (u17) w') (((K7 hbt hbu (by omega)).mono (λe w'⟨u,e1,e2,e3⟩=>⟨u,e1,by rw[e2,AT rfl],e3⟩))) ?_;rintro _ u19⟨rfl,hb20⟩;replace hB:=((hB.go hb16).go hb18).go hb20;replace hsp:=(hsp.go hb18).go hb20;refine Ho (X:=Nat) 12 (λj=>[(43, .int .i64 (j:Int)),(42, .int .i64 nN),(5, .slice aN nN cN),(6, .bool true),(0, .pointer (some ⟨g,0,none⟩)),(1, .slice a n c)]) (λj u=>Bl w u/\Sp w.heap.size u aN nN/\j<=nN) (λj=>nN-j) 0 ⟨hB,hsp,Ay _⟩ ?_;replace hPl1:=(((((hPl1.go hb10).go hb12).go hb14).go hb16).go hb18).go hb20;replace hPl2:=(((hPl2.go hb14).go hb16).go hb18).go hb20;replace hT:=((hT.go hb16).go hb18).go hb20;replace hP:=(hP.go hb18).go hb20;replace hbt:=hbt.go hb20;replace hbu:=hbu.go hb20;clear hB hsp hbt hbu hT hP hPl1 hPl2;rintro j v⟨hB,hsp,hj⟩ I1 hN1;by_cases hlt:j<nN
 ·skip
  obtain⟨gR,oR,a1,n1,c1,ea,hcR,hz1,hby⟩:=hsp j hlt;subst ea;refine Ht 2 ((j:Int)<(nN:Int))<|Hx 18 (og f14 8 2) (.pointer (some ⟨gR,oR+j*1,none⟩)) (λ_=>AV 41 _ _ gR oR j nN cN 1 27 rfl (by kernel_rfl) (by kernel_rfl) hlt underlying41 (by kernel_rfl))<|Hx 0 (og f14 8 3) (.slice a1 n1 c1) (λ_=>AF 27 _ _ _ _ rfl (by kernel_rfl) hcR underlying27 rfl)<|Ho (X:=Nat) 5 (λi=>[(51, .int .i64 (i:Int)),(50, .int .i64 n1),(43, .int .i64 (j:Int)),(42, .int .i64 nN),(5, .slice (some ⟨gR,oR,none⟩) nN cN),(7, .int .i64 (j:Int)),(6, .bool true),(0, .pointer (some ⟨g,0,none⟩)),(1, .slice a n c)]) (λi u=>Bl w u/\Sp w.heap.size u (some ⟨gR,oR,none⟩) nN/\u.cell? ⟨gR,oR+j*1,none⟩=some (.slice a1 n1 c1)/\(n1=0∨∃g3 o3,a1=some ⟨g3,o3,none⟩/\g3≠gR/\w.heap.size<=g3/\∀i,i<n1->By u ⟨g3,o3+i*1,none⟩)/\i<=n1) (λi=>n1-i) 0 ⟨hB,hsp,hcR,hby,Ay _⟩ ?_;clear hB hsp hcR hby
  rintro i x⟨hB,hsp,hcR,hby,hi⟩ I2 hN2;by_cases hlti:i<n1
  ·skip
   obtain⟨g2,o2,ea,hg2,hw2,hbz⟩:=hby.resolve_left (by omega);subst ea;obtain⟨⟨xo,hxo⟩,hfo⟩:=hbz i hlti;refine Ht 2 ((i:Int)<(n1:Int))<|Hx 17 (og f14 11 2) (.pointer (some ⟨gR,oR+j*1,none⟩)) (λ_=>AV 41 _ _ gR oR j nN cN 1 27 rfl (by kernel_rfl) (by kernel_rfl) hlt underlying41 (by kernel_rfl))<|Hx 0 (og f14 11 3) (.slice (some ⟨g2,o2,none⟩) n1 c1) (λ_=>AF 27 _ _ _ _ rfl (by kernel_rfl) hcR underlying27 rfl)<|Hx 1 (og f14 11 5) (.pointer (some ⟨g2,o2+i*1,none⟩)) (λ_=>AV 27 _ _ g2 o2 i n1 c1 1 5 rfl (by kernel_rfl) (by kernel_rfl) hlti underlying27 (by kernel_rfl))<|Ha 0 (og f14 11 6) g2 (o2+i*1) (.int .u8 99) (λ_=>Zc 5 _ _ g2 (o2+i*1) _ _ hxo hfo rfl (by kernel_rfl) (by kernel_rfl) rfl rfl (by kernel_rfl)) ?_;intro vS hset;refine Hi 4 ((i:Int)+1) ((i:Int)+1) ?_;exact hN2 2 (i+1) ⟨hset.touch.below hB hw2 hB.size,hsp.set hset rfl hg2,(Aq (w:=x) (hset.other (λe=>hg2 e.symm))).trans hcR, .inr ⟨g2,o2,rfl,hg2,hw2,λi hi=>(hbz i hi).set hset⟩,by omega⟩ (by show n1-(i+1)<n1-i;omega) (λ_=>by kernel_rfl)
  have hin:i=n1:=by omega
  refine Hf 2 ((i:Int)<(n1:Int))<|Hi 11 ((j:Int)+1) ((j:Int)+1) ?_;exact hN1 2 (j+1) ⟨hB,hsp,by omega⟩ (by show nN-(j+1)<nN-j;omega) (λ_=>by kernel_rfl)
 have hjn:j=nN:=by omega
 have hT:=hT0.go hB;have hP:=hP0.go hB;refine Hf 2 ((j:Int)<(nN:Int))<|Hc 14 (R:=λu w'=>u= .agg (B8 ds)/\Bl (v) w') (((Mx hT hM).mono (λe w'⟨u,e1,e2,e3⟩=>⟨u,e1,by rw[e2,hds],e3⟩))) ?_;rintro _ u21⟨rfl,hb22⟩;replace hP:=hP.go hb22;refine Hc 1 (R:=λu w'=>u= .agg (B8 ds)/\Bl (u21) w') (((Kj hR hP hbn).mono (λe w'⟨u,e1,e2,e3⟩=>⟨u,e1,by rw[e2,hds],e3⟩))) ?_;rintro _ u23⟨rfl,hb24⟩;refine Hx 0 (og f14 14 6) (.bool true) (λ_=>QJ rfl (by kernel_rfl) (by kernel_rfl) hdl) ?_;replace hB:=(hB.go hb22).go hb24;exact Hr 5 (.bool true) ⟨_,rfl,rfl,hB⟩
end Go.Proofs.YtalhnnjpjaeakaaGreat
namespace Go.Proofs.YtalhnnjpjaeakaaGreat
namespace Tr
def sz:Tr->Nat
 |no=>0
 |leaf _ _=>1
 |ext _ c=>sz c+1
 |br k _=>((List.range 16).map λi=>sz (k i)).sum+1
theorem Xt(k:Nat->Tr)(i:Nat)(t:Tr)(m:Nat)(h:sz t<=sz (k i)+m):∀n,((List.range n).map λj=>sz (upd k i t j)).sum<=((List.range n).map λj=>sz (k j)).sum+(if i<n then m else 0)
 |0=>by simp
 |n+1=>by
  have ih:=Xt k i t m h n;rw[CF,BA,BA,List.sum_append,List.sum_append];simp only[B9,C6,List.sum_cons,List.sum_nil,C5];by_cases e:n=i
  ·subst e;rw[Co,Af (by omega)];rw[Ad (by omega)]at ih;omega
  ·rw[Ca k t e];by_cases h2:i<n
   ·rw[Af (by omega)];rw[Af h2]at ih;omega
   ·rw[Ad (by omega)];rw[Ad h2]at ih;omega
theorem Lk(k:Nat->Tr)(i:Nat)(t:Tr)(m:Nat)(x y:List Int)(h:sz t<=sz (k i)+m):sz (br (upd k i t) x)<=sz (br k y)+m:=by
 have:=Xt k i t m h 16;simp only[sz];split at this<;>omega
theorem MD(p:List Int)(t:Tr):sz (und p t)<=sz t+1:=by
 cases t with
 |no=>simp[und,sz]
 |leaf q v=>simp[und,sz]
 |ext q c=>simp[und,sz]
 |br k v=>
  simp only[und];split
  ·omega
  ·simp only[sz];omega
theorem RF(k:Nat->Tr)(x q v:List Int):sz (add k x q v)<=sz (br k x)+1:=by
 cases q with
 |nil=>simp only[add,sz];omega
 |cons i r=>exact Lk k i.toNat (leaf r v) 1 x x (by simp only[sz];omega)
theorem Zd(t:Tr)(q v:List Int):sz (addT t q v)<=sz t+1:=by
 cases t with
 |br k x=>exact RF k x q v
 |no=>simp[addT]
 |leaf p x=>simp[addT]
 |ext p c=>simp[addT]
theorem Zv(x:List Int):sz (br nk x)=1:=by
 simp only[sz];have:((List.range 16).map λi=>sz (nk i))=(List.range 16).map λ_=>0:=by simp[nk,sz]
 rw[this];rfl
theorem Xap:∀(t:Tr)(q v:List Int),sz (put t q v)<=sz t+3:=by
 intro t
 induction t with
 |no=>intro q v;simp[put,sz]
 |leaf p x=>
  intro q v;simp only[put];split
  ·simp[sz]
  ·have h1:=MD (q.take (Ni.com p q)) (addT (add nk [] (p.drop (Ni.com p q)) x) (q.drop (Ni.com p q)) v);have h2:=Zd (add nk [] (p.drop (Ni.com p q)) x) (q.drop (Ni.com p q)) v;have h3:=RF nk [] (p.drop (Ni.com p q)) x;have h4:=Zv [];have h5:sz (leaf p x)=1:=rfl;omega
 |ext p c ih=>
  intro q v;simp only[put];split
  ·have:=ih (q.drop p.length) v;simp only[sz];omega
  ·have h1:=MD (q.take (Ni.com p q)) (add (upd nk (p.getD (Ni.com p q) 0).toNat (und (p.drop (Ni.com p q+1)) c)) [] (q.drop (Ni.com p q)) v);have h2:=RF (upd nk (p.getD (Ni.com p q) 0).toNat (und (p.drop (Ni.com p q+1)) c)) [] (q.drop (Ni.com p q)) v;have h3:=Lk nk (p.getD (Ni.com p q) 0).toNat (und (p.drop (Ni.com p q+1)) c) (sz c+1) [] [] (by have:=MD (p.drop (Ni.com p q+1)) c;omega);have h4:=Zv [];have h5:sz (ext p c)=sz c+1:=rfl;omega
 |br k x ih=>
  intro q v;cases q with
  |nil=>simp[put,sz]
  |cons i r=>exact Lk k i.toNat (put (k i.toNat) r v) 3 x x (ih i.toNat r v)
theorem Xu(f g:Nat->Nat)(h:∀i,f i<=g i):∀l:List Nat,(l.map f).sum<=(l.map g).sum
 |[]=>Aa _
 |a::l=>by simp only[B9,List.sum_cons];have:=h a;have:=Xu f g h l;omega
theorem Te(b:List Int):(nm1 b).length<=1:=by unfold nm1;split<;>simp
theorem Ze:∀t:Tr,(nmd t).length+(if t.isNo then 0 else 1)<=sz t:=by
 intro t
 induction t with
 |no=>simp[nmd,isNo,sz]
 |leaf p x=>simp[nmd,isNo,sz]
 |ext p c ih=>
  simp only[nmd,isNo,sz,Ab,BT,DQ];have h1:=Te (encT c);by_cases hc:c.isNo=true
  ·rw[Af hc]at ih;cases c with
   |no=>simp[encT,nm1,nmd,sz]
   |leaf p x=>simp[isNo]at hc
   |ext p x=>simp[isNo]at hc
   |br p x=>simp[isNo]at hc
  ·rw[Ad hc]at ih;omega
 |br k x ih=>
  rw[show(br k x).isNo=false from rfl];simp only[nmd,sz,BT,DQ,List.length_flatMap]
  have:=Xu (λi=>(if(k i).isNo then[]else nmd (k i)++nm1 (encT (k i))).length) (λi=>sz (k i)) (λi=>by
   have h1:=Te (encT (k i));have h2:=ih i;by_cases hc:(k i).isNo=true
   ·simp[hc]
   ·rw[Ad hc]at h2;simp only[hc,BT,DQ,Ab];omega) (List.range 16)
  omega
theorem Xv(t:Tr):(nmd t).length<=sz t:=by have:=Ze t;omega
end Tr
open Tr
theorem Zf(t:Tr)(k x:List Int):Tr.sz (putT t k x)<=Tr.sz t+3:=by
 unfold putT;split
 ·exact Xap _ _ _
 ·omega
end Go.Proofs.YtalhnnjpjaeakaaGreat
namespace Go.Proofs.YtalhnnjpjaeakaaGreat
open Tr
variable {g : Nat}
theorem Tri.touch{K K':Nat->Prop}{w w':World}{g':Nat}{t t':Tr}(h:Tri K w g t)(ht:Touch g' w w')(hT:Tri K' w g' t')(hne:g≠g'):Tri K w' g t:=by
 obtain⟨⟨v,h1,h2⟩,h3⟩:=h;refine⟨⟨v,h1.touch ht hne,?_⟩,h3⟩;have hs:∀{a:Option Addr}{n c:Nat}{bs:List Int},Sk K w a n c bs->Sk K w' a n c bs:=λh=>h.touch ht hT;clear h1 h3
 revert v
 induction t with
 |no=>intro v h2;exact h2
 |leaf p x=>rintro v⟨a,n,c,a',n',c',h1,h2,h3,h4⟩;exact⟨a,n,c,a',n',c',h1,hs h2,hs h3,h4⟩
 |ext p t ih=>rintro v⟨a,n,c,u,h1,h2,h3⟩;exact⟨a,n,c,u,h1,hs h2,ih u h3⟩
 |br k x ih=>rintro v⟨vs,a,n,c,h1,h2,h3,h4⟩;exact⟨vs,a,n,c,h1,λi hi=>ih i _ (h2 i hi),hs h3,h4⟩
namespace Tr
theorem Qn(k:Nat->Tr):∀n,0<n->lastN k n<n
 |0,h=>by omega
 |n+1,_=>by
  simp only[lastN];split
  ·rcases EG n with e|e
   ·subst e;simp[lastN]
   ·have:=Qn k n e;omega
  ·omega
theorem Xw(k:Nat->Tr):∀n i,i<n->sz (k i)<=((List.range n).map λj=>sz (k j)).sum
 |0,i,h=>by omega
 |n+1,i,h=>by
  rw[CF,BA,List.sum_append];simp only[B9,C6,List.sum_cons,List.sum_nil,C5];by_cases e:i=n
  ·subst e;omega
  ·have:=Xw k n i (by omega);omega
theorem Xx(k:Nat->Tr)(x y:List Int):sz (nrm k x)<=sz (br k y):=by
 unfold nrm;split
 ·simp only[sz];omega
 ·split
  ·have h1:=MD [(lastN k 16:Int)] (k (lastN k 16));have h2:=Xw k 16 _ (Qn k 16 (by omega));simp only[sz]at h1 h2⊢;omega
  ·simp only[sz];omega
theorem Xaq:∀(t:Tr)(q:List Int),sz (del t q)<=sz t:=by
 intro t
 induction t with
 |no=>intro q;simp[del,sz]
 |leaf p x=>intro q;simp[del,sz]
 |ext p c ih=>
  intro q;have h1:=MD p (del c (q.drop p.length));have h2:=ih (q.drop p.length);simp only[del,sz]at h1⊢;omega
 |br k x ih=>
  intro q;cases q with
  |nil=>exact Xx k [] x
  |cons i r=>
   simp only[del];exact Al (Xx _ x x) (Lk k i.toNat _ 0 x x (ih i.toNat r))
end Tr
theorem Zg(t:Tr)(k:List Int):Tr.sz (delT t k)<=Tr.sz t:=by
 unfold delT;split
 ·exact Xaq _ _
 ·omega
theorem Qo(k:List Int):∀l:PList,(delR k l).length<=l.length
 |[]=>by simp[delR]
 |e::r=>by
  have:=Qo k r;simp only[delR];split
  ·simp;omega
  ·split<;>simp
theorem Xy(l:PList)(k:List Int):(delL l k).length<=l.length:=by
 unfold delL;split
 ·exact Qo k l
 ·omega
theorem Xz(t:Tr)(y:Opx):Tr.sz (chT t y)<=Tr.sz t+3:=by
 unfold chT;split
 ·exact Zf t y.k y.x
 ·have:=Zg t y.k;omega
theorem Tf(l:PList)(y:Opx):(chL l y).length<=l.length+1:=by
 unfold chL;split
 ·exact Wz l y.k y.x
 ·have:=Xy l y.k;omega
theorem Xar{w1 w2:World}(hn:New w1 w2 g #[.int .u8 7, .int .u8 7] 5):Sk (λ_=>True) w2 (some ⟨g,0,none⟩) 2 2 [7,7]:=by
 refine⟨⟨.inr ⟨g,0,rfl,rfl,by omega,by omega,by unfold maxLen;omega,λj hj=>?_⟩,(λe=>by cases e),rfl,λy hy=>by simp at hy;omega⟩,λ_ _ _=>trivial⟩;have hj2:j<2:=hj;rw[Ae _ _ _ _ _ _ hn.row]
 match j,hj2 with
 |0,_|1,_=>rfl
 |j+2,h=>omega
theorem UV(a:Option Addr)(n c:Nat)(xs:List Opx)(w:World)(hO:OAt w a n xs)(hn:n<=2520000000000)(hsm:∀y∈xs,y.kn<=140737488355328/\y.vn<=140737488355328):
 Calls prog 3 #[.slice a n c] w λe w'=>e= .returned (.bool true)/\Below w.heap.size w w':=by
 have hB:=Bl.refl w;refine Dp func3 63<|Hc 7 (R:=λu w'=>(∃g,u= .tuple #[.pointer (some ⟨g,0,none⟩), .bool true]/\(w).heap.size<=g/\Tri An w' g no)/\Bl (w) w') (Ua (K:=An) (λ_ _=>trivial)) ?_;rintro _ u1⟨⟨g,rfl,hgw,hT⟩,hb2⟩;replace hB:=hB.go hb2;refine Ho (X:=Nat×Tr×PList×Nat×Option Addr×Nat×Nat) 35 (λz=>[(21, .int .i64 ((z.1:Nat):Int)),(19, .slice a n c),(20, .int .i64 n),(2, .bool false),(3, .pointer (some ⟨z.2.2.2.1,0,none⟩)),(4, .bool true),(5, .slice z.2.2.2.2.1 z.2.2.2.2.2.1 z.2.2.2.2.2.2)]) (λz v=>Bl w v/\Tri An v z.2.2.2.1 z.2.1/\(∃vs,PAt An v z.2.2.2.2.1 z.2.2.2.2.2.1 z.2.2.2.2.2.2 vs z.2.2.1)/\Rel z.2.1 z.2.2.1/\z.1<=n/\Tr.sz z.2.1<=3*z.1/\z.2.2.1.length<=z.1/\w.heap.size<=z.2.2.2.1) (λz=>n-z.1) (0,no,[],g,none,0,0) ⟨hB,hT,⟨_,PAt.empty _ _⟩,Rel.nil,Ay _,by simp[Tr.sz],Aa _,hgw⟩ ?_;clear hB hT hgw;rintro⟨j,t,l,g,aL,nL,cL⟩ v⟨hB,hT,⟨vsL,hP⟩,hRel,hj,hz,hll,hgw⟩ I1 hN1;simp only at hB hT hP hRel hj hz hll hgw;by_cases hlt:j<n
 ·skip
  have hjx:j<xs.length:=by rw[hO.len];exact hlt
  obtain⟨y,hy⟩:∃y,xs[j]?=some y:=⟨_,Ac hjx⟩;have hym:y∈xs:=AK hy;obtain⟨gS,oS,ea,hrow⟩:=hO.row j y hy;subst ea;have hk1:=(hO.k y hym).an;have hk2:=(hO.x y hym).an;have hkA:=hk1.go hB;have hxA:=hk2.go hB;by_cases hz0:y.z=0
  ·skip
   refine Ht 2 ((j:Int)<(n:Int))<|Hx 10 (og f3 7 0) (.pointer (some ⟨gS,oS+j*3,none⟩)) (λ_=>AV 22 _ _ gS oS j n c 3 29 rfl (by kernel_rfl) (by kernel_rfl) hlt underlying22 (by kernel_rfl))<|Hx 0 (og f3 7 1) (.agg #[.int .i64 y.z, .slice y.ka y.kn y.kc, .slice y.va y.vn y.vc]) (λ_=>Lm 29 _ gS (oS+j*3) y.cells.toList _ rfl (by kernel_rfl) (OD hrow hB) underlying29 rfl (by kernel_rfl))<|Hn 0 #[.int .i64 0, .slice none 0 0, .slice none 0 0] 29 ?_;intro wA gA hnA _;refine Hy 0 (og f3 7 3) gA #[.int .i64 y.z, .slice y.ka y.kn y.kc, .slice y.va y.vn y.vc] (λ_=>CH 29 _ _ _ _ _ _ rfl (by kernel_rfl) (by kernel_rfl) hnA.row (by kernel_rfl) rfl (by kernel_rfl)) ?_;intro wC hpC;have hnC:=hnA.put hpC;have hgA:=hnC.hg;have htl:=hT.lt;have hrA:Rw gA wC #[.int .i64 y.z, .slice y.ka y.kn y.kc, .slice y.va y.vn y.vc] 29:=hnC.row;refine Hl 6 hrA 0 3 (.int .i64 y.z)<|Hb 6 ((y.z:Int)==(0:Int)) true (C9.2 hz0)<|Hx 10 (og f3 12 2) (.agg (#[.int .i64 y.z, .slice y.ka y.kn y.kc, .slice y.va y.vn y.vc])) (λ_=>Ep 29 _ _ _ _ _ _ rfl (by kernel_rfl) hrA underlying29 rfl (by kernel_rfl)) ?_;replace hB:=hB.go hnC.below;replace hT:=hT.go hnC.below;replace hP:=hP.go hnC.below;refine Hc 0 (R:=λu w'=>(∃a n c vs,u= .tuple #[.slice a n c, .bool true]/\PAt An w' a n c vs (chL l y))/\Tri An w' g (chT t y)/\Touch g (wC) w') (((KM hT hP (hk1.go hB).ag (hk2.go hB).ag (by have:=hP.ll;omega) (hsm y hym).1 (hsm y hym).2 hRel.klen3).mono (λe w'⟨u,e1,⟨a,n,c,vs,b,e2,e3,e4⟩,e5,e6⟩=>⟨u,e1,⟨a,n,c,vs,by rw[e2,e4 hRel],e3.mono (λ_ _=>trivial)⟩,e5.mono (λ_ _=>trivial),e6⟩))) ?_;rintro _ u3⟨⟨aL2,nL2,cL2,vsL2,rfl,hP2⟩,hT2,hto⟩;replace hB:Bl w u3:=hto.below hB hgw hB.size;refine Hi 19 ((j:Int)+1) ((j:Int)+1) ?_;have hz2:=Xz t y;have hl2:=Tf l y;exact hN1 2 (j+1,chT t y,chL l y,g,aL2,nL2,cL2) ⟨hB,hT2,⟨_,hP2⟩,hRel.ch hk1.ag.b,by omega,by show Tr.sz (chT t y)<=3*(j+1);omega,by show(chL l y).length<=j+1;omega,hgw⟩ (by show n-(j+1)<n-j;omega) (λ_=>by kernel_rfl)
  by_cases hz1:y.z=1
  ·skip
   refine Ht 2 ((j:Int)<(n:Int))<|Hx 10 (og f3 7 0) (.pointer (some ⟨gS,oS+j*3,none⟩)) (λ_=>AV 22 _ _ gS oS j n c 3 29 rfl (by kernel_rfl) (by kernel_rfl) hlt underlying22 (by kernel_rfl))<|Hx 0 (og f3 7 1) (.agg #[.int .i64 y.z, .slice y.ka y.kn y.kc, .slice y.va y.vn y.vc]) (λ_=>Lm 29 _ gS (oS+j*3) y.cells.toList _ rfl (by kernel_rfl) (OD hrow hB) underlying29 rfl (by kernel_rfl))<|Hn 0 #[.int .i64 0, .slice none 0 0, .slice none 0 0] 29 ?_;intro wA gA hnA _;refine Hy 0 (og f3 7 3) gA #[.int .i64 y.z, .slice y.ka y.kn y.kc, .slice y.va y.vn y.vc] (λ_=>CH 29 _ _ _ _ _ _ rfl (by kernel_rfl) (by kernel_rfl) hnA.row (by kernel_rfl) rfl (by kernel_rfl)) ?_;intro wC hpC;have hnC:=hnA.put hpC;have hgA:=hnC.hg;have htl:=hT.lt;have hrA:Rw gA wC #[.int .i64 y.z, .slice y.ka y.kn y.kc, .slice y.va y.vn y.vc] 29:=hnC.row;refine Hl 6 hrA 0 3 (.int .i64 y.z)<|Hz 6 (y.z:Int) (0:Int)<|Hb 5 ((y.z:Int)==(1:Int)) true (C9.2 hz1)<|Hx 7 (og f3 12 2) (.agg (#[.int .i64 y.z, .slice y.ka y.kn y.kc, .slice y.va y.vn y.vc])) (λ_=>Ep 29 _ _ _ _ _ _ rfl (by kernel_rfl) hrA underlying29 rfl (by kernel_rfl)) ?_;replace hB:=hB.go hnC.below;replace hT:=hT.go hnC.below;replace hP:=hP.go hnC.below;refine Hc 0 (R:=λu w'=>(∃a n c vs,u= .tuple #[.slice a n c, .bool true]/\PAt An w' a n c vs (chL l y))/\Tri An w' g (chT t y)/\Touch g (wC) w') (((KM hT hP (hk1.go hB).ag (hk2.go hB).ag (by have:=hP.ll;omega) (hsm y hym).1 (hsm y hym).2 hRel.klen3).mono (λe w'⟨u,e1,⟨a,n,c,vs,b,e2,e3,e4⟩,e5,e6⟩=>⟨u,e1,⟨a,n,c,vs,by rw[e2,e4 hRel],e3.mono (λ_ _=>trivial)⟩,e5.mono (λ_ _=>trivial),e6⟩))) ?_;rintro _ u4⟨⟨aL2,nL2,cL2,vsL2,rfl,hP2⟩,hT2,hto⟩;replace hB:Bl w u4:=hto.below hB hgw hB.size;refine Hi 19 ((j:Int)+1) ((j:Int)+1) ?_;have hz2:=Xz t y;have hl2:=Tf l y;exact hN1 2 (j+1,chT t y,chL l y,g,aL2,nL2,cL2) ⟨hB,hT2,⟨_,hP2⟩,hRel.ch hk1.ag.b,by omega,by show Tr.sz (chT t y)<=3*(j+1);omega,by show(chL l y).length<=j+1;omega,hgw⟩ (by show n-(j+1)<n-j;omega) (λ_=>by kernel_rfl)
  by_cases hz6:y.z=6
  ·skip
   refine Ht 2 ((j:Int)<(n:Int))<|Hx 10 (og f3 7 0) (.pointer (some ⟨gS,oS+j*3,none⟩)) (λ_=>AV 22 _ _ gS oS j n c 3 29 rfl (by kernel_rfl) (by kernel_rfl) hlt underlying22 (by kernel_rfl))<|Hx 0 (og f3 7 1) (.agg #[.int .i64 y.z, .slice y.ka y.kn y.kc, .slice y.va y.vn y.vc]) (λ_=>Lm 29 _ gS (oS+j*3) y.cells.toList _ rfl (by kernel_rfl) (OD hrow hB) underlying29 rfl (by kernel_rfl))<|Hn 0 #[.int .i64 0, .slice none 0 0, .slice none 0 0] 29 ?_;intro wA gA hnA _;refine Hy 0 (og f3 7 3) gA #[.int .i64 y.z, .slice y.ka y.kn y.kc, .slice y.va y.vn y.vc] (λ_=>CH 29 _ _ _ _ _ _ rfl (by kernel_rfl) (by kernel_rfl) hnA.row (by kernel_rfl) rfl (by kernel_rfl)) ?_;intro wC hpC;have hnC:=hnA.put hpC;have hgA:=hnC.hg;have htl:=hT.lt;have hrA:Rw gA wC #[.int .i64 y.z, .slice y.ka y.kn y.kc, .slice y.va y.vn y.vc] 29:=hnC.row;refine Hl 6 hrA 0 3 (.int .i64 y.z)<|Hz 6 (y.z:Int) (0:Int)<|Hz 5 (y.z:Int) (1:Int)<|Hb 6 ((y.z:Int)==(6:Int)) true (C9.2 hz6) ?_;replace hT:=hT.go hnC.below;refine Hc 7 (R:=λu w'=>(∃g',u= .pointer (some ⟨g',0,none⟩)/\(wC).heap.size<=g'/\Tri An w' g' t)/\Bl (wC) w') ((Ra hT)) ?_;rintro _ u5⟨⟨gU,rfl,hgU,hU⟩,hb6⟩;have hgU2:gU≠g:=(by have:=hT.lt;omega);replace hB:=hB.go hnC.below;have hgUw:w.heap.size<=gU:=Al hB.size hgU;replace hrA:=hrA.go hb6;refine Hl 17 hrA 1 27 (.slice y.ka y.kn y.kc)<|Ko 0 #[.int .u8 7, .int .u8 7] 5 2 ?_;intro wG gG hnG _;replace hT:=hT.go hb6;have hgT:=hT.lt;have hs7:=Xar hnG;replace hkA:=((hkA.go hnC.below).go hb6).go hnG.below;replace hT:=hT.go hnG.below;refine Hc 0 (R:=λu w'=>u= .int .i64 (putE y.k [7,7])/\Tri An w' g (putT t y.k [7,7])/\Touch g (wG) w') ((LR hT hkA hs7 (λ_ _=>trivial))) ?_;rintro _ u7⟨rfl,hTn,hto⟩;replace hP:=((hP.go hnC.below).go hb6).go hnG.below;replace hP:=hP.touch hto hT;replace hkA:=hkA.touch hto hT;replace hxA:=((hxA.go hnC.below).go hb6).go hnG.below;replace hxA:=hxA.touch hto hT;replace hU:=hU.go hnG.below;replace hU:=hU.touch hto hT hgU2;replace hs7:=hs7.touch hto hT;replace hB:=(hB.go hb6).go hnG.below;replace hB:Bl w u7:=hto.below hB hgw hB.size;replace hT:=hTn;replace hrA:=(hrA.go hnG.below).touch hto (by omega);refine Hl 6 hrA 2 27 (.slice y.va y.vn y.vc)<|Hc 0 (R:=λu w'=>(∃b z,u= .tuple #[.bool b, .int .i64 z])/\Tri An w' g (delT (putT t y.k [7,7]) y.x)/\Touch g (u7) w') ((Wm hT hxA (λ_ _=>trivial))) ?_;rintro _ u8⟨⟨bD,zD,rfl⟩,hTn,hto⟩;replace hP:=hP.touch hto hT;replace hkA:=hkA.touch hto hT;replace hxA:=hxA.touch hto hT;replace hU:=hU.touch hto hT hgU2;replace hs7:=hs7.touch hto hT;replace hB:Bl w u8:=hto.below hB hgw hB.size;replace hT:=hTn;refine Hi 19 ((j:Int)+1) ((j:Int)+1) ?_;exact hN1 2 (j+1,t,l,gU,aL,nL,cL) ⟨hB,hU,⟨_,hP⟩,hRel,by omega,by show Tr.sz t<=3*(j+1);omega,by show l.length<=j+1;omega,hgUw⟩ (by show n-(j+1)<n-j;omega) (λ_=>by kernel_rfl)
  refine Ht 2 ((j:Int)<(n:Int))<|Hx 10 (og f3 7 0) (.pointer (some ⟨gS,oS+j*3,none⟩)) (λ_=>AV 22 _ _ gS oS j n c 3 29 rfl (by kernel_rfl) (by kernel_rfl) hlt underlying22 (by kernel_rfl))<|Hx 0 (og f3 7 1) (.agg #[.int .i64 y.z, .slice y.ka y.kn y.kc, .slice y.va y.vn y.vc]) (λ_=>Lm 29 _ gS (oS+j*3) y.cells.toList _ rfl (by kernel_rfl) (OD hrow hB) underlying29 rfl (by kernel_rfl))<|Hn 0 #[.int .i64 0, .slice none 0 0, .slice none 0 0] 29 ?_;intro wA gA hnA _;refine Hy 0 (og f3 7 3) gA #[.int .i64 y.z, .slice y.ka y.kn y.kc, .slice y.va y.vn y.vc] (λ_=>CH 29 _ _ _ _ _ _ rfl (by kernel_rfl) (by kernel_rfl) hnA.row (by kernel_rfl) rfl (by kernel_rfl)) ?_;intro wC hpC;have hnC:=hnA.put hpC;have hgA:=hnC.hg;have htl:=hT.lt;have hrA:Rw gA wC #[.int .i64 y.z, .slice y.ka y.kn y.kc, .slice y.va y.vn y.vc] 29:=hnC.row;refine Hl 6 hrA 0 3 (.int .i64 y.z)<|Hz 6 (y.z:Int) (0:Int)<|Hz 5 (y.z:Int) (1:Int)<|Hz 6 (y.z:Int) (6:Int)<|Hx 7 (og f3 9 2) (.agg (#[.int .i64 y.z, .slice y.ka y.kn y.kc, .slice y.va y.vn y.vc])) (λ_=>Ep 29 _ _ _ _ _ _ rfl (by kernel_rfl) hrA underlying29 rfl (by kernel_rfl)) ?_;replace hB:=hB.go hnC.below;replace hT:=hT.go hnC.below;replace hP:=hP.go hnC.below;refine Hc 0 (R:=λu w'=>u= .bool true/\Bl (wC) w') ((Xs hT hP hRel (hk1.go hB).ag (by have:=hP.ll;omega) (by have:=Xv t;omega))) ?_;rintro _ u9⟨rfl,hb10⟩;refine Hi 15 ((j:Int)+1) ((j:Int)+1) ?_;replace hB:=hB.go hb10;replace hT:=hT.go hb10;replace hP:=hP.go hb10;exact hN1 2 (j+1,t,l,g,aL,nL,cL) ⟨hB,hT,⟨_,hP⟩,hRel,by omega,by show Tr.sz t<=3*(j+1);omega,by show l.length<=j+1;omega,hgw⟩ (by show n-(j+1)<n-j;omega) (λ_=>by kernel_rfl)
 obtain rfl:j=n:=by omega
 refine Hf 2 ((j:Int)<(j:Int))<|Hc 13 (R:=λu w'=>u= .bool true/\Bl (v) w') ((RD hT hP hRel (by have:=hP.ll;omega) (by have:=Xv t;omega))) ?_;rintro _ u11⟨rfl,hb12⟩;replace hB:=hB.go hb12;exact Hr 4 (.bool true) ⟨rfl,hB⟩
end Go.Proofs.YtalhnnjpjaeakaaGreat
namespace Go.Proofs.YtalhnnjpjaeakaaGreat
open Go.ChangeShapes Go.WideShapes Go.ChangeAt Go.RowKit
open Go.ChangeMaps (open_string shut_string)
theorem own:ownKnob prog.godebug=none:=by kernel_rfl
theorem Zh:laidOutB prog=true:=by kernel_rfl
theorem Xas:prog.cellsOf 5=1:=by kernel_rfl
theorem Xat:prog.bytesOf 5=1:=by kernel_rfl
end Go.Proofs.YtalhnnjpjaeakaaGreat
namespace Go.Proofs.YtalhnnjpjaeakaaGreat
open Go.ChangeShapes Go.WideShapes Go.ChangeAt Go.RowKit
variable {H : Type} {d : DataW H}
theorem Tg:prog.cellsOf 29=3:=by kernel_rfl
theorem Xau:prog.cellsOf 3=1:=by kernel_rfl
theorem X0:prog.cellsOf 27=1:=by kernel_rfl
theorem Zi:prog.bytesOf 29=56:=by kernel_rfl
section
variable {H : Type} {enc : TypeId × Value → H} {w : World} {held : Bool}
theorem Qp{fuel:Nat}{cs:List Value}{x:DataW H×List MemPlace}(hf:DataW.trod enc prog w 0 (λ_=>true) held fuel 27 cs=some x)
 (hsz:∀n∈x.1.weights prog 27,n<=reachBytes):∃a len cap bs,cs=[.slice a len cap]/\Ag w a len cap bs/\len<=140737488351232:=by
 rcases open_ints underlying27 underlying5 Xas hf with⟨hcs,_⟩|⟨p,len,cap,zs,hcs,_,hl,hm,hz,hx,hcell,hwz⟩
 ·exact⟨none,0,0,[],hcs,⟨.inl ⟨rfl,rfl⟩,λ_=>⟨rfl,rfl⟩,rfl,λx hx=>by cases hx⟩,by omega⟩
 ·have hz2:zs.length=cap:=by simpa using hz
  have hsz2:=hsz ((zs.take len).length+(zs.drop len).length) (by
   rw[hx];simp only[DataW.weights,underlying27,lits,AY,Xat,Ce];exact BU ..)
  simp only[Ao,AQ,reachBytes]at hsz2;have hlen:(zs.take len).length=len:=by rw[Ao];omega
  have hbd:∀n∈zs.take len,0<=n/\n<256:=λn hn=>by
   have:=bounds_u8 (hwz n (Bi hn));omega
  refine⟨some p,len,cap,zs.take len,hcs,⟨?_,(λh=>by cases h),hlen,hbd⟩,by omega⟩;by_cases h0:len=0
  ·subst h0;exact .inl ⟨rfl,by simp⟩
  ·obtain⟨b,off,spot⟩:=p;have hc:=hcell 0 (by omega);have hspot:spot=none:=(by simpa[Addr.add]using World.cell?_spot hc);subst hspot;refine .inr ⟨b,off,rfl,hlen,by omega,hl,hm,λj hj=>?_⟩;rw[hlen]at hj;have:=hcell j (by omega);rw[BM]at this;rw[this,List.getD,List.getD,AP hj]
theorem KN{e:TypeId}:∀{ds:List (DataW H)}{d:DataW H},d∈ds->∀n∈d.weights prog e,n∈DataW.weightsAll prog e ds
 |[],d,h,_,_=>by cases h
 |d0::r,d,h,n,hn=>by
  rw[DataW.weightsAll,AM];rcases Az.1 h with rfl|h
  ·exact .inl hn
  ·exact .inr (KN h n hn)
theorem X1{cs:List Value}(h:cs.length=3):cs=(cs.drop 0).take 1++((cs.drop 1).take 1++(cs.drop 2).take 1):=by
 match cs,h with
 |[a,b,c],_=>rfl
theorem X2{fuel:Nat}{cs:List Value}{x:DataW H×List MemPlace}(hf:DataW.trod enc prog w 0 (λ_=>true) held fuel 29 cs=some x)
 (hsz:∀n∈x.1.weights prog 29,n<=reachBytes):∃y:Opx,cs=y.cells.toList/\Ag w y.ka y.kn y.kc y.k/\Ag w y.va y.vn y.vc y.x/\y.kn<=140737488355328/\y.vn<=140737488355328:=by
 obtain⟨xs,n,hfu,hx,hcl,hxl,hel⟩:=DataW.trod_struct underlying29 hf;rw[Tg]at hcl;have e0:=hel 0 _ rfl;have e1:=hel 1 _ rfl;have e2:=hel 2 _ rfl;have hxl3:xs.length=3:=hxl;obtain⟨x0,x1,x2,rfl⟩:∃x0 x1 x2,xs=[x0,x1,x2]:=by
  match xs,hxl3 with
  |[a,b,c],_=>exact⟨a,b,c,rfl⟩
 subst hx;have f0:DataW.trod enc prog w 0 (λ_=>true) held n 3 ((cs.drop 0).take (prog.cellsOf 3))=some x0:=e0;have f1:DataW.trod enc prog w 0 (λ_=>true) held n 27 ((cs.drop 1).take (prog.cellsOf 27))=some x1:=e1;have f2:DataW.trod enc prog w 0 (λ_=>true) held n 27 ((cs.drop 2).take (prog.cellsOf 27))=some x2:=e2;rw[Xau]at f0;rw[X0]at f1;rw[X0]at f2;obtain⟨k,hk,_,_⟩:=DataW.trod_int underlying3 f0
 obtain⟨a1,m1,c1,b1,hb1,hag1,hl1⟩:=Qp f1 (λk hk=>hsz k (by
  show k∈(DataW.agg [x0.1,x1.1,x2.1]).weights prog 29;simp only[DataW.weights,underlying29];simp only[List.map,DataW.weightsEach,AM];exact .inr (.inl hk)))
 obtain⟨a2,m2,c2,b2,hb2,hag2,hl2⟩:=Qp f2 (λk hk=>hsz k (by
  show k∈(DataW.agg [x0.1,x1.1,x2.1]).weights prog 29;simp only[DataW.weights,underlying29];simp only[List.map,DataW.weightsEach,AM];exact .inr (.inr (.inl hk))))
 refine⟨⟨k,a1,m1,c1,a2,m2,c2,b1,b2⟩,?_,hag1,hag2,by show m1<=_;omega,by show m2<=_;omega⟩;rw[X1 (cs:=cs) hcl,hk,hb1,hb2];rfl
theorem UW{fuel:Nat}{cs:List Value}{x:DataW H×List MemPlace}(hf:DataW.trod enc prog w 0 (λ_=>true) held fuel 22 cs=some x)
 (hsz:∀n∈x.1.weights prog 22,n<=reachBytes):∃a m c xs,cs=[.slice a m c]/\OAt w a m xs/\m<=2520000000000/\∀y∈xs,y.kn<=140737488355328/\y.vn<=140737488355328:=by
 rcases DataW.trod_slice underlying22 hf with⟨hcs,_⟩|⟨p,len,cap,elems,rest,n,hfu,hcs,hx,_,hl,hm,hlen,hel,_,_⟩
 ·exact⟨none,0,0,[],hcs,⟨rfl,λj r hr=>by simp at hr,(λx hx=>by cases hx),λx hx=>by cases hx⟩,by omega,λx hx=>by cases hx⟩
 ·subst hx;have hw:(DataW.slice (elems.map (·.1)) (rest.map (·.1))).weights prog 22=((elems.map (·.1)).length+(rest.map (·.1)).length)*prog.bytesOf 29::(DataW.weightsAll prog 29 (elems.map (·.1))++DataW.weightsAll prog 29 (rest.map (·.1))):=by
   simp only[DataW.weights,underlying22]
  have hszw:∀n∈(DataW.slice (elems.map (·.1)) (rest.map (·.1))).weights prog 22,n<=reachBytes:=hsz;rw[hw]at hszw;clear hsz;have hsz1:=hszw _ (BU ..);rw[Zi,AY,AY,hlen]at hsz1;unfold reachBytes at hsz1;have hthing:∀i,i<len->∃y:Opx,(∀k,k<3->w.cell? ((p.add (i*3)).add k)=y.cells.toList[k]?)/\Ag w y.ka y.kn y.kc y.k/\Ag w y.va y.vn y.vc y.x/\y.kn<=140737488355328/\y.vn<=140737488355328:=by
   intro i hi;have he:=hel i hi;rw[Tg,Ac (by omega),Option.bind_eq_some_iff]at he;obtain⟨cs',hc1,hc2⟩:=he;obtain⟨_,hc3,hc4⟩:=World.cells?_some hc1;obtain⟨y,hcs',hr⟩:=X2 hc2 (λk hk=>hszw k (A9 _ (Df _ (KN (List.mem_map_of_mem (Bo _)) k hk))));refine⟨y,?_,hr⟩;rw[hcs']at hc4;exact hc4
  have hspot:0<len->p.spot=none:=by
   intro h;obtain⟨y,hc,hr⟩:=hthing 0 h;have c0:=hc 0 (by omega);rw[show y.cells.toList[0]?=some (.int .i64 y.z)from rfl]at c0;simpa[Addr.add]using World.cell?_spot c0
  have hall:∀d k,k+d=len->∃ks:List Opx,ks.length=d/\(∀j r,ks[j]?=some r->∃g off,(some p:Option Addr)=some ⟨g,off,none⟩/\w.rangeAt g (off+(k+j)*3) r.cells.toList)/\∀y∈ks,Ag w y.ka y.kn y.kc y.k/\Ag w y.va y.vn y.vc y.x/\y.kn<=140737488355328/\y.vn<=140737488355328:=by
   intro d
   induction d with
   |zero=>intro k _;exact⟨[],rfl,(λj r hr=>by simp at hr),λx hx=>by cases hx⟩
   |succ d ihd=>
    intro k hk;obtain⟨ks,h1,h2,h3⟩:=ihd (k+1) (by omega);obtain⟨y,hc,hr⟩:=hthing k (by omega);refine⟨y::ks,by rw[AS,h1],λj s hs=>?_,λx hx=>?_⟩
    ·cases j with
     |zero=>
      simp at hs;subst hs;obtain⟨g,off,spot⟩:=p;have hsp:spot=none:=hspot (by omega);subst hsp;refine⟨g,off,rfl,λi u hu=>?_⟩;have hi:i<3:=(Aw.1 hu).1;have:=hc i hi;rw[BM,BM,hu]at this;exact this
     |succ j=>
      obtain⟨g,off,e,h3⟩:=h2 j s (by simpa using hs);rw[show k+1+j=k+(j+1)from by omega]at h3;exact⟨g,off,e,h3⟩
    ·rcases Az.1 hx with rfl|hx
     ·exact hr
     ·exact h3 x hx
  obtain⟨ks,h1,h2,h3⟩:=hall len 0 (by omega);refine⟨some p,len,cap,ks,hcs,⟨h1,λj r hr=>?_,λy hy=>(h3 y hy).1,λy hy=>(h3 y hy).2.1⟩,by omega,λy hy=>(h3 y hy).2.2⟩;obtain⟨g,off,e,h3⟩:=h2 j r hr;rw[AD]at h3;exact⟨g,off,e,h3⟩
end
theorem X3{enc:TypeId×Value->H}{w:World}{b0:Nat}{r:Reach}{held:Bool}{v:Value}{p:List MemPlace}
 (hv:Value.okWide prog w r b0 22 v) (h:DataW.Trod enc prog w 0 (λ_=>true) held 22 v d p)
 (hsz:∀n∈d.weights prog 22,n<=reachBytes):∃a m c xs,v= .slice a m c/\OAt w a m xs/\m<=2520000000000/\∀y∈xs,y.kn<=140737488355328/\y.vn<=140737488355328:=by
 obtain⟨a,len,cap,rfl⟩:=okWide_slice underlying22 hv;obtain⟨fuel,hf⟩:=h;obtain⟨a',m,c,xs,hcs,hx⟩:=UW hf hsz;simp[Value.cells]at hcs;obtain⟨rfl,rfl,rfl⟩:=hcs;exact⟨_,_,_,xs,rfl,hx⟩
theorem X4{ts:List TypeId}{ds:List (DataW H)}(h:(DataW.weightsEach prog ts ds).all (·<=reachBytes)=true){j:Nat}{t:TypeId}(ht:ts[j]?=some t)(hd:ds[j]?=some d):∀n∈d.weights prog t,n<=reachBytes:=by
 intro n hn;have:=List.all_eq_true.1 h n (DataW.weights_mem_each ht hd n hn);simpa using this
end Go.Proofs.YtalhnnjpjaeakaaGreat
