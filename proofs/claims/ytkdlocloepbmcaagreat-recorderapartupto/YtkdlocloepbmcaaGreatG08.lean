/- What digest.start answers, what Write of nothing does to a new Hash, and what digest.Of answers of nothing. -/
import Derived.Test.YtkdlocloepbmcaaGreatG07
set_option linter.unusedVariables false
set_option linter.unusedSimpArgs false
set_option maxRecDepth 100000
set_option maxHeartbeats 4000000
open Go.Proofs.Tryz Go.RowKit
namespace Go.Proofs.YtkdlocloepbmcaaGreat
namespace Di
theorem TJ(w:Γ):Calls prog 59 #[] w λe w'=>(∃a b c d,e=ω (γ #[ξ a,ξ b,ξ c,ξ d])/\Hid (S4.mk a b c d=s0))/\Λ w w':=by
 go_enter func59,ntmps59;go_wp2
 go_returns
 refine⟨⟨_,_,_,_,rfl,rfl⟩,?_⟩
 repeat' (first|refine Below.setCell ?_ (by simp<;>omega) _|refine below_drewN ?_ _|refine Below.alloc ?_ (by simp<;>omega) _|exact Ac _ _)
theorem YF(a b c d:Int):HC ⟨a,b,c,d⟩ (List.replicate 32 0) 0=#[ξ a,ξ b,ξ c,ξ d,η 0,η 0,η 0,η 0,η 0,η 0,η 0,η 0,η 0,η 0,η 0,η 0,η 0,η 0,η 0,η 0,η 0,η 0,η 0,η 0,η 0,η 0,η 0,η 0,η 0,η 0,η 0,η 0,η 0,η 0,η 0,η 0,ι 0]:=by kernel_rfl
theorem Xa4(s:S4)(a:τ)(n:Nat):(HC s a n).all (·.oneCell')=true:=by
 simp[HC,B8,Value.oneCell']
structure OfH(N g:Nat)(w0 w:Γ)(s:S4)(tl:τ)(n:Nat):Prop where
 h0:w.heap[N]?=some (.cells (B8 (List.replicate 32 0)) 44)
 hg:w.heap[g]?=some (.cells (HC s tl n) 114)
 bel:Below N w0 w
 lt:N<g
structure Touch(g:Nat)(w w':Γ):Prop where
 os:w'.os=w.os
 tape:w'.tape=w.tape
 output:w'.output=w.output
 size:w.heap.size<=w'.heap.size
 block:∀k,k<w.heap.size->k≠g->w'.heap[k]?=w.heap[k]?
theorem Touch.refl(g:Nat)(w:Γ):Touch g w w:=⟨rfl,rfl,rfl,Ab _,λ_ _ _=>rfl⟩
theorem Touch.trans{g:Nat}{a b c:Γ}(h:Touch g a b)(k:Touch g b c):Touch g a c:=
 ⟨k.os.trans h.os,k.tape.trans h.tape,k.output.trans h.output,Au h.size k.size,λi e d=>(k.block i (BQ e h.size) d).trans (h.block i e d)⟩
theorem Touch.of_below{g:Nat}{a b:Γ}(h:Λ a b):Touch g a b:=⟨h.os,h.tape,h.output,h.size,λi c _=>h.block i c⟩
theorem Touch.setCell(g:Nat)(w:Γ)(o:Nat)(v:Δ):Touch g w (w.setCell ⟨g,o,none⟩ v):=⟨rfl,rfl,rfl,by simp,λk _ a=>AA _ _ _ _ a⟩
theorem Touch.setRow(g:Nat)(w:Γ)(C:Ξ):Touch g w (w.setRow g C):=⟨rfl,rfl,rfl,by simp,λk _ a=>Bc _ _ _ _ a⟩
theorem Touch.drew(g:Nat)(w:Γ):Touch g w w.drew:=⟨rfl,rfl,rfl,Ab _,λ_ _ _=>rfl⟩
theorem KM(s:S4)(a:τ)(n:Nat):(HC s a n).toList=[ξ s.a,ξ s.b,ξ s.c,ξ s.d]++a.map (Value.int .u8)++[ι n]:=by
 simp[HC,B8]
theorem IG(s:S4)(a:τ)(n:Nat){C:Ξ}(h:C.toList=[ξ s.a,ξ s.b,ξ s.c,ξ s.d]++a.map (Value.int .u8)++[ι n]):C=HC s a n:=by
 apply Array.ext';rw[h,KM]
theorem Jr(s:S4)(a:τ)(n m:Nat)(h:a.length=32):(HC s a n).setIfInBounds 36 (ι m)=HC s a m:=by
 apply IG;rw[Ey,KM,DC _ _ (by simp[h])];simp[h]
theorem Od(s:S4)(e:τ)(n:Nat)(a b c d:Int):((((HC s e n).setIfInBounds 0 (ξ a)).setIfInBounds 1 (ξ b)).setIfInBounds 2 (ξ c)).setIfInBounds 3 (ξ d)=HC ⟨a,b,c,d⟩ e n:=by
 apply IG;simp only[Ey,KM];simp
theorem Pe{α:Type}(pre T X:List α)(z:α)(o m:Nat)(a:o+m<=T.length):(pre++T++[z]).take (pre.length+o)++X++(pre++T++[z]).drop (pre.length+o+m)=pre++(T.take o++X++T.drop (o+m))++[z]:=by
 rw[AX pre T [z],List.take_length_add_append,C4,List.drop_length_add_append,Cw (by omega),Cx a];simp[AX]
theorem Ij{w:Γ}{g o dl dc sl sc:Nat}{ad:Addr}{s:S4}{a xs:τ}{n:Nat}(c:w.heap[g]?=some (.cells (HC s a n) 114))(i:a.length=32)(d:xs.length=Nat.min sl dl)(f:o+xs.length<=32)
 (b:∀j v,(xs.map (Value.int .u8))[j]?=some v->w.cell? (ad.add j)=some v) (ty:TypeId):
 (Builtin.copy_ #[32,32] ty #[σ (ζ g (4+o)) dl dc,σ (some ad) sl sc]).run prog w= .ok (ι xs.length) (w.setRow g (HC s (a.take o++xs++a.drop (o+xs.length)) n)):=by
 have h:=run_copy_row prog w 32 32 ty 5 g (4+o) dl dc ad sl sc (HC s a n) 114 (xs.map (Value.int .u8)) υ32 (by kernel_rfl) c (by simpa using d) b (by rw[NZ];simp;omega) (Oa _);rw[h];have e:((HC s a n).toList.take (4+o)++xs.map (Value.int .u8)++(HC s a n).toList.drop (4+o+(xs.map (Value.int .u8)).length)).toArray=HC s (a.take o++xs++a.drop (o+xs.length)) n:=by
  apply IG;rw[KM,List.toList_toArray,AQ];have h:=Pe [ξ s.a,ξ s.b,ξ s.c,ξ s.d] (a.map (Value.int .u8)) (xs.map (Value.int .u8)) (ι n) o xs.length (by simp;omega);rw[Bp,Bp,List.map_take,List.map_drop];exact h
 rw[e];simp[goInt]
theorem Kp{w:Γ}{g:Nat}{s:S4}{a:τ}{n:Nat}(d:w.heap[g]?=some (.cells (HC s a n) 114))(e:a.length=32):(load23V (ψ g 4)).run prog w= .ok (γ (B8 a)) w:=by
 have f:w.rangeAt g 4 (a.map (Value.int .u8)):=by
  intro j v c;have b:j<a.length:=by have:=(Ar.1 c).1;simpa using this
  rw[Aj w g _ _ _ _ d,Si s a n j b,<-c];simp[Ad b]
 have:=run_loadAt_mid (P:=prog) w g 4 43 (a.map (Value.int .u8)) _ f υ43 rfl (by rw[AQ,e];kernel_rfl);exact this
def stP(bs:τ):Nat->S4
 |0=>s0
 |i+1=>mix (stP bs i) (words ((bs.drop (32*i)).take 32))
theorem Fd(xs ys:τ):∀i,32*i<=xs.length->stP (xs++ys) i=stP xs i
 |0,_=>rfl
 |i+1,h=>by
  have a:=Fd xs ys i (by omega);unfold stP;rw[a,Cx (by omega),Cw (by rw[A3];omega)]
structure Inv(all:τ)(s:S4)(tl:τ)(n:Nat):Prop where
 hn:n=all.length
 hs:s=stP all (n/32)
 hl:tl.length=32
 ht:tl.take (n%32)=all.drop (32*(n/32))
 hb:∀x∈tl,0<=x/\x<256
structure Mid(cur:τ)(s:S4)(tl:τ):Prop where
 hm:cur.length%32=0
 hs:s=stP cur (cur.length/32)
 hl:tl.length=32
 hb:∀x∈tl,0<=x/\x<256
theorem TM(cur p:τ)(b:cur.length%32=0)(a:p.length=32):stP (cur++p) ((cur++p).length/32)=mix (stP cur (cur.length/32)) (words p):=by
 have e:(cur++p).length/32=cur.length/32+1:=by rw[Af,a];omega
 rw[e];show mix (stP (cur++p) (cur.length/32)) (words (((cur++p).drop (32*(cur.length/32))).take 32))=_;rw[Fd cur p _ (by omega),show 32*(cur.length/32)=cur.length from by omega,Cn,A9 (by omega)]
theorem Inv.start{all:τ}{s:S4}{a:τ}{n:Nat}(h:Inv all s a n)(b:n%32=0):Mid all s a:=
 ⟨by rw[<-h.hn];exact b,by rw[h.hs,h.hn],h.hl,h.hb⟩
theorem Inv.short{all bs:τ}{s:S4}{b:τ}{n f:Nat}(h:Inv all s b n)(c:n%32=f)(j:f+bs.length<32)(g:∀x∈bs,0<=x/\x<256):
 Inv (all++bs) s (b.take f++bs++b.drop (f+bs.length)) (n+bs.length):=by
 have i:=h.hn;have d:=h.hl;refine⟨by rw[Af,<-i],?_,?_,?_,?_⟩
 ·rw[show(n+bs.length)/32=n/32 from by omega,Fd _ _ _ (by omega),h.hs]
 ·simp only[Af,Ap,A3];omega
 ·rw[show(n+bs.length)%32=f+bs.length from by omega,show(n+bs.length)/32=n/32 from by omega];have e:(b.take f++bs).length=f+bs.length:=by simp[d];omega
  rw[<-e,D6,Cx (by omega),<-h.ht,c]
 ·intro x a;simp only[AP]at a;rcases a with(a|a)|a
  ·exact h.hb x (Bb a)
  ·exact g x a
  ·exact h.hb x (BA a)
theorem Inv.full{all bs:τ}{s:S4}{a:τ}{n f m:Nat}(h:Inv all s a n)(g:n%32=f)(o:f+m=32)(k:m<=bs.length)(i:∀x∈bs,0<=x/\x<256):
 Mid (all++bs.take m) (mix s (words (a.take f++bs.take m++a.drop (f+m)))) (a.take f++bs.take m++a.drop (f+m)):=by
 have j:=h.hn;have p:=h.hl;have c:(bs.take m).length=m:=by rw[Ap];omega
 have e:a.drop (f+m)=[]:=BL (by omega);rw[e,A7];have d:(all++bs.take m).length=n+m:=by rw[Af,c,j]
 refine⟨by rw[d];omega,?_,by rw[Af,c,Ap];omega,?_⟩
 ·rw[d,show(n+m)/32=n/32+1 from by omega];show _=mix (stP (all++bs.take m) (n/32)) (words (((all++bs.take m).drop (32*(n/32))).take 32));rw[Fd _ _ _ (by omega),<-h.hs,Cx (by omega),<-h.ht,g,A9 (l:=a.take f++bs.take m) (by rw[Af,c,Ap];omega)]
 ·intro x b;simp only[AP]at b;rcases b with b|b
  ·exact h.hb x (Bb b)
  ·exact i x (Bb b)
theorem Mid.piece{cur p:τ}{s:S4}{b:τ}(h:Mid cur s b)(a:p.length=32)(c:∀x∈p,0<=x/\x<256):Mid (cur++p) (mix s (words p)) p:=
 ⟨by rw[Af,a];have:=h.hm;omega,by rw[TM cur p h.hm a,h.hs],a,c⟩
theorem Mid.stop{cur rs:τ}{s:S4}{b:τ}(h:Mid cur s b)(e:rs.length<32)(c:∀x∈rs,0<=x/\x<256):Inv (cur++rs) s (rs++b.drop rs.length) (cur.length+rs.length):=by
 have d:=h.hm;refine⟨by rw[Af],?_,by rw[Af,A3,h.hl];omega,?_,?_⟩
 ·rw[show(cur.length+rs.length)/32=cur.length/32 from by omega,Fd _ _ _ (by omega),h.hs]
 ·rw[show(cur.length+rs.length)%32=rs.length from by omega,show 32*((cur.length+rs.length)/32)=cur.length from by omega,D6,Cn]
 ·intro x a;rcases AP.1 a with a|a
  ·exact c x a
  ·exact h.hb x (BA a)
attribute [local go_sem ↓] Km Go.wp_at_zero Go.wp_at_succ
structure Ws(g gb off:Nat)(w0 w:Γ)(bs:τ)(s:S4)(tl:τ)(n:Nat):Prop where
 hg:w.heap[g]?=some (.cells (HC s tl n) 114)
 t:Touch g w0 w
 hc:∀j,j<bs.length->w.cell? ⟨gb,off+j,none⟩=some (η (bs.getD j 0))
theorem wpl_copy{w:Γ}{ops:Array Oper}{rest:List Oper}{o:Oper}{a:Act}{Q:Exit->Act->Γ->Prop}(b:o.guard=none)(d x:Operand)
 (e:o.op= .call {callee:= .builtin .copy,args:=#[d,x],argTypes:=#[32,32]}) (v u:Δ) (hd:a.eval d=v) (f:a.eval x=u) {v':Δ} {w':Γ}
 (g:(Builtin.copy_ #[32,32] o.type #[v,u]).run prog w= .ok v' w') (h:wpList prog ops Q rest (a.put o.dst v') w'):wpList prog ops Q (o::rest) a w:=by
 refine wpList_plain b λK c=>?_;unfold Oper.wp;simp[execOp,e,resolve,invoke,builtin,hd,f,g,Result.andThen];exact c _ _ h
theorem Ws.tail{g gb off:Nat}{w0 w:Γ}{bs:τ}{s:S4}{d:τ}{n:Nat}(h:Ws g gb off w0 w bs s d n)(b:gb≠g)(a:τ):Ws g gb off w0 (w.setRow g (HC s a n)) bs s a n:=
 ⟨AC _ _ _ _ _ _ h.hg,h.t.trans (Touch.setRow _ _ _),λj c=>(Av (w:=w) (Bc _ _ _ _ b)).trans (h.hc j c)⟩
theorem Ws.drew{g gb off:Nat}{w0 w:Γ}{bs:τ}{s:S4}{a:τ}{n:Nat}(h:Ws g gb off w0 w bs s a n):Ws g gb off w0 w.drew bs s a n:=⟨h.hg,h.t.trans (Touch.drew _ _),h.hc⟩
theorem Ws.call{g gb off:Nat}{w0 w w1:Γ}{bs:τ}{s:S4}{c:τ}{n:Nat}(h:Ws g gb off w0 w bs s c n)(a:Λ w w1):Ws g gb off w0 w1 bs s c n:=
 ⟨Below.row a h.hg,h.t.trans (Touch.of_below a),λj b=>(a.cell (p:=⟨gb,off+j,none⟩) (Al (h.hc j b))).trans (h.hc j b)⟩
theorem Ws.state{g gb off:Nat}{w0 w:Γ}{bs:τ}{s:S4}{f:τ}{n:Nat}(h:Ws g gb off w0 w bs s f n)(k:gb≠g)(a b c d:Int):
 Ws g gb off w0 ((((w.setCell ⟨g,0,none⟩ (ξ a)).setCell ⟨g,1,none⟩ (ξ b)).setCell ⟨g,2,none⟩ (ξ c)).setCell ⟨g,3,none⟩ (ξ d)) bs ⟨a,b,c,d⟩ f n:=by
 have o:=AU w g 0 _ 114 (ξ a) h.hg;have m:=AU _ g 1 _ 114 (ξ b) o;have p:=AU _ g 2 _ 114 (ξ c) m;have i:=AU _ g 3 _ 114 (ξ d) p;rw[Od]at i
 exact⟨i,(((h.t.trans (Touch.setCell _ _ _ _)).trans (Touch.setCell _ _ _ _)).trans (Touch.setCell _ _ _ _)).trans (Touch.setCell _ _ _ _),λj l=>by
  have e:=G5 (w:=w) k (ξ a) (ξ b) (ξ c) (ξ d);have q:((((w.setCell ⟨g,0,none⟩ (ξ a)).setCell ⟨g,1,none⟩ (ξ b)).setCell ⟨g,2,none⟩ (ξ c)).setCell ⟨g,3,none⟩ (ξ d)).cell? ⟨gb,off+j,none⟩=w.cell? ⟨gb,off+j,none⟩:=Av e;rw[q];exact h.hc j l⟩
theorem Ws.first{g gb off:Nat}{w:Γ}{bs:τ}{s:S4}{a:τ}{n m:Nat}(h:w.heap[g]?=some (.cells (HC s a n) 114))(f:a.length=32)(i:∀j,j<bs.length->w.cell? ⟨gb,off+j,none⟩=some (η (bs.getD j 0)))(c:gb≠g){p:Int}(d:p=(m:Nat)):
 Ws g gb off w (w.setCell ⟨g,36,none⟩ (ι p)) bs s a m:=by
 subst d;have b:=AU w g 36 _ 114 (ι (m:Nat)) h;rw[Jr _ _ _ _ f]at b;exact⟨b,Touch.setCell _ _ _ _,λj e=>(Av (w:=w) (AA _ _ _ _ c)).trans (i j e)⟩
theorem Oe{w:Γ}{gb off k m:Nat}{bs:τ}(d:∀j,j<bs.length->w.cell? ⟨gb,off+j,none⟩=some (η (bs.getD j 0))):∀j v,(((bs.drop k).take m).map (Value.int .u8))[j]?=some v->w.cell? ((⟨gb,off+k,none⟩:Addr).add j)=some v:=by
 intro j v a;have c:(⟨gb,off+k,none⟩:Addr).add j=⟨gb,off+(k+j),none⟩:=by unfold Addr.add;split<;>simp_all [C4]
 have b:=(Ar.1 a).1;simp at b;rw[c,d (k+j) (by omega),<-a];simp[b,Ad (show k+j<bs.length by omega)]
theorem Q6(g gb off len cap:Nat)(a b c d:Int)(i:τ)(n:Nat)(all bs:τ)(w:Γ)(u:Inv all ⟨a,b,c,d⟩ i n)(X:bs.length=len)(a3:0<len)(a2:len<=cap)(hm:cap<=maxLen)(a1:n+len<9223372036854775808)
 (hb:∀x∈bs,0<=x/\x<256) (E:gb≠g) (hg:w.heap[g]?=some (.cells (HC ⟨a,b,c,d⟩ i n) 114)) (hc:∀j,j<bs.length->w.cell? ⟨gb,off+j,none⟩=some (η (bs.getD j 0))):
 Calls prog 60 #[π g,σ (ζ gb off) len cap] w λe w'=>e=ω (θ #[])/\(∃s' ao,Inv (all++bs) s' ao (n+len)/\w'.heap[g]?=some (.cells (HC s' ao (n+len)) 114))/\Touch g w w':=by
 unfold maxLen at hm;obtain⟨c0,c1,c2,c3,y,cf⟩:=Fs hg u.hl;have HW:=Aa hc;have HG:=Aa hg;have HN:=Aa u.hn;clear hg hc;have B:=Ws.first (m:=n+len) HG.out u.hl HW.out E (show(n:Int)+len=((n+len:Nat):Int)from by omega);have z:=Aa B;have ae:=Aa u;clear HG HW B u;obtain⟨f,D⟩:∃f,n%32=f:=⟨_,rfl⟩;have ah:(n:Int)%32=(f:Int):=by omega
 have ai:=Aa ah;clear ah;have az:f<32:=by omega
 have aa:=Aa D;clear D;go_enter func60,ntmps60
 go_upto_if 22 with fail
 rw[ai.out]
 go_cut [1] (λt v=>∃(k:Nat)(ad:Ω)(s:S4)(i:τ),k<=len/\t=σ ad (len-k) (cap-k)/\(k<len->ad=some ⟨gb,off+k,none⟩)/\Mid (all++bs.take k) s i/\Ws g gb off w v bs s i (n+len))
 case first=>
  by_cases hf:f=0
  ·subst hf;go_wp2_with fail
   go_meet
   case rel=>exact⟨0,some ⟨gb,off,none⟩,⟨a,b,c,d⟩,i,by omega,rfl,λ_=>rfl,by have:=ae.out.start aa.out;simpa using this,z.out⟩
  ·have a4:(0:Int)<(f:Int):=(by omega);have ba:(f:Int)<=32:=(by omega);have u:=ae.out;have D:=aa.out;by_cases a9:f+len<32
   ·have l:=λty=>Ij (o:=f) (dl:=32-f) (dc:=32-f) (sl:=len) (sc:=cap) (ad:=⟨gb,off+0,none⟩) (xs:=(bs.drop 0).take len) z.out.hg u.hl (by rw[Ap,C1,X,Nat.min_self];exact(CJ (by omega)).symm) (by rw[Ap,C1];omega) (Oe z.out.hc) ty;rw[C1,A9 (by omega),X]at l;have I:=u.short D (by omega) hb;rw[X]at I;have T:=z.out.tail E (i.take f++bs++i.drop (f+len));generalize i.take f++bs++i.drop (f+len)=ps at l I T;have A:=Aa l;have HI:=Aa (And.intro I T);have am:(f:Int)+(len:Int)<32:=(by omega);clear l I T D u;go_wp2_with (first|refine wpl_copy rfl _ _ rfl _ _ rfl rfl (A.out _) ?_)
    go_returns
    exact⟨rfl,⟨_,_,HI.out.1,HI.out.2.hg⟩,HI.out.2.t⟩
   ·obtain⟨m,aw⟩:∃m,f+m=32:=⟨32-f,by omega⟩;have l:=λty=>Ij (o:=f) (dl:=32-f) (dc:=32-f) (sl:=len) (sc:=cap) (ad:=⟨gb,off+0,none⟩) (xs:=(bs.drop 0).take m) z.out.hg u.hl (by rw[Ap,C1,X,CJ (by omega)];exact(by rw[show 32-f=m from by omega];exact(Nat.min_eq_right (by omega)).symm)) (by rw[Ap,C1];omega) (Oe z.out.hc) ty;have ar:(bs.take m).length=m:=(by rw[Ap];omega);rw[C1,ar]at l;have M1:=u.full D aw (by omega) hb;have T:=z.out.tail E (i.take f++bs.take m++i.drop (f+m));generalize i.take f++bs.take m++i.drop (f+m)=ps at l M1 T;have A:=Aa l;have HT:=Aa T;have Z:=Aa M1;have am:¬(f:Int)+(m:Int)<32:=(by omega);have a5:(m:Int)<=len:=(by omega);have a6:(m:Int)<=cap:=(by omega);clear l T D u M1 ar;go_wp2_with (first|refine wpl_copy rfl _ _ rfl _ _ rfl rfl (A.out _) ?_);refine gen_w (p:=λv=>Code.wp _ _ _ _ v) (q:=λv=>Ws g gb off w v bs ⟨a,b,c,d⟩ ps (n+len)) HT.out ?_;clear A HT z c0 c1 c2 c3 y cf;intro v F;have r:Hid (ps.length=32/\∀x∈ps,0<=x/\x<256):=⟨Z.out.hl,Z.out.hb⟩;obtain⟨c0,c1,c2,c3,y,cf⟩:=Fs F.hg r.out.1;have l4:=Kp (w:=v.drew) F.hg r.out.1
    go_region_with (first
     |(go_at_call 86;refine(Gq ps r.out.1 r.out.2 _).mono ?_;rintro e w6⟨⟨ma,mb,mc,md,rfl,S⟩,Q⟩;have L:=F.drew.call Q;clear Q;obtain⟨c0,c1,c2,c3,y,cf⟩:=Fs L.hg r.out.1)
     |(go_at_call 85;refine(Jq _ _ _ _ _ _ _ _ _).mono ?_;rintro e w7⟨⟨G,K,N,J,rfl,V⟩,R⟩;have H:=L.call R;clear R;obtain⟨c0,c1,c2,c3,y,cf⟩:=Fs H.hg r.out.1))
    all_goals
     refine gen_w (p:=λv=>Exit.then _ _ _ _ v) (q:=λv=>Ws g gb off w v bs ⟨G,K,N,J⟩ ps (n+len)) (H.state E _ _ _ _) ?_;have U:Mid (all++bs.take m) ⟨G,K,N,J⟩ ps:=(by rw[V.out,S.out];exact Z.out);clear l4 c0 c1 c2 c3 y cf F L H S V Z r;intro v5 B;have O:=Aa U;have ak:=Aa B;clear U B;go_wp2_with fail
     all_goals
      go_meet
      case rel=>
       first
        |exact⟨m,some ⟨gb,off+m,none⟩,⟨G,K,N,J⟩,ps,by omega,rfl,λ_=>rfl,O.out,ak.out⟩
        |exact⟨m,some ⟨gb,off,none⟩,⟨G,K,N,J⟩,ps,by omega,by simp<;>omega,λh=>by exfalso;omega,O.out,ak.out⟩
 case rest=>
  clear z ae c0 c1 c2 c3 y cf ai az aa;obtain⟨k0,ay,ax,a0,ap,rfl,aj,U,B⟩:=hcut;have O:=Aa (And.intro U B);have al:=Aa aj;clear U B aj;go_wp2_with fail
  go_loopw [1] (λt v=>∃(k:Nat)(ad:Ω)(s:S4)(i:τ),k<=len/\t=σ ad (len-k) (cap-k)/\(k<len->ad=some ⟨gb,off+k,none⟩)/\Mid (all++bs.take k) s i/\Ws g gb off w v bs s i (n+len)) (λt _=>lenOf t)
  case atStart=>exact⟨k0,ay,ax,a0,ap,rfl,al.out,O.out.1,O.out.2⟩
  case round=>
   clear O al ap;obtain⟨k,ad,⟨a,b,c,d⟩,i,hk,rfl,C,M,F⟩:=hrel;by_cases am:k+32<=len
   ·have C:=C (by omega);subst C;have av:(32:Int)<=((len-k:Nat):Int):=(by omega);have Y:((bs.drop k).take 32).length=32:=(by rw[Ap,A3];omega);have l:=λty=>Ij (o:=0) (dl:=32) (dc:=32) (sl:=len-k) (sc:=cap-k) (ad:=⟨gb,off+k,none⟩) (xs:=(bs.drop k).take 32) F.hg M.hl (by rw[Y];exact(Nat.min_eq_right (by omega)).symm) (by omega) (Oe F.hc) ty;have A:=Aa l;clear l;go_wp2_with (first|refine wpl_copy rfl _ _ rfl _ _ rfl rfl (A.out _) ?_);refine gen_w (p:=λv=>Code.wp _ _ _ _ v) (q:=λv=>Ws g gb off w v bs ⟨a,b,c,d⟩ ((bs.drop k).take 32) (n+len)) (by have T:=F.tail E ((bs.drop k).take 32);rw[show List.drop 32 i=[]from BL (by rw[M.hl];omega),A7];exact T) ?_;have ac:∀x∈(bs.drop k).take 32,0<=x/\x<256:=λx hx=>hb x (BA (Bb hx));have M2:=M.piece Y ac;have aq:all++bs.take k++(bs.drop k).take 32=all++bs.take (k+32):=(by rw[AX,List.take_add]);rw[aq]at M2;have r:=Aa (And.intro Y ac);generalize (bs.drop k).take 32=ps at r M2;clear aq Y ac F M A;intro v F;obtain⟨c0,c1,c2,c3,y,cf⟩:=Fs F.hg r.out.1;have l4:=Kp (w:=v.drew) F.hg r.out.1
    go_region_with (first
     |(go_at_call 86;refine(Gq ps r.out.1 r.out.2 _).mono ?_;rintro e w6⟨⟨ma,mb,mc,md,rfl,S⟩,Q⟩;have L:=F.drew.call Q;clear Q;obtain⟨c0,c1,c2,c3,y,cf⟩:=Fs L.hg r.out.1)
     |(go_at_call 85;refine(Jq _ _ _ _ _ _ _ _ _).mono ?_;rintro e w7⟨⟨G,K,N,J,rfl,V⟩,R⟩;have H:=L.call R;clear R;obtain⟨c0,c1,c2,c3,y,cf⟩:=Fs H.hg r.out.1))
    all_goals
     refine gen_w (p:=λv=>Exit.then _ _ _ _ v) (q:=λv=>Ws g gb off w v bs ⟨G,K,N,J⟩ ps (n+len)) (H.state E _ _ _ _) ?_;have M3:Mid (all++bs.take (k+32)) ⟨G,K,N,J⟩ ps:=(by rw[V.out,S.out];exact M2);clear l4 c0 c1 c2 c3 y cf F L H S V M2 r;intro v5 F5;have HM:=Aa (And.intro M3 F5);clear M3 F5;go_wp2_with fail
     all_goals
      first
       |exact⟨⟨k+32,(if cap-k=32 then some ⟨gb,off+k,none⟩else some ⟨gb,off+k+32,none⟩),_,_,by omega,by rw[Nat.sub_sub,Nat.sub_sub],λh=>by rw[Ae (by omega),C4],HM.out.1,HM.out.2⟩,by simp[lenOf];omega⟩
       |(refine⟨⟨k+32,by omega,_,⟨rfl,by omega,by omega⟩,λh=>?_,_,_,HM.out.1,HM.out.2⟩,by simp[lenOf];omega⟩
         first|(exfalso;omega)|(rw[C4]))
   ·have P:(bs.drop k).length=len-k:=(by rw[A3];omega);have av:¬(32:Int)<=((len-k:Nat):Int):=(by omega);have af:∀x∈bs.drop k,0<=x/\x<256:=λx hx=>hb x (BA hx);have I:=M.stop (rs:=bs.drop k) (by omega) af;have ab:(all++bs.take k).length+(bs.drop k).length=n+len:=(by rw[Af,Ap,A3,<-HN.out];omega);rw[ab,AX,Bj]at I;have T:=F.tail E (bs.drop k++i.drop (bs.drop k).length);rw[P]at I T;have W:=Aa (And.intro I T.hg);by_cases a8:k=len
    ·have hz:bs.drop k++i.drop (len-k)=i:=(by rw[BL (by omega),show len-k=0 from by omega];simp);rw[hz]at I;have W:=Aa (And.intro I F.hg);have ht:=F.t;clear I T F M C P af ab hz;go_wp2_with (first|(refine wpList_copy_nothing rfl _ _ 32 32 rfl 5 υ32 (by kernel_rfl) _ _ _ _ _ _ rfl rfl (by simp;omega) ?_))
     go_end0
     exact⟨rfl,⟨_,_,W.out.1,W.out.2⟩,ht⟩
    ·have C:=C (by omega);subst C;have l:=λty=>Ij (o:=0) (dl:=32) (dc:=32) (sl:=len-k) (sc:=cap-k) (ad:=⟨gb,off+k,none⟩) (xs:=(bs.drop k).take (len-k)) F.hg M.hl (by rw[Ap,P];exact(by rw[Nat.min_self];exact(CJ (by omega)).symm)) (by rw[Ap,P];omega) (Oe F.hc) ty;rw[A9 (Nat.le_of_eq P)]at l;have A:=Aa l;have ht:=T.t;clear l I T F M P af ab;go_wp2_with (first|refine wpl_copy rfl _ _ rfl _ _ rfl rfl (A.out _) ?_)
     go_end0
     exact⟨rfl,⟨_,_,W.out.1,W.out.2⟩,ht⟩
theorem D3(xs ys:τ)(p q:Nat):∀k,(∀j,j<k->xs.getD (p+j) 0=ys.getD (q+j) 0)->wd xs p k=wd ys q k
 |0,_=>rfl
 |k+1,h=>by
  unfold wd;rw[D3 xs ys p q k (λj a=>h j (by omega)),h k (by omega)]
theorem Sl(bs:τ):∀k,k<=8->wfold bs k=⟨wd bs 0 k,0,0,0⟩
 |0,_=>rfl
 |k+1,h=>by
  show wstep (wfold bs k) k (bs.getD k 0)=_;rw[Sl bs k (by omega)];unfold wstep;rw[Ai (by omega)];show _=S4.mk (or8 (wd bs 0 k) (bs.getD (0+k) 0)) 0 0 0;rw[A6]
theorem Sm(bs:τ):∀k,k<=8->wfold bs (8+k)=⟨wd bs 0 8,wd bs 8 k,0,0⟩
 |0,_=>Sl bs 8 (by omega)
 |k+1,h=>by
  show wstep (wfold bs (8+k)) (8+k) (bs.getD (8+k) 0)=_;rw[Sm bs k (by omega)];unfold wstep;rw[Ae (by omega),Ai (by omega)];rfl
theorem Sn(bs:τ):∀k,k<=8->wfold bs (16+k)=⟨wd bs 0 8,wd bs 8 8,wd bs 16 k,0⟩
 |0,_=>Sm bs 8 (by omega)
 |k+1,h=>by
  show wstep (wfold bs (16+k)) (16+k) (bs.getD (16+k) 0)=_;rw[Sn bs k (by omega)];unfold wstep;rw[Ae (by omega),Ae (by omega),Ai (by omega)];rfl
theorem Sq(bs:τ):∀k,k<=8->wfold bs (24+k)=⟨wd bs 0 8,wd bs 8 8,wd bs 16 8,wd bs 24 k⟩
 |0,_=>Sn bs 8 (by omega)
 |k+1,h=>by
  show wstep (wfold bs (24+k)) (24+k) (bs.getD (24+k) 0)=_;rw[Sq bs k (by omega)];unfold wstep;rw[Ae (by omega),Ae (by omega),Ae (by omega)];rfl
theorem FO(bs:τ):words bs=⟨wd bs 0 8,wd bs 8 8,wd bs 16 8,wd bs 24 8⟩:=Sq bs 8 (by omega)
theorem Ec(P:τ)(p j:Nat)(a:j<32):((P.drop p).take 32).getD j 0=P.getD (p+j) 0:=by
 simp[List.getD,a]
theorem Wh(P:τ)(p:Nat):wordsAt P p=words ((P.drop p).take 32):=by
 rw[FO];unfold wordsAt
 rw[D3 P ((P.drop p).take 32) p 0 8 (λj a=>by rw[Ec P p _ (by omega),A6]),D3 P ((P.drop p).take 32) (p+8) 8 8 (λj a=>by rw[Ec P p _ (by omega),C4]),
  D3 P ((P.drop p).take 32) (p+16) 16 8 (λj a=>by rw[Ec P p _ (by omega),C4]),D3 P ((P.drop p).take 32) (p+24) 24 8 (λj a=>by rw[Ec P p _ (by omega),C4])]
theorem Wi(n:Int)(c:Int)(a:0<=n)(b:n<18446744073709551616)(f:0<c):(n/(c*256)*256+n/c%256)%18446744073709551616=n/c:=by
 have e:n/(c*256)=n/c/256:=(Int.ediv_ediv_of_nonneg (by omega)).symm;have g:0<=n/c:=Int.ediv_nonneg a (by omega);have d:n/c<=n:=Int.ediv_le_self _ a;rw[e];omega
theorem Wj(L:τ)(n:Nat)(r:n<18446744073709551616)(h:∀k,k<8->L.getD (24+k) 0=(n:Int)/2^(56-8*k)%256):wd L 24 8=n:=by
 have b:(0:Int)<=n:=by omega
 have a:(n:Int)<18446744073709551616:=by omega
 have st:∀k(c:Int),k<8->(2:Int)^(56-8*k)=c->0<c->wd L 24 k=(n:Int)/(c*256)->wd L 24 (k+1)=(n:Int)/c:=by
  intro k c f i p d;show or8 (wd L 24 k) (L.getD (24+k) 0)=_;rw[d,h k f,i];unfold or8 wr;rw[C6];exact Wi n c b a p
 have w0:wd L 24 0=(n:Int)/(72057594037927936*256):=by
  show(0:Int)=_;omega
 have w1:=st 0 72057594037927936 (by omega) (by decide) (by omega) w0;have l:=st 1 281474976710656 (by omega) (by decide) (by omega) w1;have j:=st 2 1099511627776 (by omega) (by decide) (by omega) l;have e:=st 3 4294967296 (by omega) (by decide) (by omega) j;have o:=st 4 16777216 (by omega) (by decide) (by omega) e;have m:=st 5 65536 (by omega) (by decide) (by omega) o;have q:=st 6 256 (by omega) (by decide) (by omega) m;have g:=st 7 1 (by omega) (by decide) (by omega) q;rw[g];omega
theorem Fe(xs ys:τ)(j:Nat)(h:j<xs.length):(xs++ys).getD j 0=xs.getD j 0:=by
 rw[List.getD,List.getD,Bg h]
theorem G6(xs ys:τ)(j:Nat)(h:xs.length<=j):(xs++ys).getD j 0=ys.getD (j-xs.length) 0:=by
 rw[List.getD,List.getD,Bn h]
theorem IH(m j:Nat):(List.replicate m (0:Int)).getD j 0=0:=by
 rw[List.getD,List.getElem?_replicate];split<;>rfl
theorem TN(all:τ)(j:Nat)(h:j<all.length):(padded all).getD j 0=all.getD j 0:=by
 unfold padded;rw[Fe _ _ _ (by simp;omega),Fe _ _ _ (by simp;omega),Fe _ _ _ h]
theorem Pf(all:τ):(padded all).getD all.length 0=128:=by
 unfold padded;rw[Fe _ _ _ (by simp<;>omega),Fe _ _ _ (by simp),G6 _ _ _ (Ab _),C8];rfl
theorem GR(all:τ)(j:Nat)(a:all.length<j)(b:j<all.length+1+zc all.length):(padded all).getD j 0=0:=by
 unfold padded;rw[Fe _ _ _ (by simp;omega),G6 _ _ _ (by simp;omega),IH]
theorem Kq(all:τ)(k:Nat)(a:k<8):(padded all).getD (all.length+1+zc all.length+k) 0=(all.length:Int)/2^(56-8*k)%256:=by
 unfold padded;rw[G6 _ _ _ (by simp;omega)];have e:all.length+1+zc all.length+k-(all++[128]++List.replicate (zc all.length) 0).length=k:=by
  rw[Af,Af,Bu];show all.length+1+zc all.length+k-(all.length+1+zc all.length)=k;omega
 rw[e];simp[len8,List.getD,a]
theorem ML(f:Nat)(a:τ)(i:a.length=32)(d:f<32)(j:Nat)(g:j<32):(lastOf f a).getD j 0=if j<f then a.getD j 0 else if j=f then 128 else 0:=by
 unfold lastOf;rw[List.getD,List.getElem?_set];have e:(List.take f a).length=f:=by rw[Ap];omega
 by_cases b:f=j
 ·subst b;rw[Ai rfl,Ai (by rw[Af,e,Bu];omega),Ae (by omega),Ai rfl];rfl
 ·rw[Ae b,<-List.getD];by_cases c:j<f
  ·rw[Ai c,Fe _ _ _ (by omega),List.getD,List.getD,AT c]
  ·rw[Ae c,Ae (λh=>b h.symm),G6 _ _ _ (by omega),IH]
theorem Pg(P:τ):∀i,stOf P i=stP P i
 |0=>rfl
 |i+1=>by
  show mix (stOf P i) (wordsAt P (32*i))=mix (stP P i) (words ((P.drop (32*i)).take 32));rw[Pg P i,Wh]
theorem YG(all:τ)(s:S4)(a:τ)(n:Nat)(h:Inv all s a n)(y:n<18446744073709551616):finS s a n=stOf (padded all) ((padded all).length/32):=by
 have g:=h.hn;have x:=h.hl;obtain⟨q,z⟩:∃q,n/32=q:=⟨_,rfl⟩;obtain⟨f,p⟩:∃f,n%32=f:=⟨_,rfl⟩;have D:n=32*q+f:=by omega
 have t:f<32:=by omega
 have C:zc n=(55-f)%32:=by unfold zc;rw[p]
 have v:∀j,j<f->(padded all).getD (32*q+j) 0=a.getD j 0:=by
  intro j b;rw[TN all _ (by omega)];have e:=h.ht;rw[p,z]at e;have B:(a.take f).getD j 0=(all.drop (32*q)).getD j 0:=by rw[e]
  rw[List.getD,List.getD,AT b,CK]at B;rw[List.getD,List.getD];exact B.symm
 have w:(padded all).getD (32*q+f) 0=128:=by rw[<-D,g];exact Pf all
 have A:stP (padded all) q=s:=by
  rw[h.hs,z];unfold padded;rw[AX,AX];exact Fd all _ q (by omega)
 have m:=Gc all;rw[<-g]at m;rw[Pg];unfold finS;rw[p];by_cases u:f<24
 ·rw[Ai u];have c:zc n=23-f:=by rw[C];omega
  rw[show(padded all).length/32=q+1 from by rw[m,c];omega];show _=mix (stP (padded all) q) (words (((padded all).drop (32*q)).take 32));rw[A];refine Ao (mix s) ?_;have d:∀j,j<24->(lastOf f a).getD j 0=(((padded all).drop (32*q)).take 32).getD j 0:=by
   intro j b;rw[Ec _ _ _ (by omega),ML f a x t j (by omega)];by_cases l:j<f
   ·rw[Ai l,v j l]
   ·rw[Ae l];by_cases i:j=f
    ·rw[Ai i,i,w]
    ·rw[Ae i,GR all _ (by omega) (by rw[<-g,c];omega)]
  have hd:wd (((padded all).drop (32*q)).take 32) 24 8=n:=by
   refine Wj _ n y λk r=>?_;rw[Ec _ _ _ (by omega)];have e:=Kq all k r;rw[<-g,c]at e;rw[show 32*q+(24+k)=n+1+(23-f)+k from by omega];exact e
  rw[FO,FO (((padded all).drop (32*q)).take 32),hd];rw[D3 (lastOf f a) _ 0 0 8 (λj b=>d (0+j) (by omega)),D3 (lastOf f a) _ 8 8 8 (λj b=>d (8+j) (by omega)),D3 (lastOf f a) _ 16 16 8 (λj b=>d (16+j) (by omega))]
 ·rw[Ae u];have c:zc n=55-f:=by rw[C];omega
  rw[show(padded all).length/32=q+1+1 from by rw[m,c];omega];show _=mix (mix (stP (padded all) q) (words (((padded all).drop (32*q)).take 32))) (words (((padded all).drop (32*(q+1))).take 32));rw[A];have d:∀j,j<32->(lastOf f a).getD j 0=(((padded all).drop (32*q)).take 32).getD j 0:=by
   intro j b;rw[Ec _ _ _ b,ML f a x t j b];by_cases l:j<f
   ·rw[Ai l,v j l]
   ·rw[Ae l];by_cases i:j=f
    ·rw[Ai i,i,w]
    ·rw[Ae i,GR all _ (by omega) (by rw[<-g,c];omega)]
  have E:words (lastOf f a)=words (((padded all).drop (32*q)).take 32):=by
   rw[FO,FO (((padded all).drop (32*q)).take 32)];rw[D3 (lastOf f a) _ 0 0 8 (λj b=>d (0+j) (by omega)),D3 (lastOf f a) _ 8 8 8 (λj b=>d (8+j) (by omega)),D3 (lastOf f a) _ 16 16 8 (λj b=>d (16+j) (by omega)),D3 (lastOf f a) _ 24 24 8 (λj b=>d (24+j) (by omega))]
  rw[E];refine Ao (mix _) ?_;have o:∀j,j<24->(List.replicate 32 (0:Int)).getD j 0=(((padded all).drop (32*(q+1))).take 32).getD j 0:=by
   intro j b;rw[Ec _ _ _ (by omega),IH,GR all _ (by omega) (by rw[<-g,c];omega)]
  have hd:wd (((padded all).drop (32*(q+1))).take 32) 24 8=n:=by
   refine Wj _ n y λk r=>?_;rw[Ec _ _ _ (by omega)];have e:=Kq all k r;rw[<-g,c]at e;rw[show 32*(q+1)+(24+k)=n+1+(55-f)+k from by omega];exact e
  rw[FO,FO (((padded all).drop (32*(q+1))).take 32),hd];rw[D3 (List.replicate 32 0) _ 0 0 8 (λj b=>o (0+j) (by omega)),D3 (List.replicate 32 0) _ 8 8 8 (λj b=>o (8+j) (by omega)),D3 (List.replicate 32 0) _ 16 16 8 (λj b=>o (16+j) (by omega))]
theorem Q7(g:Nat)(a:Ω)(cap:Nat)(s:S4)(b:τ)(n:Nat)(w:Γ)(i:b.length=32)(u:n<9223372036854775808)(c:w.heap[g]?=some (.cells (HC s b n) 114)):
 Calls prog 60 #[π g,σ a 0 cap] w λe w'=>e=ω (θ #[])/\w'=w.setCell ⟨g,36,none⟩ (ι n):=by
 obtain⟨q,r,v,t⟩:=s;obtain⟨c0,c1,c2,c3,l,cf⟩:=Fs c i;clear c;obtain⟨f,d⟩:∃f,n%32=f:=⟨_,rfl⟩;have j:(n:Int)%32=(f:Int):=by omega
 have o:f<32:=by omega
 have m:(f:Int)<32:=by omega
 have k:(f:Int)<=32:=by omega
 clear d;by_cases h:f=0
 ·subst h;go_enter func60,ntmps60;go_wp2_with fail;refine wp_loop_rounds 1 ?_;rw[CZ];go_wp2_with (first|(refine wpList_copy_nothing rfl _ _ 32 32 rfl 5 υ32 (by kernel_rfl) _ _ _ _ _ _ rfl rfl (by simp) ?_))
  go_end0
  exact⟨rfl,rfl⟩
 ·have p:(0:Int)<(f:Int):=by omega
  go_enter func60,ntmps60;go_wp2_with (first|(refine wpList_copy_nothing rfl _ _ 32 32 rfl 5 υ32 (by kernel_rfl) _ _ _ _ _ _ rfl rfl (by simp) ?_))
  go_returns
  exact⟨rfl,rfl⟩
def In2(g:Nat)(w:Γ)(a:Ω)(len cap:Nat)(bs:τ):Prop:=
 (len=0/\bs=[])∨∃gb off,a=some ⟨gb,off,none⟩/\bs.length=len/\0<len/\len<=cap/\cap<=maxLen/\gb≠g/\∀j,j<bs.length->w.cell? ⟨gb,off+j,none⟩=some (η (bs.getD j 0))
theorem TO(g:Nat)(a:Ω)(len cap:Nat)(s:S4)(b:τ)(n:Nat)(all bs:τ)(w:Γ)(c:Inv all s b n)(i:In2 g w a len cap bs)(h:n+len<9223372036854775808)
 (p:∀x∈bs,0<=x/\x<256) (d:w.heap[g]?=some (.cells (HC s b n) 114)):
 Calls prog 60 #[π g,σ a len cap] w λe w'=>e=ω (θ #[])/\(∃s' f,Inv (all++bs) s' f (n+len)/\w'.heap[g]?=some (.cells (HC s' f (n+len)) 114))/\Touch g w w':=by
 rcases i with⟨rfl,rfl⟩|⟨gb,off,rfl,t,l,o,r,u,q⟩
 ·refine(Q7 g a cap s b n w c.hl (by omega) d).mono ?_;rintro e w'⟨rfl,rfl⟩;refine⟨rfl,⟨s,b,by rw[A7];exact c,?_⟩,Touch.setCell _ _ _ _⟩;have:=AU w g 36 _ 114 (ι n) d;rw[Jr _ _ _ _ c.hl]at this;exact this
 ·obtain⟨j,k,v,m⟩:=s;exact Q6 g gb off len cap j k v m b n all bs w c t l o r h p u d q
def dref(bs:τ):τ:=dig (stOf (padded bs) ((padded bs).length/32))
theorem dref_len(bs:τ):(dref bs).length=32:=by simp[dref,dig]
theorem YH:Inv [] s0 (List.replicate 32 0) 0:=⟨rfl,rfl,Bu,rfl,Ko⟩
theorem YI(g:Nat)(s:S4)(a:τ)(n:Nat)(all:τ)(w:Γ)(h:Inv all s a n)(j:n<9223372036854775808)(f:w.heap[g]?=some (.cells (HC s a n) 114)):
 Calls prog 61 #[π g] w λe w'=>e=ω (γ (B8 (dref all)))/\Λ w w':=by
 obtain⟨b,c,i,d⟩:=s;have:=Y9 g b c i d a n h.hl h.hb j w f;rw[YG all _ a n h (by omega)]at this;exact this
def In0(w:Γ)(a:Ω)(len cap:Nat)(bs:τ):Prop:=
 (len=0/\bs=[])∨∃gb off,a=some ⟨gb,off,none⟩/\bs.length=len/\0<len/\len<=cap/\cap<=maxLen/\∀j,j<bs.length->w.cell? ⟨gb,off+j,none⟩=some (η (bs.getD j 0))
theorem In0.at{w w':Γ}{a:Ω}{len cap:Nat}{bs:τ}{B:Nat}(h:In0 w a len cap bs)(n:w.heap.size<=B)(m:Λ w w')(g:Nat)(o:B<=g):In2 g w' a len cap bs:=by
 rcases h with h|⟨gb,off,f,d,k,e,i,b⟩
 ·exact .inl h
 ·have l:gb<w.heap.size:=Al (b 0 (by omega));exact .inr ⟨gb,off,f,d,k,e,i,by omega,λj c=>(m.cell (p:=⟨gb,off+j,none⟩) l).trans (b j c)⟩
theorem Touch.below{g N:Nat}{w0 w w':Γ}(h:Below N w0 w)(t:Touch g w w')(c:N<=g)(a:N<=w.heap.size):Below N w0 w':=
 h.trans ⟨t.os,t.tape,t.output,t.size,λk b=>t.block k (by omega) (by omega)⟩
theorem of_any(a:Ω)(len cap:Nat)(bs:τ)(w:Γ)(y:In0 w a len cap bs)(t:len=bs.length)(D:∀x∈bs,0<=x/\x<256)(J:len<9223372036854775808):
 Calls prog 35 #[σ a len cap] w λe w'=>e=ω (γ (B8 (dref bs)))/\Λ w w':=by
 have L:=Aa y;have P:=Aa D;have R:=Aa t;clear y D t;go_enter func35,ntmps35;go_wp2_with fail;refine(TJ _).mono ?_;rintro e w1⟨⟨b,f,d,c,rfl,H⟩,m⟩;have E:Hid ((prog.info? 114).map (·.size)=some (HC ⟨b,f,d,c⟩ (List.replicate 32 0) 0).size):=by unfold Hid;rw[NZ];kernel_rfl
 go_wp2_with (first|refine A5 rfl 114 _ _ rfl _ (HC ⟨b,f,d,c⟩ (List.replicate 32 0) 0) rfl (by rw[YF];rfl) 114 _ (Ak w1 _) E.out (by rw[NZ];rfl) (Xa4 _ _ _) ?_);have r:w1.heap[w.heap.size]?=some (.cells (B8 (List.replicate 32 0)) 44):=Below.row m (Ak w _);have g:=lt_of_get r;have A:Λ w w1:=((Ac _ _).alloc (Ab _) _).trans (m.mono (by simp));clear m;refine gen_w (p:=λv=>Calls _ _ _ v _) (q:=λv=>OfH w.heap.size w1.heap.size w v ⟨b,f,d,c⟩ (List.replicate 32 0) 0) ⟨?_,?_,?_,g⟩ ?_
 ·rw[Bc _ _ _ _ (by omega),Ax _ _ _ g];exact r
 ·exact AC _ _ _ _ _ _ (Ak w1 _)
 ·exact Below.setRow (A.alloc (by omega) _) (by omega) _
 clear r A;intro v F;have s:Inv [] ⟨b,f,d,c⟩ (List.replicate 32 0) 0:=by rw[H.out];exact YH
 refine(TO _ a len cap _ _ 0 [] bs v s (L.out.at (Ab _) F.bel _ (E8 g)) (by omega) P.out F.hg).mono ?_;rintro e G⟨rfl,⟨O,M,h,j⟩,n⟩;rw[AH,A6]at h;rw[A6]at j;have z:G.heap[w.heap.size]?=some (.cells (B8 (List.replicate 32 0)) 44):=(n.block _ (lt_of_get F.h0) (by omega)).trans F.h0;have N:=Touch.below F.bel n (E8 g) (E8 (lt_of_get F.h0));clear F n E s;have o:=Aa (And.intro h j);have k:=Aa z;clear h j z H;go_wp2_with fail;refine(YI _ O M len bs G o.out.1 J o.out.2).mono ?_;rintro e Q⟨rfl,l⟩;have C:=Below.row l k.out;have K:=N.trans (l.mono (by have:=lt_of_get k.out;omega));have i:Hid ((prog.info? 44).map (·.size)=some (B8 (dref bs)).size):=by unfold Hid;rw[B8_size,dref_len];kernel_rfl
 have B:=dref_len bs;have I:=Aa C;clear C l o k;generalize u:dref bs=ds at i B⊢;have HD:=Aa u;clear u;go_wp2_with (first|refine A5 rfl 44 _ _ rfl _ (B8 ds) rfl rfl 44 _ I.out i.out (by rw[B8_size,B8_size,B,Bu]) (B8_one _) ?_);refine Aq (Be results35 _ _ w.heap.size 44 (B8 ds) (0,0) _ rfl (AC _ _ _ _ _ _ I.out) υ44 rfl i.out) rfl ?_;exact⟨by rw[HD.out],Below.setRow K (Ab _) _⟩
end Di
section
open Di (dref)
theorem XbN{w v:Γ}{a:Ω}{n c:Nat}{b:τ}(h:Ag w a n c b)(d:Λ w v):Ag v a n c b:=h.at d
theorem KN(a:Ω)(n c:Nat)(b:τ)(w:Γ)(h:Ag w a n c b)(d:n<=140737488351232):Calls prog 35 #[σ a n c] w λe w'=>e=ω (γ (B8 (dref b)))/\Λ w w':=
 Di.of_any a n c b w h.i h.l.symm h.b (by omega)
theorem LA(a:Ω)(n c:Nat)(b:τ)(w:Γ)(h:Ag w a n c b)(d:n<=140737488351232):Calls prog 38 #[σ a n c] w λe w'=>e=ω (γ (B8 (dref b)))/\Λ w w':=
 Di.rof_any a n c b w (h.i.inB h.nil) h.b (by rw[h.l];exact d)
theorem dref_len(b:τ):(dref b).length=32:=Di.dref_len b
theorem GS(b:τ):isB (dref b):=λx a=>by
 unfold dref Di.dig at a;obtain⟨i,_,rfl⟩:=BC.1 a;unfold Di.bt;omega
end
section
variable {y : RV} {w : World}
theorem Fp{fn:Func}{p u:Tmp}(h:fn.results=#[.cell p 118, .tmp u])(a:Ξ)(w:Γ)(g:Nat)(y:RV)(e:y.d.length=32)(c:a.getD p undef=π g)(d:w.heap[g]?=some (.cells y.cells.toArray 118)):
 (results fn a).run prog w= .ok (θ #[γ y.cells.toArray,a.getD u undef]) w:=by
 have b:a[p]?.getD undef=π g:=by simpa using c
 have f:=CB (P:=prog) w g 118 118 y.cells.toArray (0,0) _ d υ118 rfl (by rw[EW,Ba,RV.len e]);simp[results,h,b,asAddr,f]
def RPost(w:Γ)(o:Option PR):Ending->Γ->Prop:=λe w'=>Λ w w'/\
 match o with
 |none=>∃y:RV,y.d.length=32/\e=ω (θ #[γ y.cells.toArray,β false])
 |some r=>∃y:RV,e=ω (θ #[γ y.cells.toArray,β true])/\RefAt (Own w.heap.size w') w' y r
theorem Fx(K:Θ)(w:Γ):AgK K w none 0 0 []:=⟨⟨.inl ⟨rfl,rfl⟩,λ_=>⟨rfl,rfl⟩,rfl,λx a=>by cases a⟩,by omega,λg off e=>by cases e⟩
theorem Js:isB z32:=λx a=>by rw[z32,Ce]at a;omega
theorem Ff(K:Θ)(w:Γ):RefAt K w rz r0:=⟨rfl,rfl,Js,rfl,Fx K w⟩
theorem CL(h:y.d.length=32):(rz.cells.toArray:Ξ).size=y.cells.toArray.size:=by rw[Ba,Ba,RV.len h];rfl
theorem CD(h:y.d.length=32):(prog.info? 118).map (·.size)=some y.cells.toArray.size:=by rw[EW,Ba,RV.len h]
structure Rr(w v:Γ)(x:V):Prop where
 row:v.heap[w.heap.size+1]?=some (.cells rz.cells.toArray 118)
 bx:B1 w.heap.size v x
 bel:Λ w v
 sz:w.heap.size+2<=v.heap.size
theorem Rr.go{v v':Γ}{x:V}(h:Rr w v x)(a:Λ v v'):Rr w v' x:=⟨Below.row a h.row,h.bx.go a,below_go h.bel a,Au h.sz a.size⟩
theorem Wk(w:Γ)(x:V):Rr w ((w.alloc (.cells #[β x.l,σ x.ba x.bn x.bc,σ x.ia x.m x.ic] 108)).alloc (.cells rz.cells.toArray 118)) x:=by
 have a:(w.alloc (.cells #[β x.l,σ x.ba x.bn x.bc,σ x.ia x.m x.ic] 108)).heap.size=w.heap.size+1:=by simp
 refine⟨?_,(E9 w x).alloc _,below_go (below_new w _) (below_new _ _),by simp⟩;have:=Ak (w.alloc (.cells #[β x.l,σ x.ba x.bn x.bc,σ x.ia x.m x.ic] 108)) (.cells rz.cells.toArray 118);rwa [a]at this
theorem Keep.setRow{base base' g:Nat}{v:Γ}{C:Ξ}(c:g<base)(b:base'<=base):Keep (Own base v) (Own base' (v.setRow g C)) v (v.setRow g C):=λk a d=>by
 have e:(v.setRow g C).heap[k]?=v.heap[k]?:=Bc _ _ _ _ (by have:=a.1;omega);exact⟨e,Au b a.1,λo=>(Cb (w:=v) e).trans (a.2 o)⟩
theorem Wl{N sc:Nat}{ad:Addr}{bs:τ}(c:w.heap[N]?=some (.cells (RV.cells ⟨2,z32,none,0,0⟩).toArray 118))(a:bs.length=32)(b:∀j v,(bs.map (Value.int .u8))[j]?=some v->w.cell? (ad.add j)=some v)(ty:TypeId):
 (Builtin.copy_ #[32,32] ty #[σ (ζ N 1) 32 32,σ (some ad) 32 sc]).run prog w= .ok (ι 32) (w.setRow N (RV.cells ⟨2,bs,none,0,0⟩).toArray):=by
 have h:=run_copy_row prog w 32 32 ty 5 N 1 32 32 ad 32 sc (RV.cells ⟨2,z32,none,0,0⟩).toArray 118 (bs.map (Value.int .u8)) υ32 (by kernel_rfl) c (by rw[AQ,a];rfl) b (by rw[AQ,a];decide) (B8_one2 _);rw[h,AQ,a];rfl
theorem MM(t:T)(x:V)(w:Γ)(h:Lies w t x):
 Calls prog 164 #[γ #[β x.l,σ x.ba x.bn x.bc,σ x.ia x.m x.ic]] w (RPost w (refOfP t)):=by
 obtain⟨l,bs,its⟩:=t;obtain⟨hl,i,-⟩:=lies_eq.1 h;have av:x.bn<=140737488351232:=(lies_eq.1 h).2.2.2.2.2.1.1;subst hl;have HX:=Aa h;have ah:=Aa i;obtain⟨K,b⟩:∃K,refOfP (.mk x.l bs its)=K:=⟨_,rfl⟩;rw[b];have b:(if x.l=true then(if(mP (.mk x.l bs its)).2=0 then some (⟨1,z32,enc (.mk x.l bs its)⟩:PR)else none)else if bs.length=0 then some r0 else if bs.length=32 then some ⟨2,bs,[]⟩else none)=K:=b;rw[i.l]at b;have y:=Aa b;have d:=Aa (Wk w x);clear h i b;go_enter func164,ntmps164;go_upto_region 1 with fail;refine gen_w (p:=λv=>Code.wp _ _ _ _ v) (q:=λv=>Rr w v x) d.out ?_;clear d;intro v D;have c0:=D.bx.c0;have c1:=D.bx.c1;have c2:=D.bx.c2;have d:=Aa D;clear D;by_cases m:x.l=true
 ·have f:=Aa (IF (.mk x.l bs its) x v (Cl d.out.bel _ x HX.out));have ar:=Aa m;obtain⟨xl,Z⟩:∃xl,x.l=xl:=⟨_,rfl⟩;have b:=y.out;rw[Ai m]at b;rw[m]at c0;by_cases o:(mP (.mk x.l bs its)).2=0
  ·rw[Ai o]at b;subst b;have F:=Gl o;have aa:=VS o;rw[F]at f;have P:=Aa aa;rw[show(((enc (T.mk x.l bs its),0):τ×Nat).2:Int)=0 from rfl]at f;rw[show((enc (T.mk x.l bs its),0):τ×Nat).1=enc (T.mk x.l bs its)from rfl]at f;generalize X:enc (T.mk x.l bs its)=en at f P⊢;have s:=f.out;rw[m]at s;have J:=Aa s;have ai:=Aa X;clear F aa o X f y s Z;go_wp2_with fail;refine J.out.mono ?_;rintro e w1⟨⟨a,n,c,rfl,i,G⟩,C⟩;have R1:=d.out.go C
   have ac:=Aa (show AgK (Own (w.heap.size+2) w1) w1 a n c en from⟨i,by have:=i.l;have:=P.out;omega,λg off e B=>by
    have:=G g off e B;exact⟨by have:=d.out.sz;omega,this.2⟩⟩)
   have r:=Aa R1;have ap:z32.length=32:=rfl;clear i G C R1;go_wp2_with (first|refine A5 rfl 118 _ _ rfl _ (RV.cells ⟨1,z32,a,n,c⟩).toArray rfl rfl 118 _ r.out.row (CD rfl) (CL rfl) (Am (RV.one _)) ?_);refine Aq (Fp results164 _ _ (w.heap.size+1) ⟨1,z32,a,n,c⟩ rfl rfl (AC _ _ _ _ _ _ r.out.row)) rfl ?_;exact⟨Below.setRow r.out.bel (by omega) _,⟨1,z32,a,n,c⟩,rfl,rfl,rfl,Js,rfl,by rw[ai.out];exact ac.out.go (Keep.setRow (base:=w.heap.size+2) (base':=w.heap.size) (g:=w.heap.size+1) (by omega) (by omega))⟩
  ·rw[Ae o]at b;subst b;have F:=NT o;rw[F]at f;obtain⟨L,R⟩:∃L,(mP (.mk x.l bs its)).2=L:=⟨_,rfl⟩;rw[R]at f o;have aq:((L:Int)==0)=false:=(by rw[Bo];omega);have s:=f.out;rw[m]at s;have J:=Aa s;clear F o R f y s Z;go_wp2_with fail;refine J.out.mono ?_;rintro e w1⟨⟨a,n,c,rfl,i,G⟩,C⟩;have r:=Aa (d.out.go C);clear i G C;go_wp2_with (first|refine A5 rfl 118 _ _ rfl _ (RV.cells ⟨1,z32,a,n,c⟩).toArray rfl rfl 118 _ r.out.row (CD rfl) (CL rfl) (Am (RV.one _)) ?_);refine Aq (Fp results164 _ _ (w.heap.size+1) ⟨1,z32,a,n,c⟩ rfl rfl (AC _ _ _ _ _ _ r.out.row)) rfl ?_;exact⟨Below.setRow r.out.bel (by omega) _,⟨1,z32,a,n,c⟩,rfl,rfl⟩
 ·have b:=y.out;rw[Ae m]at b;have S:x.l=false:=by simpa using m
  rw[S]at c0;clear S m y HX;by_cases B:x.bn=0
  ·rw[Ai B]at b;subst b;go_wp2_with (first|refine A5 rfl 118 _ _ rfl _ rz.cells.toArray rfl rfl 118 _ d.out.row (CD rfl) (CL rfl) (Am (RV.one _)) ?_);refine Aq (Fp results164 _ _ (w.heap.size+1) rz rfl rfl (AC _ _ _ _ _ _ d.out.row)) rfl ?_;exact⟨Below.setRow d.out.bel (by omega) _,rz,rfl,Ff _ _⟩
  ·rw[Ae B]at b;by_cases A:x.bn=32
   ·rw[Ai A]at b;subst b;have E:=ah.out;rw[A]at E c1;obtain⟨g,off,I,_,_,Y⟩:=ag_head E (by omega);rw[I]at c1;have k:=Aa E.l;have ak:=Aa E.b
    have al:=Aa (show∀u,Λ w u->∀j z,(bs.map (Value.int .u8))[j]?=some z->u.cell? ((⟨g,off,none⟩:Addr).add j)=some z from λu hu j z ab=>by
     have hj:j<32:=(by have:=(Ar.1 ab).1;rw[AQ,k.out]at this;exact this);rw[BO,AS hu (Y j hj),<-ab,AZ,List.getD,Ad (by rw[k.out];exact hj)];rfl)
    have aj:=Aa I;have ad:=Aa A;clear E Y B A I;go_upto_region 9 with(first|refine A5 rfl 118 _ _ rfl _ (RV.cells ⟨2,z32,none,0,0⟩).toArray rfl rfl 118 _ (Ak _ _) (CD rfl) (CL rfl) (Am (RV.one _)) ?_);refine gen_w (p:=λv=>Code.wp _ _ _ _ v) (q:=λu=>RBx v.heap.size u ⟨2,z32,none,0,0⟩/\Rr w u x) ⟨⟨AC _ _ _ _ _ _ (Ak _ _),rfl⟩,?_⟩ ?_
    ·refine d.out.go (Below.setRow (below_new v _) (Ab _) _)
    rintro u⟨O,H⟩;have d1:=H.bx.c1;rw[show x.ba=some ⟨g,off,none⟩from aj.out]at d1;rw[ad.out]at d1;have am:=Aa (Wl (w:=u.drew) (N:=v.heap.size) (sc:=x.bc) O.row k.out (al.out _ (H.bel.drew)));have ao:=Aa O;have W:=Aa H;have Q:=Aa d.out.sz;clear O H c0 c1 c2
    go_frame
    go_cut [] (λM=>RBx v.heap.size M ⟨2,bs,none,0,0⟩/\M.heap[w.heap.size+1]?=some (.cells rz.cells.toArray 118)/\Λ w M)
    case first=>
     go_region_law (refine step_copy rfl _ _ 32 32 rfl _ _ rfl rfl (am.out _) ?_)
     all_goals
      go_wp2_with fail
      go_meet
      exact⟨⟨AC _ _ _ _ _ _ ao.out.row,k.out⟩,(Bc _ _ _ _ (by have:=Q.out;omega)).trans W.out.row,Below.setRow W.out.bel.drew (by have:=Q.out;omega) _⟩
    case rest=>
     obtain⟨B3,r3,b3⟩:=hcut;have af:=Aa B3;have U:=Aa r3;have ae:=Aa b3;clear B3 r3 b3;go_wp2_with (first|refine C3 rfl _ rfl v.heap.size 0 rfl ⟨2,bs,none,0,0⟩ k.out af.out.all ?_|refine A5 rfl 118 _ _ rfl _ (RV.cells ⟨2,bs,none,0,0⟩).toArray rfl rfl 118 _ U.out (CD k.out) (CL k.out) (Am (RV.one _)) ?_);refine Aq (Fp results164 _ _ (w.heap.size+1) ⟨2,bs,none,0,0⟩ k.out rfl (AC _ _ _ _ _ _ U.out)) rfl ?_;exact⟨Below.setRow ae.out (by omega) _,⟨2,bs,none,0,0⟩,rfl,rfl,rfl,ak.out,k.out,Fx _ _⟩
   ·rw[Ae A]at b;subst b;go_wp2_with (first|refine A5 rfl 118 _ _ rfl _ rz.cells.toArray rfl rfl 118 _ d.out.row (CD rfl) (CL rfl) (Am (RV.one _)) ?_);refine Aq (Fp results164 _ _ (w.heap.size+1) rz rfl rfl (AC _ _ _ _ _ _ d.out.row)) rfl ?_;exact⟨Below.setRow d.out.bel (by omega) _,rz,rfl,rfl⟩
end
end Go.Proofs.YtkdlocloepbmcaaGreat
