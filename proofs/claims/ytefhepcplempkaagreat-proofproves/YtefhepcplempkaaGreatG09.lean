/- The plain law beneath: what Sum tells of a Hash that has taken some bytes is the document's digest of them, whatever they are. -/
import Derived.Test.YtefhepcplempkaaGreatAK
import Derived.Test.YtefhepcplempkaaGreatG08
import Derived.Test.YtefhepcplempkaaGreatG07
import Derived.Test.YtefhepcplempkaaGreatG01
set_option linter.unusedVariables false
set_option maxRecDepth 100000
set_option maxHeartbeats 4000000
open Go.Proofs.Tryz Go.RowKit
namespace Go.Proofs.YtefhepcplempkaaGreat.Di
theorem DH(xs ys:List Int)(p q:Nat):∀k,(∀j,j<k->xs.getD (p+j) 0=ys.getD (q+j) 0)->wd xs p k=wd ys q k
 |0,_=>rfl
 |k+1,h=>by
  unfold wd;rw[DH xs ys p q k (λj hj=>h j (by omega)),h k (by omega)]
theorem Se(bs:List Int):∀k,k<=8->wfold bs k=⟨wd bs 0 k,0,0,0⟩
 |0,_=>rfl
 |k+1,h=>by
  show wstep (wfold bs k) k (bs.getD k 0)=_;rw[Se bs k (by omega)];unfold wstep;rw[Ai (by omega)];show _=S4.mk (or8 (wd bs 0 k) (bs.getD (0+k) 0)) 0 0 0;rw[AM]
theorem Sf(bs:List Int):∀k,k<=8->wfold bs (8+k)=⟨wd bs 0 8,wd bs 8 k,0,0⟩
 |0,_=>Se bs 8 (by omega)
 |k+1,h=>by
  show wstep (wfold bs (8+k)) (8+k) (bs.getD (8+k) 0)=_;rw[Sf bs k (by omega)];unfold wstep;rw[Ae (by omega),Ai (by omega)];rfl
theorem Sg(bs:List Int):∀k,k<=8->wfold bs (16+k)=⟨wd bs 0 8,wd bs 8 8,wd bs 16 k,0⟩
 |0,_=>Sf bs 8 (by omega)
 |k+1,h=>by
  show wstep (wfold bs (16+k)) (16+k) (bs.getD (16+k) 0)=_;rw[Sg bs k (by omega)];unfold wstep;rw[Ae (by omega),Ae (by omega),Ai (by omega)];rfl
theorem Sh(bs:List Int):∀k,k<=8->wfold bs (24+k)=⟨wd bs 0 8,wd bs 8 8,wd bs 16 8,wd bs 24 k⟩
 |0,_=>Sg bs 8 (by omega)
 |k+1,h=>by
  show wstep (wfold bs (24+k)) (24+k) (bs.getD (24+k) 0)=_;rw[Sh bs k (by omega)];unfold wstep;rw[Ae (by omega),Ae (by omega),Ae (by omega)];rfl
theorem Gg(bs:List Int):words bs=⟨wd bs 0 8,wd bs 8 8,wd bs 16 8,wd bs 24 8⟩:=Sh bs 8 (by omega)
theorem Ei(P:List Int)(p j:Nat)(hj:j<32):((P.drop p).take 32).getD j 0=P.getD (p+j) 0:=by
 simp[List.getD,hj]
theorem Vn(P:List Int)(p:Nat):wordsAt P p=words ((P.drop p).take 32):=by
 rw[Gg];unfold wordsAt
 rw[DH P ((P.drop p).take 32) p 0 8 (λj hj=>by rw[Ei P p _ (by omega),AM]),DH P ((P.drop p).take 32) (p+8) 8 8 (λj hj=>by rw[Ei P p _ (by omega),Cz]),
  DH P ((P.drop p).take 32) (p+16) 16 8 (λj hj=>by rw[Ei P p _ (by omega),Cz]),DH P ((P.drop p).take 32) (p+24) 24 8 (λj hj=>by rw[Ei P p _ (by omega),Cz])]
theorem Vo(n:Int)(c:Int)(h0:0<=n)(h1:n<18446744073709551616)(hc:0<c):(n/(c*256)*256+n/c%256)%18446744073709551616=n/c:=by
 have e:n/(c*256)=n/c/256:=(Int.ediv_ediv_of_nonneg (by omega)).symm;have h2:0<=n/c:=Int.ediv_nonneg h0 (by omega);have h3:n/c<=n:=Int.ediv_le_self _ h0;rw[e];omega
theorem Vp(L:List Int)(n:Nat)(hn:n<18446744073709551616)(h:∀k,k<8->L.getD (24+k) 0=(n:Int)/2^(56-8*k)%256):wd L 24 8=n:=by
 have hi0:(0:Int)<=n:=by omega
 have hi1:(n:Int)<18446744073709551616:=by omega
 have st:∀k(c:Int),k<8->(2:Int)^(56-8*k)=c->0<c->wd L 24 k=(n:Int)/(c*256)->wd L 24 (k+1)=(n:Int)/c:=by
  intro k c hk he hc hw;show or8 (wd L 24 k) (L.getD (24+k) 0)=_;rw[hw,h k hk,he];unfold or8 wr;rw[C0];exact Vo n c hi0 hi1 hc
 have w0:wd L 24 0=(n:Int)/(72057594037927936*256):=by
  show(0:Int)=_;omega
 have w1:=st 0 72057594037927936 (by omega) (by decide) (by omega) w0;have w2:=st 1 281474976710656 (by omega) (by decide) (by omega) w1;have w3:=st 2 1099511627776 (by omega) (by decide) (by omega) w2;have w4:=st 3 4294967296 (by omega) (by decide) (by omega) w3;have w5:=st 4 16777216 (by omega) (by decide) (by omega) w4;have w6:=st 5 65536 (by omega) (by decide) (by omega) w5;have w7:=st 6 256 (by omega) (by decide) (by omega) w6;have w8:=st 7 1 (by omega) (by decide) (by omega) w7;rw[w8];omega
theorem Fw(xs ys:List Int)(j:Nat)(h:j<xs.length):(xs++ys).getD j 0=xs.getD j 0:=by
 rw[List.getD,List.getD,AV h]
theorem GU(xs ys:List Int)(j:Nat)(h:xs.length<=j):(xs++ys).getD j 0=ys.getD (j-xs.length) 0:=by
 rw[List.getD,List.getD,AS h]
theorem IV(m j:Nat):(List.replicate m (0:Int)).getD j 0=0:=by
 rw[List.getD,List.getElem?_replicate];split<;>rfl
theorem Tq(all:List Int)(j:Nat)(h:j<all.length):(padded all).getD j 0=all.getD j 0:=by
 unfold padded;rw[Fw _ _ _ (by simp;omega),Fw _ _ _ (by simp;omega),Fw _ _ _ h]
theorem OX(all:List Int):(padded all).getD all.length 0=128:=by
 unfold padded;rw[Fw _ _ _ (by simp<;>omega),Fw _ _ _ (by simp),GU _ _ _ (Aa _),Cc];rfl
theorem Ii(all:List Int)(j:Nat)(h1:all.length<j)(h2:j<all.length+1+zc all.length):(padded all).getD j 0=0:=by
 unfold padded;rw[Fw _ _ _ (by simp;omega),GU _ _ _ (by simp;omega),IV]
theorem K5(all:List Int)(k:Nat)(hk:k<8):(padded all).getD (all.length+1+zc all.length+k) 0=(all.length:Int)/2^(56-8*k)%256:=by
 unfold padded;rw[GU _ _ _ (by simp;omega)];have e:all.length+1+zc all.length+k-(all++[128]++List.replicate (zc all.length) 0).length=k:=by
  rw[Ab,Ab,Bo];show all.length+1+zc all.length+k-(all.length+1+zc all.length)=k;omega
 rw[e];simp[len8,List.getD,hk]
theorem MT(f:Nat)(tl:List Int)(hl:tl.length=32)(hf:f<32)(j:Nat)(hj:j<32):(lastOf f tl).getD j 0=if j<f then tl.getD j 0 else if j=f then 128 else 0:=by
 unfold lastOf;rw[List.getD,List.getElem?_set];have e:(List.take f tl).length=f:=by rw[Am];omega
 by_cases h1:f=j
 ·subst h1;rw[Ai rfl,Ai (by rw[Ab,e,Bo];omega),Ae (by omega),Ai rfl];rfl
 ·rw[Ae h1,<-List.getD];by_cases h2:j<f
  ·rw[Ai h2,Fw _ _ _ (by omega),List.getD,List.getD,AO h2]
  ·rw[Ae h2,Ae (λh=>h1 h.symm),GU _ _ _ (by omega),IV]
theorem OY(P:List Int):∀i,stOf P i=stP P i
 |0=>rfl
 |i+1=>by
  show mix (stOf P i) (wordsAt P (32*i))=mix (stP P i) (words ((P.drop (32*i)).take 32));rw[OY P i,Vn]
theorem Xn(all:List Int)(s:S4)(tl:List Int)(n:Nat)(h:Inv all s tl n)(hn:n<18446744073709551616):finS s tl n=stOf (padded all) ((padded all).length/32):=by
 have hnl:=h.hn;have hl:=h.hl;obtain⟨q,hq⟩:∃q,n/32=q:=⟨_,rfl⟩;obtain⟨f,hf⟩:∃f,n%32=f:=⟨_,rfl⟩;have hnq:n=32*q+f:=by omega
 have hf32:f<32:=by omega
 have hz:zc n=(55-f)%32:=by unfold zc;rw[hf]
 have htk:∀j,j<f->(padded all).getD (32*q+j) 0=tl.getD j 0:=by
  intro j hj;rw[Tq all _ (by omega)];have e:=h.ht;rw[hf,hq]at e;have e2:(tl.take f).getD j 0=(all.drop (32*q)).getD j 0:=by rw[e]
  rw[List.getD,List.getD,AO hj,Cn]at e2;rw[List.getD,List.getD];exact e2.symm
 have hmk:(padded all).getD (32*q+f) 0=128:=by rw[<-hnq,hnl];exact OX all
 have hS:stP (padded all) q=s:=by
  rw[h.hs,hq];unfold padded;rw[A9,A9];exact Fv all _ q (by omega)
 have hpl:=Gy all;rw[<-hnl]at hpl;rw[OY];unfold finS;rw[hf];by_cases h24:f<24
 ·rw[Ai h24];have hzc:zc n=23-f:=by rw[hz];omega
  rw[show(padded all).length/32=q+1 from by rw[hpl,hzc];omega];show _=mix (stP (padded all) q) (words (((padded all).drop (32*q)).take 32));rw[hS];refine Au (mix s) ?_;have hp:∀j,j<24->(lastOf f tl).getD j 0=(((padded all).drop (32*q)).take 32).getD j 0:=by
   intro j hj;rw[Ei _ _ _ (by omega),MT f tl hl hf32 j (by omega)];by_cases h1:j<f
   ·rw[Ai h1,htk j h1]
   ·rw[Ae h1];by_cases h2:j=f
    ·rw[Ai h2,h2,hmk]
    ·rw[Ae h2,Ii all _ (by omega) (by rw[<-hnl,hzc];omega)]
  have hd:wd (((padded all).drop (32*q)).take 32) 24 8=n:=by
   refine Vp _ n hn λk hk=>?_;rw[Ei _ _ _ (by omega)];have e:=K5 all k hk;rw[<-hnl,hzc]at e;rw[show 32*q+(24+k)=n+1+(23-f)+k from by omega];exact e
  rw[Gg,Gg (((padded all).drop (32*q)).take 32),hd];rw[DH (lastOf f tl) _ 0 0 8 (λj hj=>hp (0+j) (by omega)),DH (lastOf f tl) _ 8 8 8 (λj hj=>hp (8+j) (by omega)),DH (lastOf f tl) _ 16 16 8 (λj hj=>hp (16+j) (by omega))]
 ·rw[Ae h24];have hzc:zc n=55-f:=by rw[hz];omega
  rw[show(padded all).length/32=q+1+1 from by rw[hpl,hzc];omega];show _=mix (mix (stP (padded all) q) (words (((padded all).drop (32*q)).take 32))) (words (((padded all).drop (32*(q+1))).take 32));rw[hS];have hp:∀j,j<32->(lastOf f tl).getD j 0=(((padded all).drop (32*q)).take 32).getD j 0:=by
   intro j hj;rw[Ei _ _ _ hj,MT f tl hl hf32 j hj];by_cases h1:j<f
   ·rw[Ai h1,htk j h1]
   ·rw[Ae h1];by_cases h2:j=f
    ·rw[Ai h2,h2,hmk]
    ·rw[Ae h2,Ii all _ (by omega) (by rw[<-hnl,hzc];omega)]
  have e1:words (lastOf f tl)=words (((padded all).drop (32*q)).take 32):=by
   rw[Gg,Gg (((padded all).drop (32*q)).take 32)];rw[DH (lastOf f tl) _ 0 0 8 (λj hj=>hp (0+j) (by omega)),DH (lastOf f tl) _ 8 8 8 (λj hj=>hp (8+j) (by omega)),DH (lastOf f tl) _ 16 16 8 (λj hj=>hp (16+j) (by omega)),DH (lastOf f tl) _ 24 24 8 (λj hj=>hp (24+j) (by omega))]
  rw[e1];refine Au (mix _) ?_;have hp2:∀j,j<24->(List.replicate 32 (0:Int)).getD j 0=(((padded all).drop (32*(q+1))).take 32).getD j 0:=by
   intro j hj;rw[Ei _ _ _ (by omega),IV,Ii all _ (by omega) (by rw[<-hnl,hzc];omega)]
  have hd:wd (((padded all).drop (32*(q+1))).take 32) 24 8=n:=by
   refine Vp _ n hn λk hk=>?_;rw[Ei _ _ _ (by omega)];have e:=K5 all k hk;rw[<-hnl,hzc]at e;rw[show 32*(q+1)+(24+k)=n+1+(55-f)+k from by omega];exact e
  rw[Gg,Gg (((padded all).drop (32*(q+1))).take 32),hd];rw[DH (List.replicate 32 0) _ 0 0 8 (λj hj=>hp2 (0+j) (by omega)),DH (List.replicate 32 0) _ 8 8 8 (λj hj=>hp2 (8+j) (by omega)),DH (List.replicate 32 0) _ 16 16 8 (λj hj=>hp2 (16+j) (by omega))]
end Go.Proofs.YtefhepcplempkaaGreat.Di
namespace Go.Proofs.YtefhepcplempkaaGreat.Di
theorem Qt(g:Nat)(a:Option Addr)(cap:Nat)(s:S4)(tl:List Int)(n:Nat)(w:World)(hl:tl.length=32)(hn:n<9223372036854775808)(hg:w.heap[g]?=some (.cells (HC s tl n) 115)):
 Calls prog 63 #[.pointer (some ⟨g,0,none⟩), .slice a 0 cap] w λe w'=>e= .returned (.tuple #[])/\w'=w.setCell ⟨g,36,none⟩ (.int .i64 n):=by
 obtain⟨xa,xb,xc,xd⟩:=s;obtain⟨c0,c1,c2,c3,c36,cf⟩:=FK hg hl;clear hg;obtain⟨f,hff⟩:∃f,n%32=f:=⟨_,rfl⟩;have hmod:(n:Int)%32=(f:Int):=by omega
 have hf2:f<32:=by omega
 have hf3:(f:Int)<32:=by omega
 have hf4:(f:Int)<=32:=by omega
 clear hff;by_cases hf:f=0
 ·subst hf;go_enter func63,ntmps63;go_wp2_with fail;refine wp_loop_rounds 1 ?_;rw[Ds];go_wp2_with (first|(refine wpList_copy_nothing rfl _ _ 23 23 rfl 5 underlying23 (by kernel_rfl) _ _ _ _ _ _ rfl rfl (by simp) ?_))
  go_end0
  exact⟨rfl,rfl⟩
 ·have hf0:(0:Int)<(f:Int):=by omega
  go_enter func63,ntmps63;go_wp2_with (first|(refine wpList_copy_nothing rfl _ _ 23 23 rfl 5 underlying23 (by kernel_rfl) _ _ _ _ _ _ rfl rfl (by simp) ?_))
  go_returns
  exact⟨rfl,rfl⟩
def In2(g:Nat)(w:World)(a:Option Addr)(len cap:Nat)(bs:List Int):Prop:=
 (len=0/\bs=[])∨∃gb off,a=some ⟨gb,off,none⟩/\bs.length=len/\0<len/\len<=cap/\cap<=maxLen/\gb≠g/\∀j,j<bs.length->w.cell? ⟨gb,off+j,none⟩=some (.int .u8 (bs.getD j 0))
theorem Ts(g:Nat)(a:Option Addr)(len cap:Nat)(s:S4)(tl:List Int)(n:Nat)(all bs:List Int)(w:World)(hinv:Inv all s tl n)(hin:In2 g w a len cap bs)(hsum:n+len<9223372036854775808)
 (hb:∀x∈bs,0<=x/\x<256) (hg:w.heap[g]?=some (.cells (HC s tl n) 115)):
 Calls prog 63 #[.pointer (some ⟨g,0,none⟩), .slice a len cap] w λe w'=>e= .returned (.tuple #[])/\(∃s' tl',Inv (all++bs) s' tl' (n+len)/\w'.heap[g]?=some (.cells (HC s' tl' (n+len)) 115))/\Touch g w w':=by
 rcases hin with⟨rfl,rfl⟩|⟨gb,off,rfl,h1,h2,h3,h4,h5,h6⟩
 ·refine(Qt g a cap s tl n w hinv.hl (by omega) hg).mono ?_;rintro e w'⟨rfl,rfl⟩;refine⟨rfl,⟨s,tl,by rw[A4];exact hinv,?_⟩,Touch.setCell _ _ _ _⟩;have:=AX w g 36 _ 115 (.int .i64 n) hg;rw[J6 _ _ _ _ hinv.hl]at this;exact this
 ·obtain⟨xa,xb,xc,xd⟩:=s;exact Qr g gb off len cap xa xb xc xd tl n all bs w hinv h1 h2 h3 h4 hsum hb h5 hg h6
def dref(bs:List Int):List Int:=dig (stOf (padded bs) ((padded bs).length/32))
theorem dref_len(bs:List Int):(dref bs).length=32:=by simp[dref,dig]
theorem Xo:Inv [] s0 (List.replicate 32 0) 0:=⟨rfl,rfl,Bo,rfl,K3⟩
theorem Xp(g:Nat)(s:S4)(tl:List Int)(n:Nat)(all:List Int)(w:World)(h:Inv all s tl n)(hn:n<9223372036854775808)(hg:w.heap[g]?=some (.cells (HC s tl n) 115)):
 Calls prog 64 #[.pointer (some ⟨g,0,none⟩)] w λe w'=>e= .returned (.agg (B8 (dref all)))/\Below w.heap.size w w':=by
 obtain⟨xa,xb,xc,xd⟩:=s;have:=Xg g xa xb xc xd tl n h.hl h.hb hn w hg;rw[Xn all _ tl n h (by omega)]at this;exact this
def In0(w:World)(a:Option Addr)(len cap:Nat)(bs:List Int):Prop:=
 (len=0/\bs=[])∨∃gb off,a=some ⟨gb,off,none⟩/\bs.length=len/\0<len/\len<=cap/\cap<=maxLen/\∀j,j<bs.length->w.cell? ⟨gb,off+j,none⟩=some (.int .u8 (bs.getD j 0))
theorem In0.at{w w':World}{a:Option Addr}{len cap:Nat}{bs:List Int}{B:Nat}(h:In0 w a len cap bs)(hB:w.heap.size<=B)(hb:Below w.heap.size w w')(g:Nat)(hg:B<=g):In2 g w' a len cap bs:=by
 rcases h with h|⟨gb,off,h1,h2,h3,h4,h5,h7⟩
 ·exact .inl h
 ·have l:gb<w.heap.size:=Af (h7 0 (by omega));exact .inr ⟨gb,off,h1,h2,h3,h4,h5,by omega,λj hj=>(hb.cell (p:=⟨gb,off+j,none⟩) l).trans (h7 j hj)⟩
theorem Touch.below{g N:Nat}{w0 w w':World}(h:Below N w0 w)(t:Touch g w w')(hN:N<=g)(hs:N<=w.heap.size):Below N w0 w':=
 h.trans ⟨t.os,t.tape,t.output,t.size,λk hk=>t.block k (by omega) (by omega)⟩
theorem of_any(a:Option Addr)(len cap:Nat)(bs:List Int)(w:World)(hin:In0 w a len cap bs)(hlen:len=bs.length)(hb:∀x∈bs,0<=x/\x<256)(hmax:len<9223372036854775808):
 Calls prog 39 #[.slice a len cap] w λe w'=>e= .returned (.agg (B8 (dref bs)))/\Below w.heap.size w w':=by
 have HIN:=ZQ hin;have HB:=ZQ hb;have HL:=ZQ hlen;clear hin hb hlen;go_enter func39,ntmps39;go_wp2_with fail;refine(To _).mono ?_;rintro e w1⟨⟨xa,xb,xc,xd,rfl,H⟩,hb1⟩;have HI:Hid ((prog.info? 115).map (·.size)=some (HC ⟨xa,xb,xc,xd⟩ (List.replicate 32 0) 0).size):=by unfold Hid;rw[NU];kernel_rfl
 go_wp2_with (first|refine A7 rfl 115 _ _ rfl _ (HC ⟨xa,xb,xc,xd⟩ (List.replicate 32 0) 0) rfl (by rw[Xm];rfl) 115 _ (Aj w1 _) HI.out (by rw[NU];rfl) (YN _ _ _) ?_);have hN:w1.heap[w.heap.size]?=some (.cells (B8 (List.replicate 32 0)) 35):=Below.row hb1 (Aj w _);have l0:=lt_of_get hN;have hb2:Below w.heap.size w w1:=((Ak _ _).alloc (Aa _) _).trans (hb1.mono (by simp));clear hb1;refine gen_w (p:=λv=>Calls _ _ _ v _) (q:=λv=>OfH w.heap.size w1.heap.size w v ⟨xa,xb,xc,xd⟩ (List.replicate 32 0) 0) ⟨?_,?_,?_,l0⟩ ?_
 ·rw[Bf _ _ _ _ (by omega),Az _ _ _ l0];exact hN
 ·exact AE _ _ _ _ _ _ (Aj w1 _)
 ·exact Below.setRow (hb2.alloc (by omega) _) (by omega) _
 clear hN hb2;intro v F;have hinv:Inv [] ⟨xa,xb,xc,xd⟩ (List.replicate 32 0) 0:=by rw[H.out];exact Xo
 refine(Ts _ a len cap _ _ 0 [] bs v hinv (HIN.out.at (Aa _) F.bel _ (EM l0)) (by omega) HB.out F.hg).mono ?_;rintro e v2⟨rfl,⟨s2,tl2,hinv2,hg2⟩,t2⟩;rw[AL,AM]at hinv2;rw[AM]at hg2;have h02:v2.heap[w.heap.size]?=some (.cells (B8 (List.replicate 32 0)) 35):=(t2.block _ (lt_of_get F.h0) (by omega)).trans F.h0;have hb3:=Touch.below F.bel t2 (EM l0) (EM (lt_of_get F.h0));clear F t2 HI hinv;have HV:=ZQ (And.intro hinv2 hg2);have H02:=ZQ h02;clear hinv2 hg2 h02 H;go_wp2_with fail;refine(Xp _ s2 tl2 len bs v2 HV.out.1 hmax HV.out.2).mono ?_;rintro e v3⟨rfl,hb4⟩;have h0:=Below.row hb4 H02.out;have hbel:=hb3.trans (hb4.mono (by have:=lt_of_get H02.out;omega));have HI2:Hid ((prog.info? 35).map (·.size)=some (B8 (dref bs)).size):=by unfold Hid;rw[B8_size,dref_len];kernel_rfl
 have hdl:=dref_len bs;have HH:=ZQ h0;clear h0 hb4 HV H02;generalize hds:dref bs=ds at HI2 hdl⊢;have HD:=ZQ hds;clear hds;go_wp2_with (first|refine A7 rfl 35 _ _ rfl _ (B8 ds) rfl rfl 35 _ HH.out HI2.out (by rw[B8_size,B8_size,hdl,Bo]) (B8_one _) ?_);refine Aq (Bg results39 _ _ w.heap.size 35 (B8 ds) (0,0) _ rfl (AE _ _ _ _ _ _ HH.out) underlying35 rfl HI2.out) rfl ?_;exact⟨by rw[HD.out],Below.setRow hbel (Aa _) _⟩
end Go.Proofs.YtefhepcplempkaaGreat.Di
namespace Go.Proofs.YtefhepcplempkaaGreat
open Di (dref)
theorem ZE{w v:World}{a:Option Addr}{n c:Nat}{b:List Int}(h:Ag w a n c b)(hb:Below w.heap.size w v):Ag v a n c b:=h.at hb
theorem Lg(a:Option Addr)(n c:Nat)(b:List Int)(w:World)(h:Ag w a n c b)(hn:n<=140737488351232):Calls prog 39 #[.slice a n c] w λe w'=>e= .returned (.agg (B8 (dref b)))/\Below w.heap.size w w':=
 Di.of_any a n c b w h.i h.l.symm h.b (by omega)
theorem LQ(a:Option Addr)(n c:Nat)(b:List Int)(w:World)(h:Ag w a n c b)(hn:n<=140737488351232):Calls prog 41 #[.slice a n c] w λe w'=>e= .returned (.agg (B8 (dref b)))/\Below w.heap.size w w':=
 Di.rof_any a n c b w (h.i.inB h.nil) h.b (by rw[h.l];exact hn)
theorem dref_len(b:List Int):(dref b).length=32:=Di.dref_len b
theorem J7(b:List Int):isB (dref b):=λx hx=>by
 unfold dref Di.dig at hx;obtain⟨i,_,rfl⟩:=BD.1 hx;unfold Di.bt;omega
end Go.Proofs.YtefhepcplempkaaGreat
namespace Go.Proofs.YtefhepcplempkaaGreat
variable {y : RV} {w : World}
theorem FH{fn:Func}{p u:Tmp}(h:fn.results=#[.cell p 65, .tmp u])(tmps:Array Value)(w:World)(g:Nat)(y:RV)(hl:y.d.length=32)(hp:tmps.getD p undef= .pointer (some ⟨g,0,none⟩))(hg:w.heap[g]?=some (.cells y.cells.toArray 65)):
 (results fn tmps).run prog w= .ok (.tuple #[.agg y.cells.toArray,tmps.getD u undef]) w:=by
 have hp':tmps[p]?.getD undef= .pointer (some ⟨g,0,none⟩):=by simpa using hp
 have hr:=C9 (P:=prog) w g 65 65 y.cells.toArray (0,0) _ hg underlying65 rfl (by rw[DF,Bd,RV.len hl]);simp[results,h,hp',asAddr,hr]
def RPost(w:World)(o:Option PR):Ending->World->Prop:=λe w'=>Below w.heap.size w w'/\
 match o with
 |none=>∃y:RV,y.d.length=32/\e= .returned (.tuple #[.agg y.cells.toArray, .bool false])
 |some r=>∃y:RV,e= .returned (.tuple #[.agg y.cells.toArray, .bool true])/\RefAt (Own w.heap.size w') w' y r
theorem FP(K:Nat->Prop)(w:World):AgK K w none 0 0 []:=⟨⟨.inl ⟨rfl,rfl⟩,λ_=>⟨rfl,rfl⟩,rfl,λx hx=>by cases hx⟩,by omega,λg off e=>by cases e⟩
theorem J8:isB z32:=λx hx=>by rw[z32,Dk]at hx;omega
theorem Fx(K:Nat->Prop)(w:World):RefAt K w rz r0:=⟨rfl,rfl,J8,rfl,FP K w⟩
theorem DA(h:y.d.length=32):(rz.cells.toArray:Array Value).size=y.cells.toArray.size:=by rw[Bd,Bd,RV.len h];rfl
theorem Dn(h:y.d.length=32):(prog.info? 65).map (·.size)=some y.cells.toArray.size:=by rw[DF,Bd,RV.len h]
structure Rr(w v:World)(x:V):Prop where
 row:v.heap[w.heap.size+1]?=some (.cells rz.cells.toArray 65)
 bx:B1 w.heap.size v x
 bel:Below w.heap.size w v
 sz:w.heap.size+2<=v.heap.size
theorem Rr.go{v v':World}{x:V}(h:Rr w v x)(hb:Below v.heap.size v v'):Rr w v' x:=⟨Below.row hb h.row,h.bx.go hb,below_go h.bel hb,Ar h.sz hb.size⟩
theorem Vq(w:World)(x:V):Rr w ((w.alloc (.cells #[.bool x.l, .slice x.ba x.bn x.bc, .slice x.ia x.m x.ic] 109)).alloc (.cells rz.cells.toArray 65)) x:=by
 have s1:(w.alloc (.cells #[.bool x.l, .slice x.ba x.bn x.bc, .slice x.ia x.m x.ic] 109)).heap.size=w.heap.size+1:=by simp
 refine⟨?_,(EP w x).alloc _,below_go (below_new w _) (below_new _ _),by simp⟩;have:=Aj (w.alloc (.cells #[.bool x.l, .slice x.ba x.bn x.bc, .slice x.ia x.m x.ic] 109)) (.cells rz.cells.toArray 65);rwa [s1]at this
theorem Keep.setRow{base base' g:Nat}{v:World}{C:Array Value}(hg:g<base)(hb:base'<=base):Keep (Own base v) (Own base' (v.setRow g C)) v (v.setRow g C):=λk hK hk=>by
 have e:(v.setRow g C).heap[k]?=v.heap[k]?:=Bf _ _ _ _ (by have:=hK.1;omega);exact⟨e,Ar hb hK.1,λo=>(BM (w:=v) e).trans (hK.2 o)⟩
theorem Vr{N sc:Nat}{ad:Addr}{bs:List Int}(hN:w.heap[N]?=some (.cells (RV.cells ⟨2,z32,none,0,0⟩).toArray 65))(hl:bs.length=32)(hsrc:∀j v,(bs.map (Value.int .u8))[j]?=some v->w.cell? (ad.add j)=some v)(ty:TypeId):
 (Builtin.copy_ #[23,23] ty #[.slice (some ⟨N,1,none⟩) 32 32, .slice (some ad) 32 sc]).run prog w= .ok (.int .i64 32) (w.setRow N (RV.cells ⟨2,bs,none,0,0⟩).toArray):=by
 have h:=run_copy_row prog w 23 23 ty 5 N 1 32 32 ad 32 sc (RV.cells ⟨2,z32,none,0,0⟩).toArray 65 (bs.map (Value.int .u8)) underlying23 (by kernel_rfl) hN (by rw[AZ,hl];rfl) hsrc (by rw[AZ,hl];decide) (B8_one2 _);rw[h,AZ,hl];rfl
theorem MU(t:T)(x:V)(w:World)(h:Lies w t x):
 Calls prog 155 #[.agg #[.bool x.l, .slice x.ba x.bn x.bc, .slice x.ia x.m x.ic]] w (RPost w (refOfP t)):=by
 obtain⟨l,bs,its⟩:=t;obtain⟨hl,hag,-⟩:=lies_eq.1 h;have hbn:x.bn<=140737488351232:=(lies_eq.1 h).2.2.2.2.2.1.1;subst hl;have HX:=ZQ h;have HAG:=ZQ hag;obtain⟨res,hres⟩:∃res,refOfP (.mk x.l bs its)=res:=⟨_,rfl⟩;rw[hres];have hres:(if x.l=true then(if(mP (.mk x.l bs its)).2=0 then some (⟨1,z32,enc (.mk x.l bs its)⟩:PR)else none)else if bs.length=0 then some r0 else if bs.length=32 then some ⟨2,bs,[]⟩else none)=res:=hres;rw[hag.l]at hres;have HRES:=ZQ hres;have HRR:=ZQ (Vq w x);clear h hag hres;go_enter func155,ntmps155;go_upto_region 1 with fail;refine gen_w (p:=λv=>Code.wp _ _ _ _ v) (q:=λv=>Rr w v x) HRR.out ?_;clear HRR;intro v RR;have c0:=RR.bx.c0;have c1:=RR.bx.c1;have c2:=RR.bx.c2;have HRR:=ZQ RR;clear RR;by_cases hxl:x.l=true
 ·have HE:=ZQ (IT (.mk x.l bs its) x v (Ci HRR.out.bel _ x HX.out));have HXL:=ZQ hxl;obtain⟨xl,exl⟩:∃xl,x.l=xl:=⟨_,rfl⟩;have hres:=HRES.out;rw[Ai hxl]at hres;rw[hxl]at c0;by_cases hm:(mP (.mk x.l bs its)).2=0
  ·rw[Ai hm]at hres;subst hres;have hp:=G7 hm;have hle:=UX hm;rw[hp]at HE;have HHLE:=ZQ hle;rw[show(((enc (T.mk x.l bs its),0):List Int×Nat).2:Int)=0 from rfl]at HE;rw[show((enc (T.mk x.l bs its),0):List Int×Nat).1=enc (T.mk x.l bs its)from rfl]at HE;generalize hen:enc (T.mk x.l bs its)=en at HE HHLE⊢;have hEx:=HE.out;rw[hxl]at hEx;have HE2:=ZQ hEx;have HEN:=ZQ hen;clear hp hle hm hen HE HRES hEx exl;go_wp2_with fail;refine HE2.out.mono ?_;rintro e w1⟨⟨a,n,c,rfl,hag,hfr⟩,hb⟩;have R1:=HRR.out.go hb
   have HAGK:=ZQ (show AgK (Own (w.heap.size+2) w1) w1 a n c en from⟨hag,by have:=hag.l;have:=HHLE.out;omega,λg off e h0=>by
    have:=hfr g off e h0;exact⟨by have:=HRR.out.sz;omega,this.2⟩⟩)
   have HR1:=ZQ R1;have hl32:z32.length=32:=rfl;clear hag hfr hb R1;go_wp2_with (first|refine A7 rfl 65 _ _ rfl _ (RV.cells ⟨1,z32,a,n,c⟩).toArray rfl rfl 65 _ HR1.out.row (Dn rfl) (DA rfl) (Al (RV.one _)) ?_);refine Aq (FH results155 _ _ (w.heap.size+1) ⟨1,z32,a,n,c⟩ rfl rfl (AE _ _ _ _ _ _ HR1.out.row)) rfl ?_;exact⟨Below.setRow HR1.out.bel (by omega) _,⟨1,z32,a,n,c⟩,rfl,rfl,rfl,J8,rfl,by rw[HEN.out];exact HAGK.out.go (Keep.setRow (base:=w.heap.size+2) (base':=w.heap.size) (g:=w.heap.size+1) (by omega) (by omega))⟩
  ·rw[Ae hm]at hres;subst hres;have hp:=NP hm;rw[hp]at HE;obtain⟨er,her⟩:∃er,(mP (.mk x.l bs its)).2=er:=⟨_,rfl⟩;rw[her]at HE hm;have hee:((er:Int)==0)=false:=(by rw[Bp];omega);have hEx:=HE.out;rw[hxl]at hEx;have HE2:=ZQ hEx;clear hp hm her HE HRES hEx exl;go_wp2_with fail;refine HE2.out.mono ?_;rintro e w1⟨⟨a,n,c,rfl,hag,hfr⟩,hb⟩;have HR1:=ZQ (HRR.out.go hb);clear hag hfr hb;go_wp2_with (first|refine A7 rfl 65 _ _ rfl _ (RV.cells ⟨1,z32,a,n,c⟩).toArray rfl rfl 65 _ HR1.out.row (Dn rfl) (DA rfl) (Al (RV.one _)) ?_);refine Aq (FH results155 _ _ (w.heap.size+1) ⟨1,z32,a,n,c⟩ rfl rfl (AE _ _ _ _ _ _ HR1.out.row)) rfl ?_;exact⟨Below.setRow HR1.out.bel (by omega) _,⟨1,z32,a,n,c⟩,rfl,rfl⟩
 ·have hres:=HRES.out;rw[Ae hxl]at hres;have hxf:x.l=false:=by simpa using hxl
  rw[hxf]at c0;clear hxf hxl HRES HX;by_cases h0:x.bn=0
  ·rw[Ai h0]at hres;subst hres;go_wp2_with (first|refine A7 rfl 65 _ _ rfl _ rz.cells.toArray rfl rfl 65 _ HRR.out.row (Dn rfl) (DA rfl) (Al (RV.one _)) ?_);refine Aq (FH results155 _ _ (w.heap.size+1) rz rfl rfl (AE _ _ _ _ _ _ HRR.out.row)) rfl ?_;exact⟨Below.setRow HRR.out.bel (by omega) _,rz,rfl,Fx _ _⟩
  ·rw[Ae h0]at hres;by_cases h32:x.bn=32
   ·rw[Ai h32]at hres;subst hres;have hz:=HAG.out;rw[h32]at hz c1;obtain⟨g,off,hba,_,_,hcs⟩:=ag_head hz (by omega);rw[hba]at c1;have HBL:=ZQ hz.l;have HBB:=ZQ hz.b
    have HCS:=ZQ (show∀u,Below w.heap.size w u->∀j z,(bs.map (Value.int .u8))[j]?=some z->u.cell? ((⟨g,off,none⟩:Addr).add j)=some z from λu hu j z hz'=>by
     have hj:j<32:=(by have:=(Aw.1 hz').1;rw[AZ,HBL.out]at this;exact this);rw[BO,AW hu (hcs j hj),<-hz',C6,List.getD,Ac (by rw[HBL.out];exact hj)];rfl)
    have HRB:=ZQ hba;have HR32:=ZQ h32;clear hz hcs h0 h32 hba;go_upto_region 9 with(first|refine A7 rfl 65 _ _ rfl _ (RV.cells ⟨2,z32,none,0,0⟩).toArray rfl rfl 65 _ (Aj _ _) (Dn rfl) (DA rfl) (Al (RV.one _)) ?_);refine gen_w (p:=λv=>Code.wp _ _ _ _ v) (q:=λu=>RBx v.heap.size u ⟨2,z32,none,0,0⟩/\Rr w u x) ⟨⟨AE _ _ _ _ _ _ (Aj _ _),rfl⟩,?_⟩ ?_
    ·refine HRR.out.go (Below.setRow (below_new v _) (Aa _) _)
    rintro u⟨B2,R2⟩;have d1:=R2.bx.c1;rw[show x.ba=some ⟨g,off,none⟩from HRB.out]at d1;rw[HR32.out]at d1;have HCP:=ZQ (Vr (w:=u.drew) (N:=v.heap.size) (sc:=x.bc) B2.row HBL.out (HCS.out _ (R2.bel.drew)));have HB2:=ZQ B2;have HR2:=ZQ R2;have HVS:=ZQ HRR.out.sz;clear B2 R2 c0 c1 c2
    go_frame
    go_cut [] (λu2=>RBx v.heap.size u2 ⟨2,bs,none,0,0⟩/\u2.heap[w.heap.size+1]?=some (.cells rz.cells.toArray 65)/\Below w.heap.size w u2)
    case first=>
     go_region_law (refine step_copy rfl _ _ 23 23 rfl _ _ rfl rfl (HCP.out _) ?_)
     all_goals
      go_wp2_with fail
      go_meet
      exact⟨⟨AE _ _ _ _ _ _ HB2.out.row,HBL.out⟩,(Bf _ _ _ _ (by have:=HVS.out;omega)).trans HR2.out.row,Below.setRow HR2.out.bel.drew (by have:=HVS.out;omega) _⟩
    case rest=>
     obtain⟨B3,r3,b3⟩:=hcut;have HB3:=ZQ B3;have HR3:=ZQ r3;have HL3:=ZQ b3;clear B3 r3 b3;go_wp2_with (first|refine Cy rfl _ rfl v.heap.size 0 rfl ⟨2,bs,none,0,0⟩ HBL.out HB3.out.all ?_|refine A7 rfl 65 _ _ rfl _ (RV.cells ⟨2,bs,none,0,0⟩).toArray rfl rfl 65 _ HR3.out (Dn HBL.out) (DA HBL.out) (Al (RV.one _)) ?_);refine Aq (FH results155 _ _ (w.heap.size+1) ⟨2,bs,none,0,0⟩ HBL.out rfl (AE _ _ _ _ _ _ HR3.out)) rfl ?_;exact⟨Below.setRow HL3.out (by omega) _,⟨2,bs,none,0,0⟩,rfl,rfl,rfl,HBB.out,HBL.out,FP _ _⟩
   ·rw[Ae h32]at hres;subst hres;go_wp2_with (first|refine A7 rfl 65 _ _ rfl _ rz.cells.toArray rfl rfl 65 _ HRR.out.row (Dn rfl) (DA rfl) (Al (RV.one _)) ?_);refine Aq (FH results155 _ _ (w.heap.size+1) rz rfl rfl (AE _ _ _ _ _ _ HRR.out.row)) rfl ?_;exact⟨Below.setRow HRR.out.bel (by omega) _,rz,rfl,rfl⟩
end Go.Proofs.YtefhepcplempkaaGreat
namespace Go.Proofs.YtefhepcplempkaaGreat.Ni
theorem unpack_any(a:Option Addr)(n c:Nat)(b:List Int)(w:World)(h:Ag w a n c b)(hn:2*n<=140737488355328):
 Calls prog 154 #[.slice a n c] w λe w'=>(∃a' m,e= .returned (.tuple #[.slice a' m m, .bool (unpP b).2.1, .int .i64 ((unpP b).2.2:Nat)])/\Cut w' w.heap.size a' m (unpP b).1)/\Below w.heap.size w w':=by
 have hl:=h.l;by_cases h0:n=0
 ·subst h0;have e:b=[]:=A3 hl;subst e;rw[Rz];simp only;clear h hl;go_enter func154,ntmps154;go_wp2_with fail;go_ret3;exact⟨⟨none,0,rfl,ag_nil _,λh=>by omega⟩,Ak _ _⟩
 have hni:((n:Int)==0)=false:=by rw[Bp];omega
 have hnp:(0:Int)<n:=by omega
 obtain⟨g,off,rfl,hnc,hcm,hcs⟩:=ag_head h (by omega);unfold maxLen at hcm;have hcell:=hcs 0 (by omega);rw[CD]at hcell;have hx:=h.b _ (getD_mem (l:=b) (i:=0) (by omega));have hbad:=R8 (b:=b) (by omega);have hgood:=OA (b:=b) (by omega);have hof:=λv(hb:Below w.heap.size w v)=>of_any _ n c b v (h.at hb) hn;have hnl:(nib b).length=2*n:=by rw[nib_len,hl]
 generalize b.getD 0 0=x at*;obtain⟨hx0,hx1⟩:=hx;have hand:=Yb hx0 hx1;have hq0:0<=x/16:=by omega
 have hq1:x/16<256:=by omega
 have HOF:=ZQ hof;have HNL:=ZQ hnl;have hn2:2<=2*n:=by omega
 clear h hl hcs hof hnl;by_cases h3:x/16>3
 ·rw[hbad (.inl h3)];simp only;clear hbad hgood;go_enter func154,ntmps154;go_wp2_with fail
  go_region
  all_goals
   go_wp2_with fail;go_ret3;exact⟨⟨none,0,rfl,ag_nil _,λh=>by omega⟩,(Ak _ _).drew⟩
 have hf:x/16=0∨x/16=1∨x/16=2∨x/16=3:=by omega
 clear h3 hq0 hq1;rcases hf with hf|hf|hf|hf
 ·
  have c1:bits BinOp.and IntKind.u8 0 1=0:=by decide+kernel
  have c2:bits BinOp.and IntKind.u8 0 2=0:=by decide+kernel
  by_cases hs:x%16=0
  ·
   rw[hgood (by unfold badU;omega),Ai (by omega)];simp only;rw[Bb (by omega)];clear hbad hgood;go_enter func154,ntmps154;go_wp2_with fail
   go_region
   all_goals
    go_wp2_with fail;refine(HOF.out _ (Ak _ _).drew).mono ?_;rintro e w1⟨⟨a1,rfl,hcut⟩,hb⟩;have hcal:=Ga a1 (2*n) (2*n) 2 w.heap.size (nib b) w1 (by omega) (Aa _) (by unfold maxLen;omega) (by omega) hcut.ag hcut.own;rw[show((2:Nat):Int)=2 from rfl]at hcal;have HCAL:=ZQ hcal;have HB:=ZQ (((Ak w.heap.size w).drew).trans hb);clear hcal hcut hb;go_wp2_with fail;refine HCAL.out.mono ?_;rintro e w2⟨⟨a2,rfl,hcut⟩,rfl⟩;have HCUT:=ZQ hcut;clear hcut;go_wp2_with fail;go_ret3;exact⟨⟨a2,_,rfl,HCUT.out⟩,HB.out⟩
  ·
   rw[hbad (.inr ⟨by omega,hs⟩)];simp only;clear hbad hgood;have hsb:(x%16 !=0)=true:=(by rw[BT];exact hs);clear hs;go_enter func154,ntmps154;go_wp2_with fail
   go_region
   all_goals
    go_wp2_with fail;go_ret3;exact⟨⟨none,0,rfl,ag_nil _,λh=>by omega⟩,(Ak _ _).drew⟩
 ·
  have c1:bits BinOp.and IntKind.u8 1 1=1:=by decide+kernel
  have c2:bits BinOp.and IntKind.u8 1 2=0:=by decide+kernel
  rw[hgood (by unfold badU;omega),Ae (by omega)];simp only;rw[Bb (by omega)];clear hbad hgood;go_enter func154,ntmps154;go_wp2_with fail
  go_region
  all_goals
   go_wp2_with fail;refine(HOF.out _ (Ak _ _).drew).mono ?_;rintro e w1⟨⟨a1,rfl,hcut⟩,hb⟩;have hcal:=Ga a1 (2*n) (2*n) 1 w.heap.size (nib b) w1 (by omega) (Aa _) (by unfold maxLen;omega) (by omega) hcut.ag hcut.own;rw[show((1:Nat):Int)=1 from rfl]at hcal;have HCAL:=ZQ hcal;have HB:=ZQ (((Ak w.heap.size w).drew).trans hb);clear hcal hcut hb;go_wp2_with fail;refine HCAL.out.mono ?_;rintro e w2⟨⟨a2,rfl,hcut⟩,rfl⟩;have HCUT:=ZQ hcut;clear hcut;go_wp2_with fail;go_ret3;exact⟨⟨a2,_,rfl,HCUT.out⟩,HB.out⟩
 ·
  have c1:bits BinOp.and IntKind.u8 2 1=0:=by decide+kernel
  have c2:bits BinOp.and IntKind.u8 2 2=2:=by decide+kernel
  by_cases hs:x%16=0
  ·
   rw[hgood (by unfold badU;omega),Ai (by omega)];simp only;rw[AT (by omega)];clear hbad hgood;go_enter func154,ntmps154;go_wp2_with fail
   go_region
   all_goals
    go_wp2_with fail;refine(HOF.out _ (Ak _ _).drew).mono ?_;rintro e w1⟨⟨a1,rfl,hcut⟩,hb⟩;have hcal:=Ga a1 (2*n) (2*n) 2 w.heap.size (nib b) w1 (by omega) (Aa _) (by unfold maxLen;omega) (by omega) hcut.ag hcut.own;rw[show((2:Nat):Int)=2 from rfl]at hcal;have HCAL:=ZQ hcal;have HB:=ZQ (((Ak w.heap.size w).drew).trans hb);clear hcal hcut hb;go_wp2_with fail;refine HCAL.out.mono ?_;rintro e w2⟨⟨a2,rfl,hcut⟩,rfl⟩;have HCUT:=ZQ hcut;clear hcut;go_wp2_with fail;go_ret3;exact⟨⟨a2,_,rfl,HCUT.out⟩,HB.out⟩
  ·
   rw[hbad (.inr ⟨by omega,hs⟩)];simp only;clear hbad hgood;have hsb:(x%16 !=0)=true:=(by rw[BT];exact hs);clear hs;go_enter func154,ntmps154;go_wp2_with fail
   go_region
   all_goals
    go_wp2_with fail;go_ret3;exact⟨⟨none,0,rfl,ag_nil _,λh=>by omega⟩,(Ak _ _).drew⟩
 ·
  have c1:bits BinOp.and IntKind.u8 3 1=1:=by decide+kernel
  have c2:bits BinOp.and IntKind.u8 3 2=2:=by decide+kernel
  rw[hgood (by unfold badU;omega),Ae (by omega)];simp only;rw[AT (by omega)];clear hbad hgood;go_enter func154,ntmps154;go_wp2_with fail
  go_region
  all_goals
   go_wp2_with fail;refine(HOF.out _ (Ak _ _).drew).mono ?_;rintro e w1⟨⟨a1,rfl,hcut⟩,hb⟩;have hcal:=Ga a1 (2*n) (2*n) 1 w.heap.size (nib b) w1 (by omega) (Aa _) (by unfold maxLen;omega) (by omega) hcut.ag hcut.own;rw[show((1:Nat):Int)=1 from rfl]at hcal;have HCAL:=ZQ hcal;have HB:=ZQ (((Ak w.heap.size w).drew).trans hb);clear hcal hcut hb;go_wp2_with fail;refine HCAL.out.mono ?_;rintro e w2⟨⟨a2,rfl,hcut⟩,rfl⟩;have HCUT:=ZQ hcut;clear hcut;go_wp2_with fail;go_ret3;exact⟨⟨a2,_,rfl,HCUT.out⟩,HB.out⟩
end Go.Proofs.YtefhepcplempkaaGreat.Ni
namespace Go.Proofs.YtefhepcplempkaaGreat
open Ni (unpP)
variable {fn : Func} {p u : Tmp} {w : World} {P : Nat → Prop} {base g : Nat} {C : Array Value} {y : V}
theorem BW(h:fn.results=#[.cell p 68, .tmp u])(tmps:Array Value)(w:World)(g:Nat)(y:NV)(hl:y.c.d.length=32)(hp:tmps.getD p undef= .pointer (some ⟨g,0,none⟩))(hg:w.heap[g]?=some (.cells y.cells.toArray 68)):
 (results fn tmps).run prog w= .ok (.tuple #[.agg y.cells.toArray,tmps.getD u undef]) w:=by
 have hp':tmps[p]?.getD undef= .pointer (some ⟨g,0,none⟩):=by simpa using hp
 have hr:=C9 (P:=prog) w g 68 68 y.cells.toArray (0,0) _ hg underlying68 rfl (by rw[E7,Bd,NV.len hl]);simp[results,h,hp',asAddr,hr]
theorem GB(h:fn.results=#[.cell p 68, .tmp u]){post:Ending->World->Prop}{Q:Exit->Act->World->Prop}{a:Act}(hQ:bodyPost prog fn post .ret a w->Q .ret a w)(g:Nat)(y:NV)(vv:Value)(hl:y.c.d.length=32)
 (hp:a.tmps.getD p undef= .pointer (some ⟨g,0,none⟩)) (hu:a.tmps.getD u undef=vv) (hd:a.defers=[]) (hg:w.heap[g]?=some (.cells y.cells.toArray 68)) (hpost:post (.returned (.tuple #[.agg y.cells.toArray,vv])) w):
 Code.wp prog .ret Q a w:=by
 subst hu;exact wp_ret (hQ<|Aq (BW h a.tmps w g y hl hp hg) hd hpost)
def OwnP(P:Nat->Prop)(w:World)(g:Nat):Prop:=P g/\∀o,w.frozen? ⟨g,o,none⟩=false
theorem Keep.setRowP{v:World}(hg:g<base)(hP:∀k,base<=k->P k):Keep (Own base v) (OwnP P (v.setRow g C)) v (v.setRow g C):=λk hK hk=>by
 have e:(v.setRow g C).heap[k]?=v.heap[k]?:=Bf _ _ _ _ (by have:=hK.1;omega);exact⟨e,hP k hK.1,λo=>(BM (w:=v) e).trans (hK.2 o)⟩
def NPost(P:Nat->Prop)(w:World)(o:Option PN):Ending->World->Prop:=λe w'=>Below w.heap.size w w'/\
 match o with
 |none=>∃y:NV,y.c.d.length=32/\e= .returned (.tuple #[.agg y.cells.toArray, .bool false])
 |some n=>∃y:NV,e= .returned (.tuple #[.agg y.cells.toArray, .bool true])/\NodeAt (OwnP P w') w' y n
theorem Cu{y:NV}(h:y.c.d.length=32):(nz.cells.toArray:Array Value).size=y.cells.toArray.size:=by rw[Bd,Bd,NV.len h];rfl
theorem CF{y:NV}(h:y.c.d.length=32):(prog.info? 68).map (·.size)=some y.cells.toArray.size:=by rw[E7,Bd,NV.len h]
structure Pn(w v:World)(x y:V):Prop where
 row:v.heap[w.heap.size+1+1]?=some (.cells nz.cells.toArray 68)
 bx:B1 w.heap.size v x
 by':B1 (w.heap.size+1) v y
 bel:Below w.heap.size w v
 sz:w.heap.size+3<=v.heap.size
theorem Pn.go{v v':World}{x:V}(h:Pn w v x y)(hb:Below v.heap.size v v'):Pn w v' x y:=⟨Below.row hb h.row,h.bx.go hb,h.by'.go hb,below_go h.bel hb,Ar h.sz hb.size⟩
theorem YO(w:World)(x y:V):Pn w (((w.alloc (.cells #[.bool x.l, .slice x.ba x.bn x.bc, .slice x.ia x.m x.ic] 109)).alloc (.cells #[.bool y.l, .slice y.ba y.bn y.bc, .slice y.ia y.m y.ic] 109)).alloc (.cells nz.cells.toArray 68)) x y:=by
 generalize hw1:w.alloc (.cells #[.bool x.l, .slice x.ba x.bn x.bc, .slice x.ia x.m x.ic] 109)=w1;have s1:w1.heap.size=w.heap.size+1:=by rw[<-hw1];simp
 have b1:B1 w.heap.size w1 x:=by rw[<-hw1];exact EP w x
 have l1:Below w.heap.size w w1:=by rw[<-hw1];exact below_new w _
 have b2:=EP w1 y;rw[s1]at b2;generalize hw2:w1.alloc (.cells #[.bool y.l, .slice y.ba y.bn y.bc, .slice y.ia y.m y.ic] 109)=w2 at b2⊢;have s2:w2.heap.size=w.heap.size+1+1:=by rw[<-hw2];simp[s1]
 have l2:Below w1.heap.size w1 w2:=by rw[<-hw2];exact below_new w1 _
 refine⟨?_,(b1.go l2).alloc _,b2.alloc _,below_go (below_go l1 l2) (below_new _ _),by simp[s2]⟩;rw[<-s2];exact Aj _ _
theorem Xq{m:Nat}{w0:World}{a:Option Addr}{bs:List Int}(h:Ni.Cut w base a m bs)(hm:m<=140737488351232):AgK (Own base w) w a m m bs:=⟨h.ag,hm,λg off e h0=>by
 obtain⟨g',off',cur,e',hb,hr⟩:=h.own h0;rw[e]at e';cases e';exact⟨hb,λo=>AY _ _ _ _ _ hr⟩⟩
theorem I3{l:Bool}{bs:List Int}{its:List T}(h:LiesP P w (.mk l bs its) y):AgK (OwnP P w) w y.ba y.bn y.bc bs:=by
 obtain⟨⟨_,h2,_,_,_,h6,h8⟩,_⟩:=liesP_eq.1 h;exact⟨h2,h6.1,λg off e h0=>h8 g off e h0⟩
theorem Ed{h:Nat}{v:World}(b:B1 g v y)(hne:g≠h):B1 g (v.setRow h C) y:=by
 have e:(v.setRow h C).heap[g]?=v.heap[g]?:=Bf _ _ _ _ hne;exact⟨(Ay (w:=v) e).trans b.c0,(Ay (w:=v) e).trans b.c1,(Ay (w:=v) e).trans b.c2⟩
theorem J9(K:Nat->Prop)(w:World)(a:Option Addr):KidsAt K w a []:=λj r hr=>by simp at hr
theorem Od(P:Nat->Prop)(t u:T)(x y:V)(w:World)(hx:Lies w t x)(hy:LiesP P w u y)(hb:∀g,w.heap.size<=g->P g)(hxn:t.bs.length<=16777216):
 Calls prog 148 #[.agg #[.bool x.l, .slice x.ba x.bn x.bc, .slice x.ia x.m x.ic], .agg #[.bool y.l, .slice y.ba y.bn y.bc, .slice y.ia y.m y.ic]] w (NPost P w (pathP t u)):=by
 obtain⟨l,bs,its⟩:=t;obtain⟨l2,bs2,its2⟩:=u;obtain⟨hl,hag,-⟩:=lies_eq.1 hx;obtain⟨⟨hl2,-⟩,-⟩:=liesP_eq.1 hy;subst hl hl2;have hxn:bs.length<=16777216:=hxn;have HAG:=ZQ hag;have HY:=ZQ hy;have HBASE:=ZQ hb;have HU:=ZQ (show∀v,Below w.heap.size w v->Calls prog 154 #[.slice x.ba x.bn x.bc] v λe w'=>(∃a' m,e= .returned (.tuple #[.slice a' m m, .bool (unpP bs).2.1, .int .i64 ((unpP bs).2.2:Nat)])/\Ni.Cut w' v.heap.size a' m (unpP bs).1)/\Below v.heap.size v w' from λv hv=>Ni.unpack_any _ _ _ _ v (hag.at hv) (by have:=hag.l;omega));have HPL:=ZQ (Ni.unp_le bs);have HXN:=ZQ hxn;obtain⟨res,hres⟩:∃res,pathP (.mk x.l bs its) (.mk y.l bs2 its2)=res:=⟨_,rfl⟩;rw[hres]
 have hres:(if x.l=true∨(unpP bs).2.2≠0 then none
  else if(unpP bs).2.1=true then(if y.l=true then none else some (⟨1,(unpP bs).1,bs2,r0,[]⟩:PN))
  else match refOfP (.mk y.l bs2 its2)with
   |none=>none
   |some c=>some ⟨2,(unpP bs).1,[],c,[]⟩)=res:=hres
 obtain⟨pp,hpp⟩:∃pp,(unpP bs).1=pp:=⟨_,rfl⟩;obtain⟨lf,hlf⟩:∃lf,(unpP bs).2.1=lf:=⟨_,rfl⟩;obtain⟨er,her⟩:∃er,(unpP bs).2.2=er:=⟨_,rfl⟩;rw[hpp,hlf,her]at hres;rw[hpp,hlf,her]at HU;rw[hpp]at HPL;have HRES:=ZQ hres;have HPN:=ZQ (YO w x y);clear hx hy hag hb hxn hres hpp hlf her;go_enter func148,ntmps148;go_upto_region 1 with fail;refine gen_w (p:=λv=>Code.wp _ _ _ _ v) (q:=λv=>Pn w v x y) HPN.out ?_;clear HPN;intro v P0;have c1:=P0.bx.c1;have HP0:=ZQ P0;clear P0;go_wp2_with fail;refine(HU.out v HP0.out.bel).mono ?_;rintro e w1⟨⟨a',m,rfl,hcut⟩,hb1⟩;have P1:=HP0.out.go hb1;have HM:=ZQ (show m<=140737488351232 from by have:=hcut.ag.l;have:=HPL.out;have:=HXN.out;omega);have HPA:=ZQ (Xq (w0:=w) hcut HM.out);have HVS:=ZQ HP0.out.sz;have c0:=P1.bx.c0;have d0:=P1.by'.c0;have d1:=P1.by'.c1;have d2:=P1.by'.c2;have HP1:=ZQ P1;clear hcut hb1 P1 c1 HP0 HU;by_cases hbad:x.l=true∨er≠0
 ·have hr:=HRES.out;rw[Ai hbad]at hr;subst hr;by_cases hxl:x.l=true
  ·rw[hxl]at c0;go_wp2_with (first|refine A7 rfl 68 _ _ rfl _ nz.cells.toArray rfl rfl 68 _ HP1.out.row (CF rfl) (Cu rfl) (Al (NV.one _)) ?_);refine Aq (BW results148 _ _ (w.heap.size+1+1) nz rfl rfl (AE _ _ _ _ _ _ HP1.out.row)) rfl ?_;exact⟨Below.setRow HP1.out.bel (by omega) _,nz,rfl,rfl⟩
  ·have hxf:x.l=false:=(by simpa using hxl);have hee:((er:Int) !=0)=true:=(by rw[BT];have:=hbad.resolve_left hxl;omega);rw[hxf]at c0;clear hxl hbad hxf;go_wp2_with (first|refine A7 rfl 68 _ _ rfl _ nz.cells.toArray rfl rfl 68 _ HP1.out.row (CF rfl) (Cu rfl) (Al (NV.one _)) ?_);refine Aq (BW results148 _ _ (w.heap.size+1+1) nz rfl rfl (AE _ _ _ _ _ _ HP1.out.row)) rfl ?_;exact⟨Below.setRow HP1.out.bel (by omega) _,nz,rfl,rfl⟩
 ·have hr:=HRES.out;rw[Ae hbad]at hr;have hxf:x.l=false:=by cases hq:x.l with
   |false=>rfl
   |true=>exact absurd (.inl hq) hbad
  have he0:er=0:=Decidable.byContradiction λh=>hbad (.inr h);subst he0;rw[hxf]at c0;rw[show((0:Nat):Int)=0 from rfl];clear hxf hbad HRES;cases lf with
  |true=>
   rw[Ai rfl]at hr;have HR:=ZQ hr;clear hr;go_upto_region 5 with fail;rename_i KK hkk;refine BZ (S:=λv=>B1 (w.heap.size+1) v y) (by kernel_rfl) ⟨HP1.out.by'.c0,HP1.out.by'.c1,HP1.out.by'.c2⟩ (λhS=>?_);refine Bm 0 26 (.slice a' m m) rfl rfl (by kernel_rfl) (by kernel_rfl) (by kernel_rfl) (λ_ _ _ h=>h) (by kernel_rfl) (λv _=>by kernel_rfl) hS<|Bm 1 27 (.pointer (some ⟨w.heap.size+1,1,none⟩)) rfl rfl (by kernel_rfl) (by kernel_rfl) (by kernel_rfl) (λ_ _ _ h=>h) (by kernel_rfl) (λv _=>by kernel_rfl) hS<|Bm 2 28 (.slice y.ba y.bn y.bc) rfl rfl (by kernel_rfl) (by kernel_rfl) (by kernel_rfl) (λ_ _ _ h=>h) (by kernel_rfl) (λv hv=>Gf rfl (by kernel_rfl) hv.c1) hS<|Bm 3 29 (.agg (NV.cells ⟨1,a',m,m,y.ba,y.bn,y.bc,rz,none,0,0⟩).toArray) rfl rfl (by kernel_rfl) (by kernel_rfl) (by kernel_rfl) (λ_ _ _ h=>h) (by kernel_rfl) (λv _=>Eo 68 _ rfl [(0, .int .i64 1),(1, .slice a' m m),(2, .slice y.ba y.bn y.bc)] (by kernel_rfl) _ (Ig _ _ _ _ _ _)) hS<|Bm 4 30 (.pointer (some ⟨w.heap.size+1,0,none⟩)) rfl rfl (by kernel_rfl) (by kernel_rfl) (by kernel_rfl) (λ_ _ _ h=>h) (by kernel_rfl) (λv _=>by kernel_rfl) hS<|Bm 5 31 (.bool y.l) rfl rfl (by kernel_rfl) (by kernel_rfl) (by kernel_rfl) (λ_ _ _ h=>h) (by kernel_rfl) (λv hv=>OS rfl (by kernel_rfl) hv.c0) hS<|Bm 6 32 (.bool (!y.l)) rfl rfl (by kernel_rfl) (by kernel_rfl) (by kernel_rfl) (λ_ _ _ h=>h) (by kernel_rfl) (λv _=>by kernel_rfl) hS<|AF (rs:=[7]) (by kernel_rfl) (by simp) ?_;refine DO 7 rfl rfl (by kernel_rfl) (DG 68 _ _ rfl (w.heap.size+1+1) (NV.cells ⟨1,a',m,m,y.ba,y.bn,y.bc,rz,none,0,0⟩).toArray (by kernel_rfl) (by kernel_rfl) 68 nz.cells.toArray HP1.out.row (CF rfl) (Cu rfl) (Al (NV.one _))) ?_ ?_ AB
   ·exact Ed hS (by omega)
   refine Bm 8 5 (.bool (!y.l)) rfl rfl (by kernel_rfl) (by kernel_rfl) (by kernel_rfl) (λ_ _ _ h=>h) (by kernel_rfl) (λv _=>by kernel_rfl) (Ed hS (by omega)) ?_;refine Ck (by kernel_rfl) ?_ _;refine hkk _ _<|GB results148 (λh=>h) (w.heap.size+1+1) ⟨1,a',m,m,y.ba,y.bn,y.bc,rz,none,0,0⟩ (.bool (!y.l)) rfl (by kernel_rfl) (by kernel_rfl) (by kernel_rfl) (AE _ _ _ _ _ _ HP1.out.row) ?_;have hr:=HR.out;refine⟨Below.setRow HP1.out.bel.drew (by omega) _,?_⟩;cases hyl:y.l with
   |true=>
    rw[hyl,Ai rfl]at hr;subst hr;exact⟨⟨1,a',m,m,y.ba,y.bn,y.bc,rz,none,0,0⟩,rfl,rfl⟩
   |false=>
    rw[hyl,Ae (by simp)]at hr;subst hr
    have hk1:Keep (Own v.heap.size w1) (OwnP P (w1.drew.setRow (w.heap.size+1+1) (NV.cells ⟨1,a',m,m,y.ba,y.bn,y.bc,rz,none,0,0⟩).toArray)) w1 (w1.drew.setRow (w.heap.size+1+1) (NV.cells ⟨1,a',m,m,y.ba,y.bn,y.bc,rz,none,0,0⟩).toArray):=
     Keep.setRowP (v:=w1.drew) (base:=v.heap.size) (by have:=HVS.out;omega) (λk hk=>HBASE.out k (by have:=HVS.out;omega))
    have hk2:Keep (OwnP P w) (OwnP P (w1.drew.setRow (w.heap.size+1+1) (NV.cells ⟨1,a',m,m,y.ba,y.bn,y.bc,rz,none,0,0⟩).toArray)) w (w1.drew.setRow (w.heap.size+1+1) (NV.cells ⟨1,a',m,m,y.ba,y.bn,y.bc,rz,none,0,0⟩).toArray):=λk hK hk=>by
     have e:((w1.drew.setRow (w.heap.size+1+1) (NV.cells ⟨1,a',m,m,y.ba,y.bn,y.bc,rz,none,0,0⟩).toArray)).heap[k]?=w.heap[k]?:=(Bf _ _ _ _ (by omega)).trans (HP1.out.bel.block k hk);exact⟨e,hK.1,λo=>(BM (w:=w) e).trans (hK.2 o)⟩
    exact⟨⟨1,a',m,m,y.ba,y.bn,y.bc,rz,none,0,0⟩,rfl,rfl,HPA.out.go hk1,(I3 HY.out).go hk2,Fx _ _,⟨rfl,AD _,AD _,AD _,λ_=>⟨rfl,rfl⟩⟩,J9 _ _ _⟩
  |false=>
   rw[Ae (by simp)]at hr;have HR:=ZQ hr;have HRO:=ZQ (MU (.mk y.l bs2 its2) y w1 (Ci HP1.out.bel _ y (Dj _ _ HY.out)));clear hr;go_wp2_with fail;refine HRO.out.mono ?_;intro e w2 hp;obtain⟨hb2,hp⟩:=hp;have HP2:=ZQ (HP1.out.go hb2);have HW1:=ZQ HP1.out.sz;have hr:=HR.out;cases hq:refOfP (.mk y.l bs2 its2)with
   |none=>
    rw[hq]at hp hr;subst hr;obtain⟨y',hyl',rfl⟩:=hp;have HYL:=ZQ hyl';clear hb2 hq hyl';go_upto_region 7 with(first|refine A7 rfl 65 _ _ rfl _ y'.cells.toArray rfl rfl 65 _ (Aj _ _) (Dn HYL.out) (DA HYL.out) (Al (RV.one _)) ?_);refine gen_w (p:=λv=>Code.wp _ _ _ _ v) (q:=λu=>RBx w2.heap.size u y'/\Pn w u x y) ⟨⟨AE _ _ _ _ _ _ (Aj _ _),HYL.out⟩,HP2.out.go (Below.setRow (below_new w2 _) (Aa _) _)⟩ ?_;rintro v3⟨B3,P3⟩;have HB3:=ZQ B3;have HP3:=ZQ P3;clear B3 P3;rename_i KK hkk;refine Dm<|Bv 38 (.slice a' m m) rfl (by kernel_rfl) (by kernel_rfl)<|Bv 39 (.agg y'.cells.toArray) rfl (by kernel_rfl) (G9 rfl (by kernel_rfl) HYL.out HB3.out.all)<|Bv 40 (.agg (NV.cells ⟨2,a',m,m,none,0,0,y',none,0,0⟩).toArray) rfl (by kernel_rfl) (Eo 68 _ rfl [(0, .int .i64 2),(1, .slice a' m m),(3, .agg y'.cells.toArray)] (by kernel_rfl) _ (G8 _ _ _ _ HYL.out))<|Bv 41 (.bool false) rfl (by kernel_rfl) (by kernel_rfl)<|FO rfl (by kernel_rfl) (DG 68 _ _ rfl (w.heap.size+1+1) (NV.cells ⟨2,a',m,m,none,0,0,y',none,0,0⟩).toArray (by kernel_rfl) (by kernel_rfl) 68 nz.cells.toArray HP3.out.row (CF HYL.out) (Cu HYL.out) (Al (NV.one _)))<|Bv 5 (.bool false) rfl (by kernel_rfl) (by kernel_rfl)<|hkk _ _<|GB results148 (λh=>h) (w.heap.size+1+1) ⟨2,a',m,m,none,0,0,y',none,0,0⟩ (.bool false) HYL.out (by kernel_rfl) (by kernel_rfl) (by kernel_rfl) (AE _ _ _ _ _ _ HP3.out.row) ?_;exact⟨Below.setRow HP3.out.bel (by omega) _,⟨2,a',m,m,none,0,0,y',none,0,0⟩,HYL.out,rfl⟩
   |some c=>
    rw[hq]at hp hr;subst hr;obtain⟨y',rfl,hy'⟩:=hp;have HYL:=ZQ hy'.len;have HYR:=ZQ hy';have HB2:=ZQ hb2;clear hb2 hq hy';go_upto_region 7 with(first|refine A7 rfl 65 _ _ rfl _ y'.cells.toArray rfl rfl 65 _ (Aj _ _) (Dn HYL.out) (DA HYL.out) (Al (RV.one _)) ?_);refine gen_w (p:=λv=>Code.wp _ _ _ _ v) (q:=λu=>RBx w2.heap.size u y'/\Pn w u x y/\Below w2.heap.size w2 u) ⟨⟨AE _ _ _ _ _ _ (Aj _ _),HYL.out⟩,HP2.out.go (Below.setRow (below_new w2 _) (Aa _) _),Below.setRow (below_new w2 _) (Aa _) _⟩ ?_;rintro v3⟨B3,P3,b3⟩;have HB3:=ZQ B3;have HP3:=ZQ P3;have HBB:=ZQ b3;clear b3;clear B3 P3;rename_i KK hkk;refine Dm<|Bv 38 (.slice a' m m) rfl (by kernel_rfl) (by kernel_rfl)<|Bv 39 (.agg y'.cells.toArray) rfl (by kernel_rfl) (G9 rfl (by kernel_rfl) HYL.out HB3.out.all)<|Bv 40 (.agg (NV.cells ⟨2,a',m,m,none,0,0,y',none,0,0⟩).toArray) rfl (by kernel_rfl) (Eo 68 _ rfl [(0, .int .i64 2),(1, .slice a' m m),(3, .agg y'.cells.toArray)] (by kernel_rfl) _ (G8 _ _ _ _ HYL.out))<|Bv 41 (.bool true) rfl (by kernel_rfl) (by kernel_rfl)<|FO rfl (by kernel_rfl) (DG 68 _ _ rfl (w.heap.size+1+1) (NV.cells ⟨2,a',m,m,none,0,0,y',none,0,0⟩).toArray (by kernel_rfl) (by kernel_rfl) 68 nz.cells.toArray HP3.out.row (CF HYL.out) (Cu HYL.out) (Al (NV.one _)))<|Bv 5 (.bool true) rfl (by kernel_rfl) (by kernel_rfl)<|hkk _ _<|GB results148 (λh=>h) (w.heap.size+1+1) ⟨2,a',m,m,none,0,0,y',none,0,0⟩ (.bool true) HYL.out (by kernel_rfl) (by kernel_rfl) (by kernel_rfl) (AE _ _ _ _ _ _ HP3.out.row) ?_;have hk1:Keep (Own v.heap.size w1) (OwnP P (v3.setRow (w.heap.size+1+1) (NV.cells ⟨2,a',m,m,none,0,0,y',none,0,0⟩).toArray)) w1 (v3.setRow (w.heap.size+1+1) (NV.cells ⟨2,a',m,m,none,0,0,y',none,0,0⟩).toArray):=λk hK hk=>by
     have e:((v3.setRow (w.heap.size+1+1) (NV.cells ⟨2,a',m,m,none,0,0,y',none,0,0⟩).toArray)).heap[k]?=w1.heap[k]?:=(Bf _ _ _ _ (by have:=hK.1;have:=HVS.out;omega)).trans ((HBB.out.block k (B7 hk HB2.out.size)).trans (HB2.out.block k hk));exact⟨e,HBASE.out k (by have:=hK.1;have:=HVS.out;omega),λo=>(BM (w:=w1) e).trans (hK.2 o)⟩
    have hk2:Keep (Own w1.heap.size w2) (OwnP P (v3.setRow (w.heap.size+1+1) (NV.cells ⟨2,a',m,m,none,0,0,y',none,0,0⟩).toArray)) w2 (v3.setRow (w.heap.size+1+1) (NV.cells ⟨2,a',m,m,none,0,0,y',none,0,0⟩).toArray):=λk hK hk=>by
     have e:((v3.setRow (w.heap.size+1+1) (NV.cells ⟨2,a',m,m,none,0,0,y',none,0,0⟩).toArray)).heap[k]?=w2.heap[k]?:=(Bf _ _ _ _ (by have:=hK.1;have:=HW1.out;omega)).trans (HBB.out.block k hk);exact⟨e,HBASE.out k (by have:=hK.1;have:=HW1.out;omega),λo=>(BM (w:=w2) e).trans (hK.2 o)⟩
    exact⟨Below.setRow HP3.out.bel (by omega) _,⟨2,a',m,m,none,0,0,y',none,0,0⟩,rfl,rfl,HPA.out.go hk1,FP _ _,HYR.out.go hk2,⟨rfl,AD _,AD _,AD _,λ_=>⟨rfl,rfl⟩⟩,J9 _ _ _⟩
end Go.Proofs.YtefhepcplempkaaGreat
