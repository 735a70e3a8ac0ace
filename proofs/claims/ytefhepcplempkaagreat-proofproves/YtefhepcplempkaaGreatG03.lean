/- A tree with a value more. -/
import Derived.Test.YtefhepcplempkaaGreatAK
import Derived.Test.YtefhepcplempkaaGreatG02
import Derived.Test.YtefhepcplempkaaGreatG01
import Derived.Test.YtefhepcplempkaaGreatG00
set_option linter.unusedVariables false
set_option maxRecDepth 100000
set_option maxHeartbeats 4000000
open Go.Proofs.Tryz Go.RowKit
namespace Go.Proofs.YtefhepcplempkaaGreat
open Tr
variable {p q x : List Int} {w : World} {K : Nat → Prop} {a aq ax : Option Addr} {n c m nq cq cx B : Nat} {Tu : TypeId} {xu : Value}
theorem NC(k:Nat->Tr)(y q v:List Int)(h:∀i r,q=i::r->k i.toNat=no):put (br k y) q v=add k y q v:=by
 cases q with
 |nil=>rfl
 |cons i r=>simp only[put,add,h i r rfl]
theorem Uz(k:Nat->Tr)(y q v:List Int):∃k' y',put (br k y) q v=br k' y':=by
 cases q with
 |nil=>exact⟨_,_,rfl⟩
 |cons i r=>exact⟨_,_,rfl⟩
theorem U0(p:List Int){t:Tr}(h:t≠no):und p t≠no:=by
 cases t with
 |no=>exact absurd rfl h
 |leaf q v=>simp[und]
 |ext q c=>simp[und]
 |br k v=>simp only[und];split<;>simp
theorem Y4(t:Tr)(q v:List Int):put t q v≠no:=by
 cases t with
 |no=>simp[put]
 |leaf p x=>
  simp only[put];split
  ·simp
  ·refine U0 _ ?_;cases p.drop (Ni.com p q)<;>cases q.drop (Ni.com p q)<;>simp[addT,add]
 |ext p c=>
  simp only[put];split
  ·simp
  ·refine U0 _ ?_;cases q.drop (Ni.com p q)<;>simp[add]
 |br k x=>cases q<;>simp[put]
theorem U1{v:List Int}(hne:q≠p)(hp:Nb p)(hq:Nb q):∃k1 y1,put (br nk []) (p.drop (Ni.com p q)) x=br k1 y1/\(∀(i:Nat)(r:List Int),q.drop (Ni.com p q)=(i:Int)::r->k1 i=no)/\
 put (leaf p x) q v=und (q.take (Ni.com p q)) (put (br k1 y1) (q.drop (Ni.com p q)) v):=by
 obtain⟨Q,a,b,ep,eq,ec,hd⟩:=G0 p q;have ea:p.drop (Ni.com p q)=a:=by
  rw[ec]
  conv=>lhs;rw[ep];simp
 have eb:q.drop (Ni.com p q)=b:=by
  rw[ec]
  conv=>lhs;rw[eq];simp
 have hb:Nb b:=by rw[<-eb];exact hq.drop _
 have ha:Nb a:=by rw[<-ea];exact hp.drop _
 simp only[put];rw[Ae hne,ea,eb];cases a with
 |nil=>
  refine⟨nk,x,rfl,λ_ _ _=>rfl,?_⟩;simp only[add,addT];rw[NC nk x b v (λ_ _ _=>rfl)];rfl
 |cons i a'=>
  have hfree:∀(j:Int)(r:List Int),b=j::r->upd nk i.toNat (leaf a' x) j.toNat=no:=by
   intro j r e;rcases hd with h|h|⟨i1,a1,j1,b1,e1,e2,hij⟩
   ·cases h
   ·rw[h]at e;cases e
   ·cases e1;rw[e]at e2;cases e2;rw[Cx]
    ·rfl
    ·intro h;have h1:=ha.head;rw[e]at hb;have h2:=hb.head;exact hij (by omega)
  refine⟨upd nk i.toNat (leaf a' x),[],rfl,λj r e=>hfree _ r e,?_⟩;simp only[add,addT];rw[NC _ _ b v hfree];rfl
theorem WO{v:List Int}{c:Tr}(hlt:Ni.com p q<p.length)(hq:Nb q)(i:Nat)(hi:p.getD (Ni.com p q) 0=(i:Int)):
 (∀(j:Nat)(r:List Int),q.drop (Ni.com p q)=(j:Int)::r->upd nk i (und (p.drop (Ni.com p q+1)) c) j=no)/\
 put (ext p c) q v=und (q.take (Ni.com p q)) (put (br (upd nk i (und (p.drop (Ni.com p q+1)) c)) []) (q.drop (Ni.com p q)) v):=by
 have hfree:∀(j:Int)(r:List Int),q.drop (Ni.com p q)=j::r->upd nk i (und (p.drop (Ni.com p q+1)) c) j.toNat=no:=by
  intro j r e;have hl:Ni.com p q<q.length:=by
   have:=Au List.length e;rw[AQ,AU]at this;omega
  have hs:=Ni.com_stop p q hlt hl;have hj:q.getD (Ni.com p q) 0=j:=by
   rw[Bz hl]at e;injection e with e1 e2;rw[<-e1];simp[List.getD,Ac hl]
  rw[hi,hj]at hs;have hb:Nb (q.drop (Ni.com p q)):=hq.drop _;rw[e]at hb;have h2:=hb.head;rw[Cx]
  ·rfl
  ·intro h;exact hs (by omega)
 refine⟨λj r e=>hfree _ r e,?_⟩;simp only[put];rw[Ae (by omega),hi,NC _ _ _ _ hfree];rfl
theorem Sx.apart{g g' o:Nat}{cells:Array Value}{T:TypeId}{p:Addr}{x v:Value}{w':World}(h:Sx g cells T p x w)(hs:Set1 w w' g' o v)(h1:g≠g')(h2:p.block≠g'):Sx g cells T p x w':=
 ⟨h.r.apart hs h1,(Ay (hs.other h2)).trans h.c⟩
theorem Sk.nth{bs:List Int}(h:Sk K w a n c bs)(hm:m<n):∃g o,a=some ⟨g,o,none⟩/\w.cell? ⟨g,o+m*1,none⟩=some (.int .u8 (bs.getD m 0)):=by
 have hl:=h.len;rcases h.ag.i with⟨h1,h2⟩|⟨gb,off,h1,h2,h3,h4,h5,h7⟩
 ·omega
 ·exact⟨gb,off,h1,by rw[BS];exact h7 m (by omega)⟩
theorem SP{a':Option Addr}{n' c':Nat}{x0:List Int}(hp:Sk K w a n c p)(h0:Sk K w a' n' c' x0)(h02:n'<=256)(hq:Sk K w aq nq cq q){nx:Nat}(hx:Sk K w ax nx cx x)(hx2:nx<=256)(hK:∀b,w.heap.size<=b->K b)(hnp:Nb p)(hnb:Nb q)(hl1:p.length<=64)(hl2:q.length<=64):
 Calls prog 181 #[.agg #[.slice a n c, .slice a' n' c'], .slice aq nq cq, .slice ax nx cx] w λe w'=>∃u,e= .returned u/\TRs K w (put (leaf p x0) q x) u w':=by
 have hB:=Bl.refl w;have lp:=hp.len;have lq:=hq.len;refine EO func181 43<|Hn 2 (#[.slice a n c, .slice a' n' c']) 131 ?_;intro w1 g2 hn3 hr4;refine Hl 8 hr4 0 23 (.slice a n c) ?_;replace hp:=hp.go hn3.below;replace hq:=hq.go hn3.below;refine Hc 0 (R:=λu w'=>u= .bool (decide (q=p))/\Bl (w1) w') ((ME hq hp)) ?_;rintro _ u5⟨rfl,hb6⟩;by_cases hqp:q=p
 ·skip
  rw[show decide (q=p)=true from AT hqp];replace hB:=(hB.go hn3.below).go hb6;replace hx:=(hx.go hn3.below).go hb6;replace hq:=hq.go hb6;exact Hr 14 (.iface 131 (.agg #[.slice aq nq cq, .slice ax nx cx])) ⟨_,rfl,(by simp only[put];rw[Ai hqp];exact⟨_,_,_,_,_,_,rfl,hq,hx,hx2⟩),hB⟩
 ·skip
  rw[show decide (q=p)=false from Bb hqp];obtain⟨k1,y1,e1,hfree,e3⟩:=U1 (x:=x0) (v:=x) hqp hnp hnb;obtain⟨k2,y2,e2⟩:=Uz k1 y1 (q.drop (Ni.com p q)) x;have hm12:=Ni.com_le p q;obtain⟨m,hm⟩:∃m,Ni.com p q=m:=⟨_,rfl⟩;rw[hm]at e1 hfree e3 e2 hm12;obtain⟨hm1,hm2⟩:=hm12;replace hr4:=hr4.go hb6;refine Hl 8 hr4 0 23 (.slice a n c) ?_;replace hp:=hp.go hb6;replace hq:=hq.go hb6;refine Hc 1 (R:=λu w'=>u= .int .i64 (m:Int)/\Bl (u5) w') (((Ni.common_any _ _ _ _ _ _ p q _ hp.ag hq.ag (by omega) (by omega)).mono (λe w' h=>⟨_,by rw[h.1,hm],rfl,h.2⟩))) ?_;rintro _ u7⟨rfl,hb8⟩;replace hr4:=hr4.go hb8;refine Hj 4 (λv=>Rw g2 v (#[.slice a n c, .slice a' n' c']) 131) (hr4.drew) ?_;replace hr4:=hr4.drew;refine Dx [] 0 (og f181 4 0) (.agg (brc (λ_=> .nilIface) (.slice none 0 0))) (λv hv=>(λ_=>by kernel_rfl)) hr4<|Dl [1] 2 (λv hv=>hv) 0 23 (.slice a n c) hr4 ?_;replace hp:=(hp.go hb8).drew;obtain⟨a9,n10,c11,hr12,hs13⟩:=hp.cutFrom m (by have:=hp.len;omega);refine Dx [3] 4 (og f181 4 4) (.slice a9 n10 c11) (λv hv=>(λ_=>hr12 _ _ _ _ _ _ rfl (by kernel_rfl) (by kernel_rfl) rfl)) hr4<|Dl [5] 6 (λv hv=>hv) 1 23 (.slice a' n' c') hr4 ?_;replace hq:=(hq.go hb8).drew;obtain⟨a14,n15,c16,hr17,hs18⟩:=hq.cutFrom m (by have:=hq.len;omega);refine Dx [8,9] 10 (og f181 4 10) (.slice a14 n15 c16) (λv hv=>(λ_=>hr17 _ _ _ _ _ _ rfl (by kernel_rfl) (by kernel_rfl) rfl)) hr4 ?_;obtain⟨a19,n20,c21,hr22,hs23⟩:=hq.cutTo m (by have:=hq.len;omega);refine Dx [11,16,17] 18 (og f181 4 18) (.slice a19 n20 c21) (λv hv=>(λ_=>hr22 _ _ _ _ _ _ rfl (by kernel_rfl) (by kernel_rfl) rfl)) hr4<|Dz [7] ?_;replace hB:=(((hB.go hn3.below).go hb6).go hb8).drew;replace h0:=(((h0.go hn3.below).go hb6).go hb8).drew;refine Yc 7 (R:=TRs K (u7.drew) (br k1 y1)) ((by rw[<-e1];exact Iu (TK.none K _) (Sk.nil K _) (by omega) h0 h02 (λb hb=>hK b (Ar hB.size hb)) hs13 (hnp.drop _) (λi r e=> .inl rfl))) (λu w' h=>hr4.go h.2) ?_ yn;rintro _ u24⟨⟨vs1,a1,n1,c1,rfl,hk1,hy1,hn1⟩,hb25⟩;replace hk1:TK K u24 k1 vs1:=hk1;replace hr4:=hr4.go hb25;refine Dx [] 12 (og f181 4 12) (.func (.method "pergola/trie.with") #[.iface 221 (.agg (brc vs1 (.slice a1 n1 c1)))] #[]) (λv hv=>(λ_=>by kernel_rfl)) hr4<|Dx [] 13 (og f181 4 13) (.func (.method "pergola/trie.with") #[.iface 221 (.agg (brc vs1 (.slice a1 n1 c1)))] #[]) (λv hv=>(λ_=>by kernel_rfl)) hr4<|Dy [14] [15] hr4 ?_;replace hx:=((((hx.go hn3.below).go hb6).go hb8).drew).go hb25;replace hB:=hB.go hb25;replace hs18:=hs18.go hb25;obtain⟨T30,x31,f32,he33,hi28,hc29⟩:=(show MC "pergola/trie.with" (.iface 221 (.agg (brc vs1 (.slice a1 n1 c1)))) #[.slice a14 n15 c16, .slice ax nx cx] (u24) (TRs K (u24) (br k2 y2))from⟨_,_,_,rfl,MD _,by rw[<-e2];exact Iu hk1 hy1 hn1 hx hx2 (λb hb=>hK b (Ar hB.size hb)) hs18 (hnb.drop _) (λi r e=> .inl (hfree i r e))⟩);refine Ym 15 (og f181 4 15) f32 (#[x31]++#[.slice a14 n15 c16, .slice ax nx cx]) (λ_=>hi28 _ _ _ _ _ _ _ rfl (by kernel_rfl) (by kernel_rfl)) (R:=TRs K (u24) (br k2 y2)) ?_ (λu w' h=>hr4.go h.2) ?_ yn
  ·exact hc29
  rintro _ u26⟨⟨vs2,a2,n2,c2,rfl,hk2,hy2,hn2⟩,hb27⟩;replace hk2:TK K u26 k2 vs2:=hk2;replace hr4:=hr4.go hb27;refine Dx [] 19 (og f181 4 19) (.func (.method "pergola/trie.under") #[.iface 221 (.agg (brc vs2 (.slice a2 n2 c2)))] #[]) (λv hv=>(λ_=>by kernel_rfl)) hr4<|Dx [] 20 (og f181 4 20) (.func (.method "pergola/trie.under") #[.iface 221 (.agg (brc vs2 (.slice a2 n2 c2)))] #[]) (λv hv=>(λ_=>by kernel_rfl)) hr4<|Dy [21] [22] hr4 ?_;replace hs23:=(hs23.go hb25).go hb27;obtain⟨T38,x39,f40,he41,hi36,hc37⟩:=(Uy (show TA K (u26) (br k2 y2) _ from⟨vs2,_,_,_,rfl,hk2,hy2,hn2⟩) hs23);refine Ym 22 (og f181 4 22) f40 (#[x39]++#[.slice a19 n20 c21]) (λ_=>hi36 _ _ _ _ _ _ _ rfl (by kernel_rfl) (by kernel_rfl)) (R:=TRs K (u26) (und (q.take m) (br k2 y2))) ?_ (λu w' h=>hr4.go h.2) ?_ yn
  ·exact hc37
  rintro vR u34⟨ht,hb35⟩;replace hr4:=hr4.go hb35;refine Dq [23] hr4 ?_;replace hB:=(hB.go hb27).go hb35;exact Hr 2 vR ⟨_,rfl,(by rw[e3,e2];exact ht),hB⟩
theorem U2{t:Tr}(hp:Sk K w a n c p)(ht0:TA K w t (.iface Tu xu))(hOt:Ok B t)(hq:Sk K w aq nq cq q){nx:Nat}(hx:Sk K w ax nx cx x)(hx2:nx<=256)(hK:∀b,w.heap.size<=b->K b)(hm:Ni.com p q=m)(hnb:Nb q)(hl1:p.length<=64)(hl2:q.length<=p.length+B)(h64:p.length+B<=64)(hmn:m=n)(hF:WS t):
 Calls prog 199 #[.agg #[.slice a n c, .iface Tu xu], .slice aq nq cq, .slice ax nx cx] w λe w'=>∃u,e= .returned u/\TRs K w (put (ext p t) q x) u w':=by
 have hB:=Bl.refl w;have lp:=hp.len;have lq:=hq.len;have hm12:=Ni.com_le p q;rw[hm]at hm12;obtain⟨hm1,hm2⟩:=hm12;refine EO func199 61<|Hn 2 (#[.slice a n c, .iface Tu xu]) 226 ?_;intro w1 g2 hn3 hr4;have hgs:=hn3.hg;refine Hl 6 hr4 0 23 (.slice a n c) ?_;replace hp:=hp.go hn3.below;replace hq:=hq.go hn3.below;refine Hc 1 (R:=λu w'=>u= .int .i64 (m:Int)/\Bl (w1) w') (((Ni.common_any _ _ _ _ _ _ p q _ hp.ag hq.ag (by omega) (by omega)).mono (λe w' h=>⟨_,by rw[h.1,hm],rfl,h.2⟩))) ?_;rintro _ u5⟨rfl,hb6⟩;replace hr4:=hr4.go hb6;refine Hl 8 hr4 0 23 (.slice a n c)<|Hq 1 (m:Int) (n:Int)<|Hj 4 (λv=>Rw g2 v (#[.slice a n c, .iface Tu xu]) 226) (hr4.drew) ?_;replace hr4:=hr4.drew;refine Dl [0] 1 (λv hv=>hv) 0 23 (.slice a n c) hr4<|Dl [2] 3 (λv hv=>hv) 1 74 (.iface Tu xu) hr4 ?_;replace hq:=(hq.go hb6).drew;obtain⟨a7,n8,c9,hr10,hs11⟩:=hq.cutFrom m (by have:=hq.len;omega);refine Dx [4,5] 6 (og f199 3 6) (.slice a7 n8 c9) (λv hv=>(λ_=>hr10 _ _ _ _ _ _ rfl (by kernel_rfl) (by kernel_rfl) rfl)) hr4<|Dx [7] 8 (og f199 3 8) (.iface Tu xu) (λv hv=>(λ_=>by kernel_rfl)) hr4<|Dy [9] [10] hr4 ?_;replace hB:=((hB.go hn3.below).go hb6).drew;replace hx:=((hx.go hn3.below).go hb6).drew;replace ht0:=((ht0.go hn3.below).go hb6).drew;obtain⟨T16,x17,f18,he19,hi14,hc15⟩:=(hF hOt (by omega) (by rw[AQ];omega) (hnb.drop _) ht0 hs11 hx hx2 (λb hb=>hK b (Ar hB.size hb)));refine Ym 10 (og f199 3 10) f18 (#[x17]++#[.slice a7 n8 c9, .slice ax nx cx]) (λ_=>hi14 _ _ _ _ _ _ _ rfl (by kernel_rfl) (by kernel_rfl)) (R:=TRs K (u5.drew) (put t (q.drop m) x)) ?_ (λu w' h=>hr4.go h.2) ?_ yn
 ·exact hc15
 rintro vR u12⟨ht,hb13⟩;obtain⟨T2,x2,rfl⟩:=ht.iface (Y4 _ _ _);replace hr4:=hr4.go hb13;refine Dx [] 11 (og f199 3 11) (.agg #[.slice a n c, .iface T2 x2]) (λv hv=>(λ_=>by kernel_rfl)) hr4<|Dq [12,13] hr4 ?_;replace hp:=((hp.go hb6).drew).go hb13;replace hB:=hB.go hb13;exact Hr 3 (.iface 226 (.agg #[.slice a n c, .iface T2 x2])) ⟨_,rfl,(by simp only[put];rw[Ai (by omega)];have e:m=p.length:=(by omega);subst e;exact⟨_,_,_,_,rfl,hp,ht⟩),hB⟩
theorem Qh{gp op i:Nat}(hi:i<16){t:Tr}(hp:Sk K w (some ⟨gp,op,none⟩) n c p)(ht0:TA K w t (.iface Tu xu))(hOt:Ok B t)(hq:Sk K w aq nq cq q){nx:Nat}(hx:Sk K w ax nx cx x)(hx2:nx<=256)(hK:∀b,w.heap.size<=b->K b)(hm:Ni.com p q=m)(hnb:Nb q)(hl1:p.length<=64)(hl2:q.length<=p.length+B)(h64:p.length+B<=64)(hmn:m<n)(hpi:p.getD (Ni.com p q) 0=(i:Int))(hcm:w.cell? ⟨gp,op+m*1,none⟩=some (.int .u8 (i:Int))):
 Calls prog 199 #[.agg #[.slice (some ⟨gp,op,none⟩) n c, .iface Tu xu], .slice aq nq cq, .slice ax nx cx] w λe w'=>∃u,e= .returned u/\TRs K w (put (ext p t) q x) u w':=by
 have hB:=Bl.refl w;have lp:=hp.len;have lq:=hq.len;have hm12:=Ni.com_le p q;obtain⟨hfree,e3⟩:=WO (c:=t) (v:=x) (by omega) hnb i hpi;obtain⟨k2,y2,e2⟩:=Uz (upd nk i (und (p.drop (Ni.com p q+1)) t)) [] (q.drop (Ni.com p q)) x;rw[hm]at hfree e3 e2;rw[hm]at hm12;obtain⟨hm1,hm2⟩:=hm12;refine EO func199 61<|Hn 2 (#[.slice (some ⟨gp,op,none⟩) n c, .iface Tu xu]) 226 ?_;intro w1 g2 hn3 hr4;have hgs:=hn3.hg;refine Hl 6 hr4 0 23 (.slice (some ⟨gp,op,none⟩) n c) ?_;replace hp:=hp.go hn3.below;replace hq:=hq.go hn3.below;refine Hc 1 (R:=λu w'=>u= .int .i64 (m:Int)/\Bl (w1) w') (((Ni.common_any _ _ _ _ _ _ p q _ hp.ag hq.ag (by omega) (by omega)).mono (λe w' h=>⟨_,by rw[h.1,hm],rfl,h.2⟩))) ?_;rintro _ u5⟨rfl,hb6⟩;replace hr4:=hr4.go hb6;refine Hl 8 hr4 0 23 (.slice (some ⟨gp,op,none⟩) n c)<|Hz 1 (m:Int) (n:Int) ?_;have hB4:=lt_of_get hr4;refine Hn 7 (brc (λ_=> .nilIface) (.slice none 0 0)) 221 ?_;intro w7 g8 hn9 hr10;have hg8:=hn9.hg;replace hB:=((hB.go hn3.below).go hb6).go hn9.below;have hB8:=hB.size;have hg8n:g2<g8:=by omega
 have hgp:gp<w.heap.size:=Af hcm;replace hr4:=hr4.go hn9.below;have hS:Sx g2 (#[.slice (some ⟨gp,op,none⟩) n c, .iface Tu xu]) 226 ⟨gp,op+m*1,none⟩ (.int .u8 (i:Int)) w7:=⟨hr4,(hB.cell (p:=⟨gp,op+m*1,none⟩) (Af hcm)).trans hcm⟩;refine Hj 3 (λv=>Sx g2 (#[.slice (some ⟨gp,op,none⟩) n c, .iface Tu xu]) 226 ⟨gp,op+m*1,none⟩ (.int .u8 (i:Int)) v) (hS.drew) ?_;replace hS:=hS.drew;refine Dl [0] 1 (λv hv=>hv.r) 0 23 (.slice (some ⟨gp,op,none⟩) n c) hS<|Dx [2] 3 (og f199 5 3) (.pointer (some ⟨gp,op+m*1,none⟩)) (λv hv _=>Bh 23 _ _ gp op m n c 1 5 rfl (by kernel_rfl) (by kernel_rfl) (by omega) underlying23 (by kernel_rfl)) hS<|Dx [] 4 (og f199 5 4) (.int .u8 (i:Int)) (λv hv _=>AA 5 _ _ _ _ rfl (by kernel_rfl) hv.c underlying5 rfl) hS<|Dl [5] 6 (λv hv=>hv.r) 1 74 (.iface Tu xu) hS<|Dl [7] 8 (λv hv=>hv.r) 0 23 (.slice (some ⟨gp,op,none⟩) n c) hS<|Dx [9] 10 (og f199 5 10) (.int .i64 ((m+1:Nat):Int)) (λv hv _=>Bu (v:= .int .i64 (IntKind.i64.wrap ((m:Int)+1))) (by kernel_rfl) (Au (Value.int .i64) (by rw[Ec (by omega) (by omega)];rfl))) hS ?_;replace hp:=((hp.go hb6).go hn9.below).drew;obtain⟨a11,n12,c13,hr14,hs15⟩:=hp.cutFrom (m+1) (by have:=hp.len;omega);refine Dx [] 11 (og f199 5 11) (.slice a11 n12 c13) (λv hv=>(λ_=>hr14 _ _ _ _ _ _ rfl (by kernel_rfl) (by kernel_rfl) rfl)) hS<|Dx [] 12 (og f199 5 12) (.iface Tu xu) (λv hv=>(λ_=>by kernel_rfl)) hS<|Dy [13,15] [14] hS ?_;replace ht0:=(((ht0.go hn3.below).go hb6).go hn9.below).drew;replace hB:=hB.drew;obtain⟨T20,x21,f22,he23,hi18,hc19⟩:=(Y2 t hOt ht0 hs15 (by rw[AQ];omega) (by omega) (λb hb=>hK b (Ar hB.size hb)));refine Ym 14 (og f199 5 14) f22 (#[x21]++#[.slice a11 n12 c13]) (λ_=>hi18 _ _ _ _ _ _ _ rfl (by kernel_rfl) (by kernel_rfl)) (R:=TRs K (w7.drew) (und (p.drop (m+1)) t)) ?_ (λu w' h=>hS.go h.2) ?_ yn
 ·exact hc19
 rintro vU u16⟨htU,hb17⟩;replace hS:=hS.go hb17;refine Dx [] 16 (og f199 5 16) (.pointer (some ⟨g8,0+i*1,none⟩)) (λv hv _=>JR (kd:= .u8) 219 _ _ g8 0 i 16 1 74 rfl (by kernel_rfl) (by kernel_rfl) hi (by omega) underlying219 (by kernel_rfl)) hS<|Dz [17] ?_;replace hr10:=hr10.drew.go hb17;refine Ya 17 (og f199 5 17) g8 (0+i*1) vU (λ_=>D8 74 _ _ g8 (0+i*1) _ 221 _ hr10 rfl (by kernel_rfl) (by kernel_rfl) (by show 0+i*1<17;omega) htU.cells htU.one (by kernel_rfl)) (λw' h=>hS.apart h (by omega) (by show gp≠_;omega)) ?_ yn;intro w24 hp25;have hbs:Bs u16 w24 g8:=Bs.of hr10 ((TK.none K u16).noint _ _ _) hp25;replace hr10:Rw g8 w24 (brc (updv (λ_=> .nilIface) i vU) (.slice none 0 0)) 221:=hr10.set hp25 (by rw[AM,BS];exact RD _ _ _ _ hi);replace htU:=htU.bs hbs;have hkF:TK K w24 (upd nk i (und (p.drop (m+1)) t)) (updv (λ_=> .nilIface) i vU):=(TK.none K _).put htU;refine Do<|Hj 2 (λv=>Rw g8 v (brc (updv (λ_=> .nilIface) i vU) (.slice none 0 0)) 221) (hr10.drew) ?_;replace hr10:=hr10.drew;refine Dx [] 0 (og f199 6 0) (.agg (brc (updv (λ_=> .nilIface) i vU) (.slice none 0 0))) (λv hv _=>Eb 221 _ _ _ _ _ _ rfl (by kernel_rfl) hv underlying221 rfl (by kernel_rfl)) hr10 ?_;replace hq:=(((((hq.go hb6).go hn9.below).drew).go hb17).bs hbs).drew;obtain⟨a26,n27,c28,hr29,hs30⟩:=hq.cutFrom m (by have:=hq.len;omega);refine Dx [1,2] 3 (og f199 6 3) (.slice a26 n27 c28) (λv hv=>(λ_=>hr29 _ _ _ _ _ _ rfl (by kernel_rfl) (by kernel_rfl) rfl)) hr10 ?_;obtain⟨a31,n32,c33,hr34,hs35⟩:=hq.cutTo m (by have:=hq.len;omega);refine Dx [4,6,7] 8 (og f199 6 8) (.slice a31 n32 c33) (λv hv=>(λ_=>hr34 _ _ _ _ _ _ rfl (by kernel_rfl) (by kernel_rfl) rfl)) hr10<|Dz [5] ?_;replace hx:=((((((hx.go hn3.below).go hb6).go hn9.below).drew).go hb17).bs hbs).drew;replace hB:=((hB.go hb17).set hp25 (by omega)).drew;replace hkF:=hkF.drew;refine Yc 5 (R:=TRs K (w24.drew) (br k2 y2)) ((by rw[<-e2];exact Iu hkF (Sk.nil K _) (by omega) hx hx2 (λb hb=>hK b (Ar hB.size hb)) hs30 (hnb.drop _) (λi r e=> .inl (hfree i r e)))) (λu w' h=>hr10.go h.2) ?_ yn;rintro _ u36⟨⟨vs2,a2,n2,c2,rfl,hk2,hy2,hn2⟩,hb37⟩;replace hk2:TK K u36 k2 vs2:=hk2;replace hr10:=hr10.go hb37;refine Dx [] 9 (og f199 6 9) (.func (.method "pergola/trie.under") #[.iface 221 (.agg (brc vs2 (.slice a2 n2 c2)))] #[]) (λv hv=>(λ_=>by kernel_rfl)) hr10<|Dx [] 10 (og f199 6 10) (.func (.method "pergola/trie.under") #[.iface 221 (.agg (brc vs2 (.slice a2 n2 c2)))] #[]) (λv hv=>(λ_=>by kernel_rfl)) hr10<|Dy [11] [12] hr10 ?_;replace hs35:=hs35.go hb37;obtain⟨T42,x43,f44,he45,hi40,hc41⟩:=(Uy (show TA K (u36) (br k2 y2) _ from⟨vs2,_,_,_,rfl,hk2,hy2,hn2⟩) hs35);refine Ym 12 (og f199 6 12) f44 (#[x43]++#[.slice a31 n32 c33]) (λ_=>hi40 _ _ _ _ _ _ _ rfl (by kernel_rfl) (by kernel_rfl)) (R:=TRs K (u36) (und (q.take m) (br k2 y2))) ?_ (λu w' h=>hr10.go h.2) ?_ yn
 ·exact hc41
 rintro vR u38⟨ht,hb39⟩;replace hr10:=hr10.go hb39;refine Dq [13] hr10 ?_;replace hB:=(hB.go hb37).go hb39;exact Hr 2 vR ⟨_,rfl,(by rw[e3,e2];exact ht),hB⟩
theorem Y5(t:Tr):WS t:=by
 induction t with
 |no=>intro K w v a n c q a' n' c' x B hO;exact hO.elim
 |leaf p x0=>
  intro K w v a n c q a' n' c' x B hO h64 hl hnb ht hq hx hx2 hK;obtain⟨a1,n1,c1,a2,n2,c2,rfl,h1,h2,h3⟩:=ht;exact⟨_,_,_,rfl,SL _,SP h1 h2 h3 hq hx hx2 hK hO.1 hnb (Ar hO.2.1 h64) (Ar hl h64)⟩
 |ext p t ih=>
  intro K w v a n c q a' n' c' x B hO h64 hl hnb ht hq hx hx2 hK;obtain⟨a1,n1,c1,u,rfl,h1,h2⟩:=ht;obtain⟨o1,o2,o3,o4,o5⟩:=hO;obtain⟨Tu,xu,rfl⟩:=h2.iface (λe=>by rw[e]at o4;simp[isBr]at o4);have lp:=h1.len;have hcl:=Ni.com_le p q;refine⟨_,_,_,rfl,SM _,?_⟩;by_cases hm:Ni.com p q=n1
  ·exact U2 h1 h2 o5 hq hx hx2 hK rfl hnb (by omega) (by omega) (by omega) hm ih
  ·obtain⟨g,o,rfl,hc⟩:=h1.nth (m:=Ni.com p q) (by omega);have hmem:p.getD (Ni.com p q) 0∈p:=by
    rw[E9,Ac (by omega)];exact Bw _
   have hi:=o1 _ hmem;obtain⟨i,hi2⟩:=Int.eq_ofNat_of_zero_le hi.1;rw[hi2]at hc hi;exact Qh (i:=i) (by omega) h1 h2 o5 hq hx hx2 hK rfl hnb (by omega) (by omega) (by omega) (by omega) hi2 hc
 |br k y ih=>
  intro K w v a n c q a' n' c' x B hO h64 hl hnb ht hq hx hx2 hK;obtain⟨vs,a1,n1,c1,rfl,h1,h2,h3⟩:=ht;refine⟨_,_,_,rfl,MD _,Iu h1 h2 h3 hx hx2 hK hq hnb ?_⟩;rintro i r rfl;rcases hO.1 i with h|⟨_,h0,h⟩
  ·exact .inl h
  ·exact .inr ⟨_,h,by omega,by rw[AU]at hl;omega,ih i⟩
def bra(vs:Nat->Value):Array Value:=#[vs 0,vs 1,vs 2,vs 3,vs 4,vs 5,vs 6,vs 7,vs 8,vs 9,vs 10,vs 11,vs 12,vs 13,vs 14,vs 15]
theorem Qi{w:World}{g:Nat}{vs:Nat->Value}{s:Value}{ρ:Operand->Value}{o:Oper}(h:Rw g w (brc vs s) 221)(x:Operand)(ho:o.op= .load 219 x)(hx:ρ x= .pointer (some ⟨g,0,none⟩)):(execOp ρ o).run prog w= .ok (.value (.agg (bra vs))) w:=by
 refine Uo 219 x g 0 [vs 0,vs 1,vs 2,vs 3,vs 4,vs 5,vs 6,vs 7,vs 8,vs 9,vs 10,vs 11,vs 12,vs 13,vs 14,vs 15] _ ho hx ?_ underlying219 rfl (by kernel_rfl);intro j v hj;have hl:j<16:=(Aw.1 hj).1;rw[AM,Ad _ _ _ _ _ _ h,N9 _ _ _ hl]
 match j,hl,hj with
 |0,_,hj=>exact hj
 |1,_,hj=>exact hj
 |2,_,hj=>exact hj
 |3,_,hj=>exact hj
 |4,_,hj=>exact hj
 |5,_,hj=>exact hj
 |6,_,hj=>exact hj
 |7,_,hj=>exact hj
 |8,_,hj=>exact hj
 |9,_,hj=>exact hj
 |10,_,hj=>exact hj
 |11,_,hj=>exact hj
 |12,_,hj=>exact hj
 |13,_,hj=>exact hj
 |14,_,hj=>exact hj
 |15,_,hj=>exact hj
 |n+16,hl,_=>omega
theorem Y6(vs:Nat->Value)(w:World):∀j:Nat,j<16->(Instr.index 219 (.agg (bra vs)) (.int .i64 (j:Int))).run prog w= .ok (vs j) w
 |0,_=>by kernel_rfl
 |1,_=>by kernel_rfl
 |2,_=>by kernel_rfl
 |3,_=>by kernel_rfl
 |4,_=>by kernel_rfl
 |5,_=>by kernel_rfl
 |6,_=>by kernel_rfl
 |7,_=>by kernel_rfl
 |8,_=>by kernel_rfl
 |9,_=>by kernel_rfl
 |10,_=>by kernel_rfl
 |11,_=>by kernel_rfl
 |12,_=>by kernel_rfl
 |13,_=>by kernel_rfl
 |14,_=>by kernel_rfl
 |15,_=>by kernel_rfl
 |n+16,h=>by omega
theorem Lv{ρ:Operand->Value}{w:World}{o:Oper}(x y:Operand)(vs:Nat->Value)(j:Nat)(hj:j<16)(ho:o.op= .index 219 x y)(hx:ρ x= .agg (bra vs))(hy:ρ y= .int .i64 (j:Int)):(execOp ρ o).run prog w= .ok (.value (vs j)) w:=by
 unfold execOp;rw[ho];simp only[hx,hy,B9,Y6 vs w j hj,Ba,BA]
theorem Y7{K:Nat->Prop}{w0 w:World}{t:Tr}{v:Value}(h:TA K w0 t v){ρ:Operand->Value}{o:Oper}(i:Nat)(r:TypeId)(ho:o.op= .binOp .neq 74 (.tmp i) (.const .nilIface) r)(hx:ρ (.tmp i)=v)(hy:ρ (.const .nilIface)= .nilIface):(execOp ρ o).run prog w= .ok (.value (.bool (!t.isNo))) w:=by
 unfold execOp;rw[ho];simp only[hx,hy];cases t with
 |no=>rw[show v= .nilIface from h];kernel_rfl
 |leaf p x=>obtain⟨_,_,_,_,_,_,rfl,_⟩:=h;kernel_rfl
 |ext p t=>obtain⟨_,_,_,_,rfl,_⟩:=h;kernel_rfl
 |br k x=>obtain⟨_,_,_,_,rfl,_⟩:=h;kernel_rfl
theorem Yg(h:n<16):IntKind.u8.wrap (n:Int)=n:=by unfold IntKind.wrap;simp[IntKind.bits,IntKind.signed];omega
def DS(t:Tr):Prop:=∀{K:Nat->Prop}{w:World}{v:Value}{a:Option Addr}{n c:Nat}{q:List Int}{B:Nat},Ok B t->B<=64->Nb q->Tr.get t q≠[]->TA K w t v->Sk K w a n c q->(∀b,w.heap.size<=b->K b)->MC "pergola/trie.without" v #[.slice a n c] w (TRs K w (del t q))
end Go.Proofs.YtefhepcplempkaaGreat
namespace Go.Proofs.YtefhepcplempkaaGreat
open Tr
variable {K K0 : Nat → Prop} {w w' : World} {g n c cx : Nat} {a ax : Option Addr} {k x : List Int}
structure Tri(K:Nat->Prop)(w:World)(g:Nat)(t:Tr):Prop where
 ex:∃v,Rw g w #[v] 76/\TA K w t v
 ok:t=no∨Ok 64 t
theorem Tri.go{t:Tr}(h:Tri K w g t)(hb:Below w.heap.size w w'):Tri K w' g t:=by
 obtain⟨⟨v,h1,h2⟩,h3⟩:=h;exact⟨⟨v,h1.go hb,h2.go hb⟩,h3⟩
theorem Tri.drew{t:Tr}(h:Tri K w g t):Tri K w.drew g t:=h.go (Ak _ _).drew
theorem Tri.noint{t:Tr}(h:Tri K w g t)(o:Nat)(kd:IntKind)(z:Int):w.cell? ⟨g,o,none⟩≠some (.int kd z):=by
 obtain⟨⟨v,h1,h2⟩,h3⟩:=h;rw[Ad _ _ _ _ _ _ h1];cases o with
 |zero=>intro e;cases e;exact h2.noint _ _ rfl
 |succ o=>simp
theorem JS{t:Tr}{v:Value}(h:TA K w t v):NoInt #[v]:=by
 intro j u hj kd z;cases j with
 |zero=>cases hj;exact h.noint kd z
 |succ j=>simp at hj
theorem Sk.touch{K':Nat->Prop}{t:Tr}{bs:List Int}(h:Sk K w a n c bs)(ht:Touch g w w')(hT:Tri K' w g t):Sk K w' a n c bs:=by
 refine⟨⟨?_,h.ag.nil,h.ag.l,h.ag.b⟩,h.k⟩;rcases h.ag.i with h1|⟨gb,off,h1,h2,h3,h4,h5,h7⟩
 ·exact .inl h1
 ·refine .inr ⟨gb,off,h1,h2,h3,h4,h5,λj hj=>?_⟩;have hne:gb≠g:=λe=>by
   subst e;exact hT.noint _ _ _ (h7 j hj)
  rw[<-h7 j hj];exact Ay (ht.block gb (Af (h7 j hj)) hne)
theorem U3{base:Nat}{bs:List Int}(h:Ni.Cut w base a n bs)(hK:∀b,base<=b->K b):Sk K w a n n bs:=
 ⟨h.ag,λx hx hn=>by obtain⟨g,off,cur,e,hg,_⟩:=h.own hn;rw[e]at hx;cases hx;exact hK _ hg⟩
theorem Qj(h:∀x∈k,0<=x/\x<256):Nb (Ni.nib k):=λi hi=>by have:=Ni.nib_bd k h i hi;omega
theorem NF(hn:n<=32):
 Calls prog 49 #[.slice a n c] w λe w'=>∃u,e= .returned u/\(λu w'=>u= .bool true/\Bl w w') u w':=by
 have hB:=Bl.refl w;refine EO func49 6<|Ht 9 ((n:Int)<=(32:Int)) ?_;exact Hr 4 (.bool true) ⟨_,rfl,rfl,hB⟩
theorem WP(hn:32<n):
 Calls prog 49 #[.slice a n c] w λe w'=>∃u,e= .returned u/\(λu w'=>u= .bool false/\Bl w w') u w':=by
 have hB:=Bl.refl w;refine EO func49 6<|Hf 9 ((n:Int)<=(32:Int)) ?_;exact Hr 4 (.bool false) ⟨_,rfl,rfl,hB⟩
theorem SQ(h0:0<n)(hn:n<=256):
 Calls prog 50 #[.slice a n c] w λe w'=>∃u,e= .returned u/\(λu w'=>u= .bool true/\Bl w w') u w':=by
 have hB:=Bl.refl w;refine EO func50 11<|Ht 9 ((n:Int)>(0:Int))<|Ht 3 ((n:Int)<=(256:Int)) ?_;exact Hr 5 (.bool true) ⟨_,rfl,rfl,hB⟩
theorem SR(h0:n=0):
 Calls prog 50 #[.slice a n c] w λe w'=>∃u,e= .returned u/\(λu w'=>u= .bool false/\Bl w w') u w':=by
 have hB:=Bl.refl w;refine EO func50 11<|Hf 9 ((n:Int)>(0:Int)) ?_;exact Hr 9 (.bool false) ⟨_,rfl,rfl,hB⟩
theorem SS(h0:256<n):
 Calls prog 50 #[.slice a n c] w λe w'=>∃u,e= .returned u/\(λu w'=>u= .bool false/\Bl w w') u w':=by
 have hB:=Bl.refl w;refine EO func50 11<|Ht 9 ((n:Int)>(0:Int))<|Hf 3 ((n:Int)<=(256:Int)) ?_;exact Hr 5 (.bool false) ⟨_,rfl,rfl,hB⟩
theorem RG:
 Calls prog 23 #[] w λe w'=>∃u,e= .returned u/\(λu w'=>(∃g,u= .pointer (some ⟨g,0,none⟩)/\w.heap.size<=g/\Tri K w' g no)/\Bl w w') u w':=by
 have hB:=Bl.refl w;refine EO func23 3<|Hn 8 #[.nilIface] 76 ?_;intro w1 g2 hn3 hr4;replace hB:=hB.go hn3.below;exact Hr 4 (.pointer (some ⟨g2,0,none⟩)) ⟨_,rfl,⟨_,rfl,(by rw[hn3.hg];exact Aa _),⟨⟨_,hr4,rfl⟩, .inl rfl⟩⟩,hB⟩
theorem WQ{v:Value}{t:Tr}(hr:Rw g w #[v] 76)(ht:TA K w t v)(hok:t=no∨Ok 64 t){K1:Nat->Prop}(hk:Sk K1 w a n c k)(hn:n<=32){nx:Nat}(hx:Sk K0 w ax nx cx x)(hx2:nx<=256)(h0:0<nx)(hK:∀b,w.heap.size<=b->K b):
 Calls prog 24 #[.pointer (some ⟨g,0,none⟩), .slice a n c, .slice ax nx cx] w λe w'=>∃u,e= .returned u/\(λu w'=>u= .int .i64 0/\Tri K w' g (put t (Ni.nib k) x)/\Touch g w w') u w':=by
 have hB:=Bl.refl w;have hnb:Nb (Ni.nib k):=Qj hk.ag.b;have hkl:(Ni.nib k).length=2*n:=by rw[Ni.nib_len,hk.len]
 have hg0:g<w.heap.size:=lt_of_get hr;have hPF:t=no∨∃B,Ok B t/\B<=64/\(Ni.nib k).length<=B/\WS t:=by
  rcases hok with h|h
  ·exact .inl h
  ·exact .inr ⟨64,h,Aa _,by omega,Y5 t⟩
 refine EO func24 27<|Hc 10 (args:=#[.slice a n c]) (R:=λu w'=>u= .bool true/\Bl (w) w') ((NF hn)) ?_;rintro _ u1⟨rfl,hb2⟩;refine Hc 8 (args:=#[.slice ax nx cx]) (R:=λu w'=>u= .bool true/\Bl (u1) w') ((SQ h0 hx2)) ?_;rintro _ u3⟨rfl,hb4⟩;refine Hj 9 (λ_=>True) (trivial)<|Dx [0,1] 2 (og f24 5 2) (.pointer (some ⟨g,0,none⟩)) (λv hv=>(λ_=>by kernel_rfl)) trivial<|Dy [3,5,7] [4,6] trivial ?_;replace hr:=((hr.go hb2).go hb4).drew;refine Yx 4 (og f24 5 4) v (λ_=>AA 74 _ ⟨g,0,none⟩ _ _ rfl (by kernel_rfl) (by rw[Ad _ _ _ _ _ _ hr];rfl) underlying74 rfl) trivial ?_ ?_
 ·skip
  refine Dz [6] ?_;replace hk:=((hk.go hb2).go hb4).drew;refine Yc 6 (R:=λu w'=>(∃a',u= .slice a' (2*n) (2*n)/\Ni.Cut w' (u3.drew).heap.size a' (2*n) (Ni.nib k))/\Bl (u3.drew) w') (((Ni.of_any _ _ _ k _ hk.ag (by omega)).mono (λe w' h=>by obtain⟨⟨a',e1,h1⟩,h2⟩:=h;exact⟨_,e1,⟨a',rfl,h1⟩,h2⟩))) (λu w' h=>trivial) ?_ yn;rintro _ u5⟨⟨aq,rfl,hcut⟩,hb6⟩;replace hB:=((hB.go hb2).go hb4).drew;have hsq:=hB.size;have hq:Sk K u5 aq (2*n) (2*n) (Ni.nib k):=U3 hcut (λb hb=>hK b (Ar hsq hb));refine Dz [8] ?_;replace hx:=(((hx.go hb2).go hb4).drew).go hb6;refine Yc 8 (R:=λu w'=>∃a2 n2 c2,u= .slice a2 n2 c2/\Sk (λb=>(u5).heap.size<=b) w' a2 n2 c2 x/\Bl (u5) w') ((G1 hx (by omega))) (λu w' h=>trivial) ?_ yn;rintro _ u7⟨a4,n4,c4,rfl,hs4,hb8⟩;replace hB:=hB.go hb6;have hsz4:=hB.size;replace hs4:Sk K u7 a4 n4 c4 x:=hs4.mono (λb hb=>hK b (Ar hsz4 hb));refine Dz [9] ?_;replace ht:=((((ht.go hb2).go hb4).drew).go hb6).go hb8;replace hB:=hB.go hb8;replace hx:=hx.go hb8;replace hq:=hq.go hb8;refine Yc 9 (R:=TRs K (u7) (put t (Ni.nib k) x)) ((Gs hPF ht hq hnb hs4 (by have e1:=hs4.len;have e2:=hx.len;omega) (λb hb=>hK b (Ar hB.size hb)))) (λu w' h=>trivial) ?_ yn;rintro vR u9⟨htR,hb10⟩;refine Dx [] 10 (og f24 5 10) (.pointer (some ⟨g,0,none⟩)) (λv hv=>(λ_=>by kernel_rfl)) trivial<|Dy [11] [12] trivial ?_;replace hr:=((hr.go hb6).go hb8).go hb10;refine Ya 12 (og f24 5 12) g 0 vR (λ_=>D8 74 _ _ g 0 _ 76 _ hr rfl (by kernel_rfl) (by kernel_rfl) (by show 0<1;omega) htR.cells htR.one (by kernel_rfl)) (λw' h=>trivial) ?_ yn;intro w11 hp12;replace ht:=ht.go hb10;have hbs:=Bs.of hr (JS ht) hp12;replace hB:=hB.go hb10;have htch:=(Touch.of_below (g:=g) hB).trans hp12.touch;replace hx:=hx.go hb10;have hTR:Tri K w11 g (put t (Ni.nib k) x):=⟨⟨vR,hr.set hp12 rfl,htR.bs hbs⟩, .inr (N8 t 64 _ _ hok hnb (by omega) (by intro e;have:=hx.len;rw[e,CB]at this;omega))⟩;refine Do ?_;exact Hr 7 (.int .i64 0) ⟨_,rfl,rfl,hTR,htch⟩
 replace hk:=((hk.go hb2).go hb4).drew;refine Yc 6 (R:=λu w'=>(∃a',u= .slice a' (2*n) (2*n)/\Ni.Cut w' (u3.drew).heap.size a' (2*n) (Ni.nib k))/\Bl (u3.drew) w') (((Ni.of_any _ _ _ k _ hk.ag (by omega)).mono (λe w' h=>by obtain⟨⟨a',e1,h1⟩,h2⟩:=h;exact⟨_,e1,⟨a',rfl,h1⟩,h2⟩))) (λu w' h=>trivial) ?_ yn;rintro _ u13⟨⟨aq,rfl,hcut⟩,hb14⟩;replace hB:=((hB.go hb2).go hb4).drew;have hsq:=hB.size;have hq:Sk K u13 aq (2*n) (2*n) (Ni.nib k):=U3 hcut (λb hb=>hK b (Ar hsq hb));refine Dz [4,8] ?_;replace hr:=hr.go hb14;refine Yx 4 (og f24 5 4) v (λ_=>AA 74 _ ⟨g,0,none⟩ _ _ rfl (by kernel_rfl) (by rw[Ad _ _ _ _ _ _ hr];rfl) underlying74 rfl) trivial ?_ ?_
 ·skip
  refine Dz [8] ?_;replace hx:=(((hx.go hb2).go hb4).drew).go hb14;refine Yc 8 (R:=λu w'=>∃a2 n2 c2,u= .slice a2 n2 c2/\Sk (λb=>(u13).heap.size<=b) w' a2 n2 c2 x/\Bl (u13) w') ((G1 hx (by omega))) (λu w' h=>trivial) ?_ yn;rintro _ u15⟨a4,n4,c4,rfl,hs4,hb16⟩;replace hB:=hB.go hb14;have hsz4:=hB.size;replace hs4:Sk K u15 a4 n4 c4 x:=hs4.mono (λb hb=>hK b (Ar hsz4 hb));refine Dz [9] ?_;replace ht:=((((ht.go hb2).go hb4).drew).go hb14).go hb16;replace hB:=hB.go hb16;replace hx:=hx.go hb16;replace hq:=hq.go hb16;refine Yc 9 (R:=TRs K (u15) (put t (Ni.nib k) x)) ((Gs hPF ht hq hnb hs4 (by have e1:=hs4.len;have e2:=hx.len;omega) (λb hb=>hK b (Ar hB.size hb)))) (λu w' h=>trivial) ?_ yn;rintro vR u17⟨htR,hb18⟩;refine Dx [] 10 (og f24 5 10) (.pointer (some ⟨g,0,none⟩)) (λv hv=>(λ_=>by kernel_rfl)) trivial<|Dy [11] [12] trivial ?_;replace hr:=(hr.go hb16).go hb18;refine Ya 12 (og f24 5 12) g 0 vR (λ_=>D8 74 _ _ g 0 _ 76 _ hr rfl (by kernel_rfl) (by kernel_rfl) (by show 0<1;omega) htR.cells htR.one (by kernel_rfl)) (λw' h=>trivial) ?_ yn;intro w19 hp20;replace ht:=ht.go hb18;have hbs:=Bs.of hr (JS ht) hp20;replace hB:=hB.go hb18;have htch:=(Touch.of_below (g:=g) hB).trans hp20.touch;replace hx:=hx.go hb18;have hTR:Tri K w19 g (put t (Ni.nib k) x):=⟨⟨vR,hr.set hp20 rfl,htR.bs hbs⟩, .inr (N8 t 64 _ _ hok hnb (by omega) (by intro e;have:=hx.len;rw[e,CB]at this;omega))⟩;refine Do ?_;exact Hr 7 (.int .i64 0) ⟨_,rfl,rfl,hTR,htch⟩
 replace hx:=(((hx.go hb2).go hb4).drew).go hb14;refine Yc 8 (R:=λu w'=>∃a2 n2 c2,u= .slice a2 n2 c2/\Sk (λb=>(u13).heap.size<=b) w' a2 n2 c2 x/\Bl (u13) w') ((G1 hx (by omega))) (λu w' h=>trivial) ?_ yn;rintro _ u21⟨a4,n4,c4,rfl,hs4,hb22⟩;replace hB:=hB.go hb14;have hsz4:=hB.size;replace hs4:Sk K u21 a4 n4 c4 x:=hs4.mono (λb hb=>hK b (Ar hsz4 hb));refine Dz [4] ?_;replace hr:=hr.go hb22;refine Yx 4 (og f24 5 4) v (λ_=>AA 74 _ ⟨g,0,none⟩ _ _ rfl (by kernel_rfl) (by rw[Ad _ _ _ _ _ _ hr];rfl) underlying74 rfl) trivial ?_ yn;refine Dz [9] ?_;replace ht:=((((ht.go hb2).go hb4).drew).go hb14).go hb22;replace hB:=hB.go hb22;replace hx:=hx.go hb22;replace hq:=hq.go hb22;refine Yc 9 (R:=TRs K (u21) (put t (Ni.nib k) x)) ((Gs hPF ht hq hnb hs4 (by have e1:=hs4.len;have e2:=hx.len;omega) (λb hb=>hK b (Ar hB.size hb)))) (λu w' h=>trivial) ?_ yn;rintro vR u23⟨htR,hb24⟩;refine Dx [] 10 (og f24 5 10) (.pointer (some ⟨g,0,none⟩)) (λv hv=>(λ_=>by kernel_rfl)) trivial<|Dy [11] [12] trivial ?_;replace hr:=hr.go hb24;refine Ya 12 (og f24 5 12) g 0 vR (λ_=>D8 74 _ _ g 0 _ 76 _ hr rfl (by kernel_rfl) (by kernel_rfl) (by show 0<1;omega) htR.cells htR.one (by kernel_rfl)) (λw' h=>trivial) ?_ yn;intro w25 hp26;replace ht:=ht.go hb24;have hbs:=Bs.of hr (JS ht) hp26;replace hB:=hB.go hb24;have htch:=(Touch.of_below (g:=g) hB).trans hp26.touch;replace hx:=hx.go hb24;have hTR:Tri K w25 g (put t (Ni.nib k) x):=⟨⟨vR,hr.set hp26 rfl,htR.bs hbs⟩, .inr (N8 t 64 _ _ hok hnb (by omega) (by intro e;have:=hx.len;rw[e,CB]at this;omega))⟩;refine Do ?_;exact Hr 7 (.int .i64 0) ⟨_,rfl,rfl,hTR,htch⟩
theorem WR{nx:Nat}(hk:Sk K w a n c k)(hx:Sk K0 w ax nx cx x)(hn:n<=32)(h0:nx=0):
 Calls prog 24 #[.pointer (some ⟨g,0,none⟩), .slice a n c, .slice ax nx cx] w λe w'=>∃u,e= .returned u/\(λu w'=>u= .int .i64 71/\Bl w w') u w':=by
 have hB:=Bl.refl w;refine EO func24 27<|Hc 10 (args:=#[.slice a n c]) (R:=λu w'=>u= .bool true/\Bl (w) w') ((NF hn)) ?_;rintro _ u1⟨rfl,hb2⟩;refine Hc 8 (args:=#[.slice ax nx cx]) (R:=λu w'=>u= .bool false/\Bl (u1) w') ((SR h0)) ?_;rintro _ u3⟨rfl,hb4⟩;replace hB:=(hB.go hb2).go hb4;exact Hr 13 (.int .i64 71) ⟨_,rfl,rfl,hB⟩
theorem WT{nx:Nat}(hk:Sk K w a n c k)(hx:Sk K0 w ax nx cx x)(hn:n<=32)(h0:256<nx):
 Calls prog 24 #[.pointer (some ⟨g,0,none⟩), .slice a n c, .slice ax nx cx] w λe w'=>∃u,e= .returned u/\(λu w'=>u= .int .i64 71/\Bl w w') u w':=by
 have hB:=Bl.refl w;refine EO func24 27<|Hc 10 (args:=#[.slice a n c]) (R:=λu w'=>u= .bool true/\Bl (w) w') ((NF hn)) ?_;rintro _ u1⟨rfl,hb2⟩;refine Hc 8 (args:=#[.slice ax nx cx]) (R:=λu w'=>u= .bool false/\Bl (u1) w') ((SS h0)) ?_;rintro _ u3⟨rfl,hb4⟩;replace hB:=(hB.go hb2).go hb4;exact Hr 13 (.int .i64 71) ⟨_,rfl,rfl,hB⟩
theorem Y8{nx:Nat}(hk:Sk K w a n c k)(hx:Sk K0 w ax nx cx x)(hn:32<n):
 Calls prog 24 #[.pointer (some ⟨g,0,none⟩), .slice a n c, .slice ax nx cx] w λe w'=>∃u,e= .returned u/\(λu w'=>u= .int .i64 70/\Bl w w') u w':=by
 have hB:=Bl.refl w;refine EO func24 27<|Hc 10 (args:=#[.slice a n c]) (R:=λu w'=>u= .bool false/\Bl (w) w') ((WP hn)) ?_;rintro _ u1⟨rfl,hb2⟩;replace hB:=hB.go hb2;exact Hr 13 (.int .i64 70) ⟨_,rfl,rfl,hB⟩
end Go.Proofs.YtefhepcplempkaaGreat
namespace Go.Proofs.YtefhepcplempkaaGreat
variable {n d w k W j : Nat} {α : Type} {b : List Int} {deep : Bool}
inductive T where
 |mk (l:Bool) (bs:List Int) (its:List T)
instance:Inhabited T:=⟨.mk false [] []⟩
def T.l:T->Bool| .mk l _ _=>l
def T.bs:T->List Int| .mk _ bs _=>bs
def T.its:T->List T| .mk _ _ its=>its
def nb(n:Nat):Nat:=if h:n=0 then 0 else 1+nb (n/256)
decreasing_by exact Es (Nat.pos_of_ne_zero h) (by decide)
def be(n:Nat):List Int:=if h:n=0 then[]else be (n/256)++[((n%256:Nat):Int)]
decreasing_by exact Es (Nat.pos_of_ne_zero h) (by decide)
theorem Iw:nb 0=0:=by rw[nb];rfl
theorem H9(h:0<n):nb n=1+nb (n/256):=by rw[nb,dif_neg (by omega)]
theorem Gt:be 0=[]:=by rw[be];rfl
theorem Gc(h:0<n):be n=be (n/256)++[((n%256:Nat):Int)]:=by rw[be,dif_neg (by omega)]
theorem JT(n:Nat):(be n).length=nb n:=by
 induction n using Nat.strongRecOn with
 |_ n ih=>
  by_cases h:n=0
  ·subst h;rw[Gt,Iw];rfl
  ·rw[Gc (by omega),H9 (by omega),Ab,ih _ (Es (by omega) (by decide))];simp[Nat.add_comm]
theorem NG(h0:0<n)(h:n<256):nb n=1:=by rw[H9 h0,show n/256=0 from by omega,Iw]
theorem NH(h0:256<=n)(h:n<65536):nb n=2:=by rw[H9 (by omega),NG (by omega) (by omega)]
theorem Jh(h0:65536<=n)(h:n<16777216):nb n=3:=by rw[H9 (by omega),NH (by omega) (by omega)]
theorem Yh(h:n<4294967296):nb n<=4:=by
 by_cases h0:n=0
 ·subst h0;rw[Iw];omega
 ·by_cases h1:n<256
  ·rw[NG (by omega) h1];omega
  ·by_cases h2:n<65536
   ·rw[NH (by omega) h2];omega
   ·by_cases h3:n<16777216
    ·rw[Jh (by omega) h3];omega
    ·rw[H9 (by omega),Jh (by omega) (by omega)];omega
theorem GO(h:n<16777216):nb n<=3:=by
 by_cases h0:n=0
 ·subst h0;rw[Iw];omega
 ·by_cases h1:n<256
  ·rw[NG (by omega) h1];omega
  ·by_cases h2:n<65536
   ·rw[NH (by omega) h2];omega
   ·rw[Jh (by omega) h];omega
theorem Yi(h:0<n):1<=nb n:=by rw[H9 h];omega
theorem U4(h0:0<n)(h:n<256):be n=[(n:Int)]:=by
 rw[Gc h0,show n/256=0 from by omega,Gt,show n%256=n from by omega];rfl
theorem U5(h0:256<=n)(h:n<65536):be n=[((n/256:Nat):Int),((n%256:Nat):Int)]:=by
 rw[Gc (by omega),U4 (by omega) (by omega)];rfl
theorem U6(h0:65536<=n)(h:n<16777216):be n=[((n/65536:Nat):Int),((n/256%256:Nat):Int),((n%256:Nat):Int)]:=by
 rw[Gc (by omega),U5 (by omega) (by omega),Nat.div_div_eq_div_mul];rfl
def hd(base n:Nat):List Int:=if n<=55 then[((base+n:Nat):Int)]else((base+55+nb n:Nat):Int)::be n
theorem hd_len(base n:Nat):(hd base n).length=1+(if 55<n then nb n else 0):=by
 unfold hd;by_cases h:n<=55
 ·rw[Ai h,Ae (by omega)];rfl
 ·rw[Ae h,Ai (by omega),AU,JT];omega
def bare(l:Bool)(bs:List Int):Bool:=!l&&(decide (bs.length=1)&&decide (bs.headD 0<128))
def baseOf(l:Bool):Nat:=if l then 192 else 128
mutual
def enc:T->List Int
 | .mk l bs its=>if bare l (bs++encs its)then bs++encs its else hd (baseOf l) (bs++encs its).length++(bs++encs its)
def encs:List T->List Int
 |[]=>[]
 |t::r=>enc t++encs r
end
def bodyOf(t:T):List Int:=t.bs++encs t.its
theorem Ew(l:Bool)(bs:List Int)(its:List T):enc (.mk l bs its)=if bare l (bs++encs its)then bs++encs its else hd (baseOf l) (bs++encs its).length++(bs++encs its):=by rw[enc]
theorem Cr:encs []=[]:=by rw[encs]
theorem C7(t:T)(r:List T):encs (t::r)=enc t++encs r:=by rw[encs]
theorem EZ:∀a b:List T,encs (a++b)=encs a++encs b
 |[],b=>by rw[Cr];rfl
 |t::r,b=>by rw[Cq,C7,C7,EZ r b,A9]
mutual
def form:T->Bool
 | .mk l bs its=>(if l then bs.isEmpty else its.isEmpty)&&forms its
def forms:List T->Bool
 |[]=>true
 |t::r=>form t&&forms r
end
theorem Gu(l:Bool)(bs:List Int)(its:List T):form (.mk l bs its)=((if l then bs.isEmpty else its.isEmpty)&&forms its):=by rw[form]
theorem EH:forms []=true:=by rw[forms]
theorem IM(t:T)(r:List T):forms (t::r)=(form t&&forms r):=by rw[forms]
mutual
def byt:T->Prop
 | .mk l bs its=>(∀x∈bs,0<=x/\x<256)/\byts its
def byts:List T->Prop
 |[]=>True
 |t::r=>byt t/\byts r
end
theorem U7(l:Bool)(bs:List Int)(its:List T):byt (.mk l bs its)↔((∀x∈bs,0<=x/\x<256)/\byts its):=by rw[byt]
theorem MG(t:T)(r:List T):byts (t::r)↔(byt t/\byts r):=by rw[byts]
def wt(l:Bool)(bs:List Int)(d:Nat):Nat:=if l&&d==0 then 0 else max bs.length 1
def wrongForm(l:Bool)(bs:List Int)(its:List T):Bool:=(l&&decide (0<bs.length))||(!l&&decide (0<its.length))
mutual
def wk:T->Nat->Nat->Nat×Nat
 | .mk l bs its,d,w=>
  if l&&decide (8<=d)then(w,21)
  else if wrongForm l bs its then(w,23)
  else if 16777215<w+wt l bs d then(w+wt l bs d,20)
  else wks its (d+1) (w+wt l bs d)
def wks:List T->Nat->Nat->Nat×Nat
 |[],d,w=>(w,0)
 |t::r,d,w=>if(wk t d w).2=0 then wks r d (wk t d w).1 else wk t d w
end
theorem Ji(l:Bool)(bs:List Int)(its:List T)(d w:Nat):wk (.mk l bs its) d w=if l&&decide (8<=d)then(w,21)else if wrongForm l bs its then(w,23)else if 16777215<w+wt l bs d then(w+wt l bs d,20)else wks its (d+1) (w+wt l bs d):=by rw[wk]
theorem E1(d w:Nat):wks [] d w=(w,0):=by rw[wks]
theorem FB(t:T)(r:List T)(d w:Nat):wks (t::r) d w=if(wk t d w).2=0 then wks r d (wk t d w).1 else wk t d w:=by rw[wks]
mutual
def sz:T->Nat
 | .mk l bs its=>if bare l bs then bs.length+szs its else 1+(bs.length+szs its)+(if 55<bs.length+szs its then nb (bs.length+szs its)else 0)
def szs:List T->Nat
 |[]=>0
 |t::r=>sz t+szs r
end
def szOf(l:Bool)(bs:List Int)(n:Nat):Nat:=if bare l bs then n else 1+n+(if 55<n then nb n else 0)
def szb(t:T):Nat:=t.bs.length+szs t.its
theorem RH(l:Bool)(bs:List Int)(its:List T):sz (.mk l bs its)=szOf l bs (bs.length+szs its):=by rw[sz];rfl
theorem FM:szs []=0:=by rw[szs]
theorem G3(t:T)(r:List T):szs (t::r)=sz t+szs r:=by rw[szs]
theorem Lw:∀a b:List T,szs (a++b)=szs a+szs b
 |[],b=>by rw[FM];simp
 |t::r,b=>by rw[Cq,G3,G3,Lw r b];omega
theorem T.ind{p:T->Prop}(h:∀l bs its,(∀t∈its,p t)->p (.mk l bs its)):∀t,p t:=by
 intro t;refine T.rec (motive_1:=p) (motive_2:=λits=>∀t∈its,p t) (λl bs its ih=>h l bs its ih) (λt ht=>by cases ht) (λt r ht hr=>?_) t;intro x hx;rcases AP.1 hx with rfl|hx
 ·exact ht
 ·exact hr x hx
theorem Eu{bs:List Int}{its:List T}(h:form (.mk false bs its)=true):its=[]:=by
 rw[Gu]at h;cases its with
 |nil=>rfl
 |cons t r=>simp at h
theorem Fa{bs:List Int}{its:List T}(h:form (.mk true bs its)=true):bs=[]/\forms its=true:=by
 rw[Gu]at h;cases bs with
 |nil=>simpa using h
 |cons t r=>simp at h
theorem Du:∀{its:List T},forms its=true->∀t∈its,form t=true
 |[],_,t,ht=>by cases ht
 |x::r,h,t,ht=>by
  rw[IM,BN]at h;rcases AP.1 ht with rfl|ht
  ·exact h.1
  ·exact Du h.2 t ht
theorem U8(bs:List Int)(l:Bool)(its:List T)(h:form (.mk l bs its)=true):bare l (bs++encs its)=bare l bs:=by
 cases l with
 |true=>simp[bare]
 |false=>rw[Eu h,Cr,A4]
theorem RI{its:List T}(h:∀t∈its,sz t=(enc t).length):szs its=(encs its).length:=by
 induction its with
 |nil=>rw[FM,Cr];rfl
 |cons t r ih=>
  rw[G3,C7,Ab,h t (BY ..),ih λx hx=>h x (AN _ hx)]
theorem U9:∀t,form t=true->sz t=(enc t).length:=by
 refine T.ind λl bs its ih h=>?_;have hf:forms its=true:=by
  cases l with
  |true=>exact(Fa h).2
  |false=>rw[Eu h,EH]
 have hs:=RI (its:=its) λt ht=>ih t ht (Du hf t ht);rw[RH,Ew,U8 _ _ _ h,szOf];by_cases hb:bare l bs=true
 ·rw[Ai hb,Ai hb,hs,Ab]
 ·rw[Ae hb,Ae hb,Ab,hd_len,Ab,hs];omega
theorem Jj{t:T}(h:form t=true):szb t=(bodyOf t).length:=by
 cases t with
 |mk l bs its=>
  have hf:forms its=true:=by
   cases l with
   |true=>exact(Fa h).2
   |false=>rw[Eu h,EH]
  show bs.length+szs its=(bs++encs its).length;rw[Ab,RI λt ht=>U9 t (Du hf t ht)]
theorem NI:∀{its:List T}{d w:Nat},(wks its d w).2=0->∀t∈its,∃w',(wk t d w').2=0
 |[],_,_,_,t,ht=>by cases ht
 |x::r,d,w,h,t,ht=>by
  rw[FB]at h;by_cases h0:(wk x d w).2=0
  ·rw[Ai h0]at h;rcases AP.1 ht with rfl|ht
   ·exact⟨w,h0⟩
   ·exact NI h t ht
  ·rw[Ae h0]at h;exact absurd h h0
theorem OC{its:List T}(h:∀t∈its,form t=true):forms its=true:=by
 induction its with
 |nil=>exact EH
 |cons t r ih=>rw[IM,h t (BY ..),ih λx hx=>h x (AN _ hx)];rfl
theorem OD{l:Bool}{bs:List Int}{its:List T}(h:(wk (.mk l bs its) d w).2=0):(l=true->d<8)/\wrongForm l bs its=false/\w+wt l bs d<=16777215/\wk (.mk l bs its) d w=wks its (d+1) (w+wt l bs d):=by
 rw[Ji]at h⊢;by_cases h1:(l&&decide (8<=d))=true
 ·rw[Ai h1]at h;cases h
 ·rw[Ae h1]at h⊢;by_cases h2:wrongForm l bs its=true
  ·rw[Ai h2]at h;cases h
  ·rw[Ae h2]at h⊢;by_cases h3:16777215<w+wt l bs d
   ·rw[Ai h3]at h;cases h
   ·rw[Ae h3]at h⊢;refine⟨λhl=>?_,by simpa using h2,by omega,rfl⟩;subst hl;simp at h1;omega
theorem Fb{l:Bool}{bs:List Int}{its:List T}(h:wrongForm l bs its=false):(if l then bs.isEmpty else its.isEmpty)=true:=by
 cases l with
 |true=>cases bs<;>simp_all [wrongForm]
 |false=>cases its<;>simp_all [wrongForm]
theorem Jk:∀t,∀d w,(wk t d w).2=0->form t=true:=by
 refine T.ind λl bs its ih d w h=>?_;obtain⟨_,h2,_,h4⟩:=OD h;rw[h4]at h;rw[Gu,Fb h2,EQ];exact OC λt ht=>let⟨w',hw⟩:=NI h t ht;ih t ht _ _ hw
theorem UA{its:List T}(ih:∀t∈its,∀d w,0<d->(wk t d w).2=0->w<=(wk t d w).1/\(wk t d w).1<=16777215+w/\sz t<=10*((wk t d w).1-w)/\(w<=16777215->(wk t d w).1<=16777215)):
 ∀d w,0<d->(wks its d w).2=0->w<=(wks its d w).1/\szs its<=10*((wks its d w).1-w)/\(w<=16777215->(wks its d w).1<=16777215):=by
 induction its with
 |nil=>intro d w _ _;rw[E1,FM];exact⟨Aa _,by simp,λh=>h⟩
 |cons t r ihr=>
  intro d w hd h;rw[FB]at h⊢;by_cases h0:(wk t d w).2=0
  ·rw[Ai h0]at h⊢;obtain⟨a1,_,a2,a3⟩:=ih t (BY ..) d w hd h0;obtain⟨b1,b2,b3⟩:=ihr (λx hx=>ih x (AN _ hx)) d _ hd h;rw[G3];exact⟨by omega,by omega,λhw=>b3 (a3 hw)⟩
  ·rw[Ae h0]at h;exact absurd h h0
theorem Y9{l:Bool}{bs:List Int}(h:0<d):wt l bs d=max bs.length 1:=by
 unfold wt;rw[Ae];simp;omega
theorem RJ(l:Bool)(bs:List Int)(n:Nat)(h:n<4294967296):szOf l bs n<=n+5:=by
 unfold szOf;split
 ·omega
 ·split
  ·have:=Yh h;omega
  ·omega
theorem Yj:∀t,∀d w,0<d->(wk t d w).2=0->w<=(wk t d w).1/\(wk t d w).1<=16777215+w/\sz t<=10*((wk t d w).1-w)/\(w<=16777215->(wk t d w).1<=16777215):=by
 refine T.ind λl bs its ih d w hd h=>?_;obtain⟨_,h2,h3,h4⟩:=OD h;rw[h4]at h⊢;obtain⟨b1,b2,b3⟩:=UA ih (d+1) _ (by omega) h;have b4:=b3 h3;rw[Y9 hd]at*;have hf:=Fb h2;rw[RH];cases l with
 |true=>
  have:bs=[]:=by simpa using hf
  subst this;have hx:(([]:List Int).length+szs its)=szs its:=by simp
  rw[hx];have hl:max ([]:List Int).length 1=1:=by simp
  rw[hl]at b1 b2 b3 b4 h3⊢;have:=RJ true [] (szs its) (by omega);exact⟨by omega,by omega,by omega,λ_=>b4⟩
 |false=>
  have:its=[]:=by simpa using hf
  subst this;rw[FM];have:=RJ false bs bs.length (by omega);rw[E1]at*;exact⟨by show w<=w+_;omega,by show w+_<=_;omega,by show szOf false bs bs.length<=10*(w+max bs.length 1-w);omega,λ_=>h3⟩
theorem IN:∀(a b:List T)(d w:Nat),wks (a++b) d w=if(wks a d w).2=0 then wks b d (wks a d w).1 else wks a d w
 |[],b,d,w=>by rw[E1];rfl
 |t::r,b,d,w=>by
  rw[Cq,FB,FB];by_cases h:(wk t d w).2=0
  ·rw[Ai h,Ai h,IN r b]
  ·rw[Ae h,Ae h,Ae h]
theorem DT{l:List α}{t:α}(h:l[k]?=some t):l.take (k+1)=l.take k++[t]:=by
 rw[C4,h];rfl
theorem MH{l:List α}{t:α}(h:l[k]?=some t):l=l.take k++t::l.drop (k+1):=by
 obtain⟨hk,e⟩:=Aw.1 h;rw[<-e];simp
theorem Lx{its:List T}{t:T}(h:its[k]?=some t)(h0:wks (its.take k) d w=(W,0))(h1:(wk t d W).2=0):wks (its.take (k+1)) d w=((wk t d W).1,0):=by
 rw[DT h,IN,h0,Ai rfl,FB,Ai h1,E1]
theorem Ly{its:List T}{t:T}(h:its[k]?=some t)(h0:wks (its.take k) d w=(W,0))(h1:(wk t d W).2≠0):wks its d w=wk t d W:=by
 rw[MH h,IN,h0,Ai rfl,FB,Ae h1]
theorem UB{its:List T}{t:T}(h:its[k]?=some t):szs (its.take (k+1))=szs (its.take k)+sz t:=by
 rw[DT h,Lw,G3,FM];rfl
theorem JU{its:List T}(hd:0<d)(hw:w<=16777215)(h:wks its d w=(W,0)):w<=W/\W<=16777215/\szs its<=10*(W-w):=by
 obtain⟨h1,h2,h3⟩:=UA (its:=its) (λt _=>Yj t) d w hd (by rw[h]);rw[h]at h1 h2 h3;exact⟨h1,h3 hw,h2⟩
theorem Lz{t:T}(hd:0<d)(hw:w<=16777215)(h:(wk t d w).2=0):w<=(wk t d w).1/\(wk t d w).1<=16777215/\sz t<=10*((wk t d w).1-w):=by
 obtain⟨h1,_,h2,h3⟩:=Yj t d w hd h;exact⟨h1,h3 hw,h2⟩
theorem KX(l:Bool)(bs:List Int)(n:Nat):n<=szOf l bs n:=by unfold szOf;split<;>omega
theorem UC(t:T):sz t=szOf t.l t.bs (szb t):=by
 cases t with
 |mk l bs its=>exact RH l bs its
def val(b:List Int):Nat:=b.foldl (λn x=>n*256+x.toNat) 0
theorem Jl(b:List Int)(x:Int):val (b++[x])=val b*256+x.toNat:=by simp[val]
theorem UD:∀(k:Nat)(b:List Int),b.length=k->(∀x∈b,0<=x/\x<256)->val b<256^k
 |0,b,h,_=>by rw[A3 h];decide
 |k+1,b,h,hb=>by
  obtain⟨i,x,rfl⟩:∃i x,b=i++[x]:=⟨b.dropLast,b.getLast (by intro hh;rw[hh]at h;simp at h),(List.dropLast_concat_getLast _).symm⟩;rw[Jl];have h1:=UD k i (by simp at h;omega) (λy hy=>hb y (Dp _ hy));have h2:=hb x (by simp);rw[Nat.pow_succ];omega
theorem DN(hb:∀x∈b,0<=x/\x<256)(hj:j<=b.length)(h3:j<=3):val (b.take j)<256^j/\256^j<=16777216:=by
 refine⟨UD j _ (by rw[Am];omega) (λx hx=>hb x (Bn hx)),?_⟩;have:j=0∨j=1∨j=2∨j=3:=by omega
 rcases this with rfl|rfl|rfl|rfl<;>decide
theorem L0(hj:j<b.length):val (b.take (j+1))=val (b.take j)*256+(b.getD j 0).toNat:=by
 rw[DT (Ac hj),Jl];simp[Ac hj]
def lenIn(b:List Int)(c:Nat):Nat×Nat:=
 if 3<c then(0,23)else if b.length<c then(0,22)else if b.headD 0=0∨val (b.take c)<=55 then(0,23)else(val (b.take c),0)
inductive HR where
 |bad (e:Nat)
 |ok (f t:Nat)
def nOf(c:Int):Nat:=(c-(if 192<=c then 192 else 128)).toNat
def hdr(deep:Bool)(b:List Int):HR:=
 match b with
 |[]=> .bad 22
 |c::r=>
  if 192<=c/\deep=true then .bad 21
  else if c<128 then .ok 0 1
  else if 55<nOf c then
   if(lenIn r (nOf c-55)).2≠0 then .bad (lenIn r (nOf c-55)).2
   else if b.length-(1+(nOf c-55))<(lenIn r (nOf c-55)).1 then .bad 22
   else .ok (1+(nOf c-55)) (1+(nOf c-55)+(lenIn r (nOf c-55)).1)
  else if b.length-1<nOf c then .bad 22 else .ok 1 (1+nOf c)
inductive R where
 |bad (e:Nat)
 |ok (t:T) (n:Nat)
inductive RL where
 |bad (e:Nat)
 |ok (ts:List T)
def rdAll(f:List Int->R):Nat->List Int->RL
 |_,[]=> .ok []
 |0,_::_=> .bad 0
 |n+1,x::b=>match f (x::b)with
  | .bad e=> .bad e
  | .ok t m=>match rdAll f n ((x::b).drop m)with
   | .bad e=> .bad e
   | .ok ts=> .ok (t::ts)
def rd1(g:List Int->R)(deep:Bool)(b:List Int):R:=
 match hdr deep b with
 | .bad e=> .bad e
 | .ok f t=>
  if b.headD 0<192 then(if f=1/\t=2/\b.getD 1 0<128 then .bad 23 else .ok (.mk false ((b.take t).drop f) []) t)
  else match rdAll g ((b.take t).drop f).length ((b.take t).drop f)with
   | .bad e=> .bad e
   | .ok ts=> .ok (.mk true [] ts) t
def rd:Nat->List Int->R
 |0=>rd1 (λ_=> .bad 21) true
 |k+1=>rd1 (rd k) false
theorem Ia{c:Nat}(h:(lenIn b c).2=0):c<=3/\c<=b.length/\b.headD 0≠0/\55<val (b.take c)/\(lenIn b c).1=val (b.take c):=by
 unfold lenIn at*;by_cases h1:3<c
 ·rw[Ai h1]at h;cases h
 ·rw[Ae h1]at h⊢;by_cases h2:b.length<c
  ·rw[Ai h2]at h;cases h
  ·rw[Ae h2]at h⊢;by_cases h3:b.headD 0=0∨val (b.take c)<=55
   ·rw[Ai h3]at h;cases h
   ·rw[Ae h3];exact⟨by omega,by omega,λh=>h3 (.inl h),by omega,rfl⟩
theorem L3{f t:Nat}(h:hdr deep b= .ok f t):f<=t/\t<=b.length/\1<=t/\0<b.length:=by
 unfold hdr at h;split at h
 ·cases h
 ·rename_i c r;split at h
  ·cases h
  ·split at h
   ·cases h;simp
   ·split at h
    ·split at h
     ·cases h
     ·rename_i h3 h4;have:=Ia (Decidable.not_not.1 h4);split at h
      ·cases h
      ·cases h;simp only[AU]at*;omega
    ·split at h
     ·cases h
     ·cases h;simp only[AU]at*;omega
theorem UE{g:List Int->R}{t:T}(h:rd1 g deep b= .ok t n):1<=n/\n<=b.length:=by
 unfold rd1 at h;split at h
 ·cases h
 ·rename_i f t' hh;have:=L3 hh;split at h
  ·split at h
   ·cases h
   ·cases h;omega
  ·split at h
   ·cases h
   ·cases h;omega
theorem OE{t:T}(h:rd k b= .ok t n):1<=n/\n<=b.length:=by
 cases k with
 |zero=>exact UE h
 |succ k=>exact UE h
theorem Fq(f:List Int->R)(n:Nat):rdAll f n []= .ok []:=by cases n<;>rfl
theorem FR{f:List Int->R}{e:Nat}(hb:b≠[])(h:f b= .bad e):rdAll f (n+1) b= .bad e:=by
 cases b with
 |nil=>exact absurd rfl hb
 |cons x b=>rw[rdAll,h]
theorem G4{f:List Int->R}{m:Nat}{t:T}(hb:b≠[])(h:f b= .ok t m):rdAll f (n+1) b=match rdAll f n (b.drop m)with| .bad e=> .bad e| .ok ts=> .ok (t::ts):=by
 cases b with
 |nil=>exact absurd rfl hb
 |cons x b=>rw[rdAll,h]
theorem L4{f:List Int->R}(hf:∀b t m,f b= .ok t m->1<=m):∀n m b,b.length<=n->b.length<=m->rdAll f n b=rdAll f m b
 |_,_,[],_,_=>by rw[Fq,Fq]
 |n+1,m+1,x::b,h1,h2=>by
  cases h:f (x::b)with
  |bad e=>rw[FR (by simp) h,FR (by simp) h]
  |ok t k=>
   have hk:=hf _ _ _ h;rw[G4 (by simp) h,G4 (by simp) h,L4 hf n m ((x::b).drop k) (by simp at*;omega) (by simp at*;omega)]
end Go.Proofs.YtefhepcplempkaaGreat
namespace Go.Proofs.YtefhepcplempkaaGreat
variable {w : World} {a : Option Addr} {k : Nat}
structure V where
 l:Bool
 ba:Option Addr
 bn:Nat
 bc:Nat
 ia:Option Addr
 m:Nat
 ic:Nat
def V.v(x:V):Value:= .agg #[.bool x.l, .slice x.ba x.bn x.bc, .slice x.ia x.m x.ic]
mutual
def Lies(w:World):T->V->Prop
 | .mk l bs its,x=>x.l=l/\Ag w x.ba x.bn x.bc bs/\x.m=its.length/\x.m<=x.ic/\x.ic<=maxLen/\(x.bn<=140737488351232/\x.m<=140737488351232)/\LiesAll w its x.ia 0
def LiesAll(w:World):List T->Option Addr->Nat->Prop
 |[],_,_=>True
 |t::r,a,k=>(∃g off y,a=some ⟨g,off,none⟩/\w.cell? ⟨g,off+k*3,none⟩=some (.bool y.l)/\w.cell? ⟨g,off+k*3+1,none⟩=some (.slice y.ba y.bn y.bc)/\w.cell? ⟨g,off+k*3+2,none⟩=some (.slice y.ia y.m y.ic)/\Lies w t y)/\LiesAll w r a (k+1)
end
theorem lies_eq{l:Bool}{bs:List Int}{its:List T}{x:V}:Lies w (.mk l bs its) x↔(x.l=l/\Ag w x.ba x.bn x.bc bs/\x.m=its.length/\x.m<=x.ic/\x.ic<=maxLen/\(x.bn<=140737488351232/\x.m<=140737488351232)/\LiesAll w its x.ia 0):=by rw[Lies]
theorem liesAll_cons{t:T}{r:List T}:LiesAll w (t::r) a k↔((∃g off y,a=some ⟨g,off,none⟩/\w.cell? ⟨g,off+k*3,none⟩=some (.bool y.l)/\w.cell? ⟨g,off+k*3+1,none⟩=some (.slice y.ba y.bn y.bc)/\w.cell? ⟨g,off+k*3+2,none⟩=some (.slice y.ia y.m y.ic)/\Lies w t y)/\LiesAll w r a (k+1)):=by rw[LiesAll]
theorem DD:LiesAll w [] a k:=by rw[LiesAll];trivial
structure At(w:World)(a:Option Addr)(k:Nat)(t:T)(g off:Nat)(y:V):Prop where
 ha:a=some ⟨g,off,none⟩
 c0:w.cell? ⟨g,off+k*3,none⟩=some (.bool y.l)
 c1:w.cell? ⟨g,off+k*3+1,none⟩=some (.slice y.ba y.bn y.bc)
 c2:w.cell? ⟨g,off+k*3+2,none⟩=some (.slice y.ia y.m y.ic)
 li:Lies w t y
theorem Eh{w:World}{a:Option Addr}:∀{its:List T}{k:Nat},LiesAll w its a k->∀i,∀t,its[i]?=some t->∃g off y,At w a (k+i) t g off y
 |[],k,_,i,t,h=>by simp at h
 |t::r,k,hl,i,u,h=>by
  obtain⟨⟨g,off,y,h1,h2,h3,h4,h5⟩,hr⟩:=liesAll_cons.1 hl;cases i with
  |zero=>
   simp at h;subst h;exact⟨g,off,y,h1,h2,h3,h4,h5⟩
  |succ i=>
   simp at h;obtain⟨g',off',y',h'⟩:=Eh hr i u h;rw[show k+1+i=k+(i+1)from by omega]at h';exact⟨g',off',y',h'⟩
theorem Ci{w':World}(hb:Below w.heap.size w w'):∀t,∀x,Lies w t x->Lies w' t x:=by
 refine T.ind λl bs its ih x h=>?_;obtain⟨h1,h2,h3,h4,h5,h7,h6⟩:=lies_eq.1 h;refine lies_eq.2 ⟨h1,h2.at hb,h3,h4,h5,h7,?_⟩;clear h1 h2 h3 h4 h5 h7 h;generalize x.ia=a at h6;generalize 0=k at h6
 induction its generalizing k with
 |nil=>exact DD
 |cons t r ihr=>
  obtain⟨⟨g,off,y,h1,h2,h3,h4,h5⟩,hr⟩:=liesAll_cons.1 h6;refine liesAll_cons.2 ⟨⟨g,off,y,h1,?_,?_,?_,ih t (BY ..) y h5⟩,ihr (λu hu=>ih u (AN _ hu)) _ hr⟩
  ·exact(hb.cell (p:=⟨g,off+k*3,none⟩) (Af h2)).trans h2
  ·exact(hb.cell (p:=⟨g,off+k*3+1,none⟩) (Af h3)).trans h3
  ·exact(hb.cell (p:=⟨g,off+k*3+2,none⟩) (Af h4)).trans h4
theorem UF:∀t,∀x,Lies w t x->byt t:=by
 refine T.ind λl bs its ih x h=>?_;obtain⟨h1,h2,h3,h4,h5,h7,h6⟩:=lies_eq.1 h;refine(U7 l bs its).2 ⟨h2.b,?_⟩;clear h1 h2 h3 h4 h5 h7 h;generalize x.ia=a at h6;generalize 0=k at h6
 induction its generalizing k with
 |nil=>rw[byts];trivial
 |cons t r ihr=>
  obtain⟨⟨g,off,y,h1,h2,h3,h4,h5⟩,hr⟩:=liesAll_cons.1 h6;exact(MG t r).2 ⟨ih t (BY ..) y h5,ihr (λu hu=>ih u (AN _ hu)) _ hr⟩
theorem ag_head{n c:Nat}{bs:List Int}(h:Ag w a n c bs)(h1:0<n):∃g off,a=some ⟨g,off,none⟩/\n<=c/\c<=maxLen/\∀j,j<n->w.cell? ⟨g,off+j,none⟩=some (.int .u8 (bs.getD j 0)):=by
 rcases h.i with⟨h0,_⟩|⟨g,off,h2,h3,h4,h5,h6,h7⟩
 ·omega
 ·exact⟨g,off,h2,h5,h6,λj hj=>h7 j (by omega)⟩
theorem cell_alloc{g off:Nat}{v:Value}(h:w.cell? ⟨g,off,none⟩=some v):∀o,(w.alloc o).cell? ⟨g,off,none⟩=some v:=λo=>(Ay (w:=w) (Az w _ _ (Af h))).trans h
theorem OF(l:Bool)(ba:Option Addr)(bn bc:Nat)(ia:Option Addr)(m ic:Nat)(bs:List Int)(w:World)(h:Ag w ba bn bc bs):
 Calls prog 128 #[.agg #[.bool l, .slice ba bn bc, .slice ia m ic]] w λe w'=>e= .returned (.bool (bare l bs))/\Below w.heap.size w w':=by
 cases l with
 |true=>
  go_enter func128,ntmps128;go_wp2_with fail;go_ret;exact⟨by simp[bare],(Ak _ _).alloc (Aa _) _⟩
 |false=>
  by_cases h1:bn=1
  ·subst h1;obtain⟨g,off,rfl,hc1,hc2,hc⟩:=ag_head h (by omega);have hc:=hc 0 (by omega);have hl:=h.l
   match bs,hl with
   |[x],_=>
    simp at hc;have hx:=h.b x (by simp);have hc2:=cell_alloc hc;clear h;go_enter func128,ntmps128;go_wp2_with fail;go_ret;exact⟨by simp[bare],(Ak _ _).alloc (Aa _) _⟩
  ·have hl:=h.l;have hb:(bn==1)=false:=(by simp[h1]);have hbi:((bn:Int)==1)=false:=(by simp;omega);clear h;go_enter func128,ntmps128;go_wp2_with fail;go_ret;exact⟨by simp[bare,hl,h1],(Ak _ _).alloc (Aa _) _⟩
end Go.Proofs.YtefhepcplempkaaGreat
