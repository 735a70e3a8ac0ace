/- What the document's Encode answers. -/
import Derived.Test.YtkdlocloepbmcaaGreatG15
set_option linter.unusedVariables false
set_option linter.unusedSimpArgs false
set_option maxRecDepth 100000
set_option maxHeartbeats 8000000
open Go.Proofs.Tryz Go.RowKit
namespace Go.Proofs.YtkdlocloepbmcaaGreat
section
variable {gI : Nat} {w : World} {n : PN}
theorem WH{l:Bool}{bs:τ}{its:List T}(h:(wk (.mk l bs its) 0 0).2=0):bs.length<=16777215/\szs its<=167772150/\rszs its<=szs its/\Like (rszs its) (szs its):=by
 have c:=IZ _ 0 0 h;obtain⟨o,i,a,j⟩:=OK h;have d:=EM i;have m:bs.length<=16777215:=by
  cases l with
  |true=>have e:bs=[]:=(by simpa using d);rw[e];simp
  |false=>unfold wt at a;simp at a;omega
 have b:forms its=true:=by
  cases l with
  |true=>exact(EL c).2
  |false=>rw[Ej c,E3]
 have f:=It λt k=>PG t (CN b t k);rw[j]at h;obtain⟨W,g⟩:∃W,wks its 1 (0+wt l bs 0)=(W,0):=⟨(wks its 1 (0+wt l bs 0)).1,Prod.ext rfl h⟩;have n:=JL (by omega) a g;exact⟨m,by omega,Zd b,f⟩
theorem K5(t:T)(x:V)(w:Γ)(j:Lies w t x):
 Calls prog 93 #[γ #[β x.l,σ x.ba x.bn x.bc,σ x.ia x.m x.ic]] w λe w'=>(∃a n c,e=ω (θ #[σ a n c,ι ((encP t).2:Nat)])/\Ag w' a n c (encP t).1/\(x.l=true->Nw w.heap.size a))/\Λ w w':=by
 obtain⟨l,bs,its⟩:=t;have G:=Aa (below_new w (.cells #[β x.l,σ x.ba x.bn x.bc,σ x.ia x.m x.ic] 108));have H:=Aa (E9 w x);have M:=Aa (Cl G.out _ x j);have U:=(lies_eq.1 j).2.2.1;have ae:=(lies_eq.1 j).2.2.2.2.2.1.2;have F:=(lies_eq.1 j).2.1.l;have S:=Aa U;have b:=walk_any (.mk l bs its) x _ 0 0 M.out (by omega) (by omega);rw[show((0:Nat):Int)=0 from rfl]at b;obtain⟨⟨ww,I⟩,m⟩:∃r,wk (.mk l bs its) 0 0=r:=⟨_,rfl⟩;rw[m]at b;simp only at b;by_cases O:I=0
 case neg=>
  have hm:mP (.mk l bs its)=(0,I):=by unfold mP;rw[m,Ai (by simpa using O)]
  have k:encP (.mk l bs its)=([],I):=by unfold encP;rw[hm,Ae (by simpa using O)]
  rw[k];have a8:((I:Int) !=0)=true:=by rw[BU];omega
  have HC:=Aa b;clear b hm k j m U F ae;go_enter func93,ntmps93;go_wp2_with fail;refine HC.out.mono ?_;rintro e w1⟨rfl,f⟩;have o:=Aa (below_go G.out f);clear f HC;go_wp2_with fail;go_ret2;exact⟨⟨none,0,0,rfl,ag_nil _,λ_ g off h=>by cases h⟩,o.out⟩
 subst O;rw[show((0:Nat):Int)=0 from rfl]at b;have C:(wk (.mk l bs its) 0 0).2=0:=by rw[m]
 obtain⟨s1,s2,s3,s4⟩:=WH C;have am:forms its=true:=by
  have hf:=IZ _ 0 0 C;cases l with
  |true=>exact(EL hf).2
  |false=>rw[Ej hf,E3]
 have af:mP (.mk l bs its)=if 16777215<bs.length+szs its then(0,20)else(sz (.mk l bs its),0):=by unfold mP;rw[Ae (by rw[C];simp)];rfl
 have hN:(16777215<bs.length+szs its)↔(16777215<bs.length+rszs its):=by unfold Like at s4;omega
 have X:(bodyOf (.mk l bs its)).length=bs.length+szs its:=by rw[<-IY (IZ _ 0 0 C)];rfl
 obtain⟨E,W⟩:∃E,encP (.mk l bs its)=E:=⟨_,rfl⟩;rw[W];have ai:Hid (encP (.mk l bs its)=E):=Aa W;have ac:=Aa af;have HN:=Aa hN;have al:=Aa X;have a4:=Aa am;have HC:=Aa b;obtain⟨xl,a7,a1,ba,az,s,bf⟩:=x;simp only at ae F H G M S HC;have bc:=Aa F;obtain⟨LB,P⟩:∃LB,bs.length=LB:=⟨_,rfl⟩;have aw:LB=a1:=by omega
 subst aw;clear b W af hN X am j m C U s4 F;have a9:=Aa P;rw[P]at s1 ac HN al;clear P;go_enter func93,ntmps93;go_wp2_with fail;refine HC.out.mono ?_;rintro e w1⟨rfl,f⟩;obtain⟨c0,c1,c2⟩:=H.out.go f;simp only at c0 c1 c2;have o:=Aa (below_go G.out f);have ap:=Aa (Cl f _ _ M.out);have ar:=Aa (H.out.go f);clear f HC H M;go_wp2_with fail
 go_loopw [6,7] (λp q v=>∃u:Nat,u<=s/\q=ι u/\p=ι (LB+rszs (its.take u):Nat)/\Λ w1 v) (λ_ q _=>s-(intOf q).toNat)
 case atStart=>exact⟨0,by omega,rfl,by rw[BM,FQ];rfl,Ac _ _⟩
 case round=>
  clear c0 c1 c2;obtain⟨u,hu,rfl,rfl,N⟩:=hrel;obtain⟨d0,d1,d2⟩:=ar.out.go N;simp only at d0 d1 d2;have d:=Aa N;clear N;by_cases bb:u<s
  ·have a0:(u:Int)<s:=(by omega);obtain⟨t,J⟩:∃t,its[u]?=some t:=⟨its[u]'(by have:=S.out;omega),Ad _⟩;obtain⟨g,off,y,A⟩:=Eb (lies_eq.1 ap.out).2.2.2.2.2.2 u t J;rw[A6]at A;have ha:az=some ⟨g,off,none⟩:=A.ha;subst ha;have y0:=AS d.out A.c0;have y1:=AS d.out A.c1;have y2:=AS d.out A.c2;have aa:=AL J;have aq:=Nc J;have a6:=Nf (its:=its) (u+1);have b:=WG t y wr (Cl d.out t y A.li) (CN a4.out t aa) (by omega);obtain⟨K,ah⟩:∃K,LB+rszs (its.take u)=K:=⟨_,rfl⟩;obtain⟨L,ab⟩:∃L,rsz t=L:=⟨_,rfl⟩;have ao:LB+rszs (its.take (u+1))=K+L:=(by omega);rw[ah];rw[ab]at b;have HC:=Aa b;have a3:=Aa ao;have f:K+L<=1000000000000:=(by omega);clear b J A aa aq a6 ah ab ao;go_wp2_with fail;refine HC.out.mono ?_;rintro e w2⟨rfl,z⟩;have R:=Aa (below_go d.out z);clear z;go_wp2_with fail;exact⟨⟨u+1,by omega,by simp,by rw[a3.out];simp,R.out⟩,by simp[intOf];omega⟩
  ·have a0:¬(u:Int)<s:=(by omega);have aj:its.take u=its:=A9 (by rw[<-S.out];omega);rw[aj];have D:=HN.out;have i:=ac.out;have ak:=al.out;obtain⟨B,Q⟩:∃B,LB+rszs its=B:=⟨_,rfl⟩;rw[Q]at D⊢;clear aj;by_cases Z:16777215<B
   ·have ay:(B:Int)>16777215:=(by omega);rw[Ai (D.2 Z)]at i;have k:E=([],20):=(by rw[<-ai.out];unfold encP;rw[i,Ae (by decide)]);subst k;clear D i ak Q;go_wp2_with fail;go_ret2;exact⟨⟨none,0,0,rfl,ag_nil _,λ_ g off h=>by cases h⟩,below_go o.out d.out⟩
   ·have ay:¬(B:Int)>16777215:=(by omega);have av:¬16777215<LB+szs its:=λh=>Z (D.1 h);rw[Ae av]at i;have k:E=(enc (.mk l bs its),0):=(by rw[<-ai.out];unfold encP;rw[i,Ai rfl]);subst k;have b:=Re (.mk l bs its) _ wr (Cl d.out _ _ ap.out) (by omega);have HC:=Aa b;clear D i ak Q b;go_wp2_with fail;refine HC.out.mono ?_;rintro e w2⟨⟨a2,n2,c2,rfl,Y,ad⟩,z⟩;have ax:=Aa (λh=>(ad h).mono (Au o.out.size d.out.size));have a5:=Aa Y;have R:=Aa (below_go d.out z);clear Y z ad;go_wp2_with fail;go_ret2;exact⟨⟨a2,n2,c2,rfl,a5.out,ax.out⟩,below_go o.out R.out⟩
section
variable {a : Act} {w : World}
theorem J6{x:Operand}{p:Addr}{v:Δ}{o:Oper}(c:o.op= .load 119 x)(b:a.eval x= .pointer (some p))(d:w.cell? p=some v):(execOp a.eval o).run prog w= .ok (.value v) w:=by
 unfold execOp;rw[c];simp only[b];go_simp
theorem Uo{x y:Operand}{g off j m c:Nat}{o:Oper}(b:o.op= .indexAddr 119 x y)(e:a.eval x=σ (ζ g off) m c)(d:a.eval y=ι j)(h:j<m):(execOp a.eval o).run prog w= .ok (.value (ψ g (off+j*34))) w:=by
 have f:(j:Int)<m:=by omega
 unfold execOp;rw[b];simp only[e,d];go_simp
end
section
variable {a : Act} {w : World}
theorem FG{x:Operand}{o:Oper}(c:o.op= .buildSlice 106 1 #[(0,x)])(p:V)(b:a.eval x=γ #[β p.l,σ p.ba p.bn p.bc,σ p.ia p.m p.ic]):
 (execOp a.eval o).run prog w= .ok (.value (σ (some ⟨w.heap.size,0,none⟩) 1 1)) (w.alloc (.cells #[β p.l,σ p.ba p.bn p.bc,σ p.ia p.m p.ic] 108)):=by
 unfold execOp;rw[c];simp only[BT,Bd,BY,b];go_simp
theorem Iu{w':Γ}{s x:Operand}{o:Oper}(c:o.op= .call {callee:= .builtin .append,args:=#[s,x],argTypes:=#[106,106]})(v u:Δ)(hd:a.eval s=v)(b:a.eval x=u){v':Δ}
 (d:(Builtin.append_ #[106,106] o.type #[v,u]).run prog w= .ok v' w'):(execOp a.eval o).run prog w= .ok (.value v') w':=by
 simp[execOp,c,resolve,invoke,builtin,hd,b,d,Result.andThen]
theorem FH{x y:Operand}{o:Oper}(d:o.op= .store 106 x y)(g:Nat)(it old:Δ)(f:∃b m c,it=σ b m c)(h:a.eval x=ψ g 2)(e:a.eval y=it)(j:w.cell? ⟨g,2,none⟩=some old)(i:∀o,w.frozen? ⟨g,o,none⟩=false):
 (execOp a.eval o).run prog w= .ok .skip (w.setCell ⟨g,2,none⟩ it):=by
 obtain⟨b,m,c,rfl⟩:=f;unfold execOp;rw[d];simp only[h,e];go_simp
end
theorem So.one{v:World}{it:Value}{ts:List T}(h:So gI v it ts):∃a m b,it= .slice a m b:=by
 obtain⟨a,b,e,_⟩:=h.full (w:=v);exact⟨a,_,b,e⟩
def EEPost(w:Γ)(n:PN):Ending->Γ->Prop:=λe w'=>(∃a m c,e=ω (θ #[σ a m c,ι (if NR n=true then 0 else 50)])/\Ag w' a m c (if NR n=true then NE n else[])/\Nw w.heap.size a)/\Λ w w'
theorem He{u:World}{it:Value}{b:List T}(s:Full gI w u it b)(t:b.length<=1000)(g: .mk true [] b=itemP n)(h:(mP (itemP n)).2=0):
 ∃d m f,it= .slice d m f/\Calls prog 93 #[.agg #[.bool true, .slice none 0 0, .slice d m f]] u λe w'=>(∃a m c,e= .returned (.tuple #[.slice a m c, .int .i64 0])/\Ag w' a m c (NE n)/\Nw u.heap.size a)/\Below u.heap.size u w':=by
 obtain⟨d,f,rfl,o,j,p⟩:=s;refine⟨d,_,f,rfl,(K5 (.mk true [] b) ⟨true,none,0,0,d,b.length,f⟩ u (lies_eq.2 ⟨rfl,⟨.inl ⟨rfl,rfl⟩,λ_=>⟨rfl,rfl⟩,rfl,λx i=>by cases i⟩,rfl,o,j,⟨A8 _,by show b.length<=_;omega⟩,p⟩)).mono ?_⟩;rw[g,Gl h];rintro e w'⟨⟨a,m,c,k,r,q⟩,l⟩;exact⟨⟨a,m,c,k,r,q rfl⟩,l⟩
theorem En.drew{v:Γ}{x:NV}{it:Δ}(h:En w v x gI it):En w v.drew x gI it:=h.all (Ac _ _).drew
theorem Ze(h:NR n=true)(b:n.k=3):n.ks.length=16:=by
 unfold NR nright rkidsP at h;by_cases a:n.ks.length=16
 ·exact a
 ·simp[b,a]at h
theorem WI(K:Nat->Prop)(x:NV)(n:PN)(w:World)(h:NodeAt K w x n)(h3:n.k=3)(hd:∀r,(r=n.c∨r∈n.ks)->r.i.length<32->DDSaid r.i):
 Calls prog 66 #[.agg x.cells.toArray] w (EEPost w n):=by
 have B:=EC w x h.c.len;have M:=Aa (below_new w (.cells x.cells.toArray 121));have T:=Aa h;obtain⟨q,W⟩:∃q,NR n=q:=⟨_,rfl⟩
 have a3:=Aa (show∀v,Below w.heap.size w v->Calls prog 90 #[.agg x.cells.toArray] v λe w'=>e= .returned (.bool q)/\Below v.heap.size v w' from λv Q=>by
  rw[<-W];exact GX K x n v (h.go (Keep.below Q)) hd)
 have HQ:=Aa W;have az:x.k=3:=by rw[h.k];exact h3
 have a4:=h.v.2.1;unfold EEPost;rw[W];have H3:=Aa h3;clear h W hd h3;go_enter func66,ntmps66;go_upto_region 1 with fail;refine gen_w (p:=λv=>Code.wp _ _ _ _ v) (q:=λv=>NBx w.heap.size v x/\Below w.heap.size w v) ⟨B,M.out⟩ ?_;clear B M;rintro v⟨B,hb⟩;have M:=Aa hb;have HX:=Aa B;clear hb B;go_wp2_with (first|refine CC rfl _ rfl w.heap.size rfl x HX.out ?_);refine(a3.out v M.out).mono ?_;rintro e w1⟨rfl,i⟩;have ab:=Aa (HX.out.go i);have X:=Aa (below_go M.out i);clear i HX M;cases q with
 |false=>
  go_wp2_with fail;go_ret2;exact⟨⟨none,0,0,rfl,⟨.inl ⟨rfl,rfl⟩,λ_=>⟨rfl,rfl⟩,rfl,λx hx=>by cases hx⟩,λg off h=>by cases h⟩,X.out⟩
 |true=>
  obtain⟨b1,b2,b3⟩:=Ek T.out.okN HQ.out;have HM:=Aa b1;have Z:=Ze HQ.out H3.out;have U:=Aa Z;have ax:=Aa (show x.kn=16 from by rw[T.out.m.1];exact Z);have ai:=Aa (show w.heap.size<w1.heap.size from(Cu.1 ab.out.row).1);clear b1 b2 b3 Z;go_upto_region 5 with fail;obtain⟨gI,O⟩:∃gI,w1.heap.size=gI:=⟨_,rfl⟩;refine gen_w (p:=λv=>Code.wp _ _ _ _ v) (q:=λv=>En w v x gI (.slice none 0 0)) ⟨by rw[<-O];exact Ak _ _,ab.out.go (below_new _ _),below_go X.out (below_new _ _),by rw[<-O];exact ai.out,by simp[O]⟩ ?_;intro v2 E2;rw[O];have c0:=E2.bx.c0;rw[az]at c0;have ap:=Aa E2;clear E2 ab X ai O;go_wp2_with fail
  go_loopw [6] (λs6 u=>∃(j:Nat)(it:Value),j<=16/\s6= .int .i64 j/\En w u x gI it/\So gI u it ((n.ks.take j).map refItemP)) (λs6 _=>16-(intOf s6).toNat)
  case atStart=>exact⟨0,_,by omega,rfl,ap.out,XaG _ _⟩
  case round=>
   obtain⟨j,it,hj,rfl,hE,aj⟩:=hrel;have F:=Aa hE;have aa:=Aa aj;clear hE aj ap c0;by_cases ah:j<16
   ·have aw:(j:Int)<16:=(by omega);obtain⟨r,hr⟩:∃r,n.ks[j]?=some r:=⟨_,Ad (by rw[U.out];exact ah)⟩;obtain⟨g,off,y,af,_,al,hy⟩:=T.out.ks j r hr;have ay:=Aa af;have a0:=Aa al;have HL:=Aa hy.len;have HY:=Aa hy;have HR:=Aa hr;clear al hy hr af;go_upto_region 9 with fail;rename_i KK I;refine Cj (S:=λv'=>NBx w.heap.size v' x/\Below w.heap.size w v') (by kernel_rfl) ⟨⟨F.out.bx.row,F.out.bx.l⟩,F.out.bel.drew⟩ (λf=>?_);have C:=F.out.drew;refine Br 0 23 (.pointer (some ⟨gI,2,none⟩)) rfl rfl (by kernel_rfl) (by kernel_rfl) (by kernel_rfl) (λ_ _ _ h=>h) (by kernel_rfl) (λv _=>by kernel_rfl) f<|Br 2 25 (.pointer (some ⟨w.heap.size,37,none⟩)) rfl rfl (by kernel_rfl) (by kernel_rfl) (by kernel_rfl) (λ_ _ _ h=>h) (by kernel_rfl) (λv _=>by kernel_rfl) f<|Br 3 26 (.slice (some ⟨g,off,none⟩) 16 x.kc) rfl rfl (by kernel_rfl) (by kernel_rfl) (by kernel_rfl) (λ_ _ _ h=>h) (by kernel_rfl) (λv' Q=>J6 rfl (by kernel_rfl) (by rw[<-ay.out,<-ax.out];exact Q.1.c37)) f<|Br 4 27 (.int .i64 j) rfl rfl (by kernel_rfl) (by kernel_rfl) (by kernel_rfl) (λ_ _ _ h=>h) (by kernel_rfl) (λv _=>by kernel_rfl) f<|Br 5 28 (.pointer (some ⟨g,off+j*34,none⟩)) rfl rfl (by kernel_rfl) (by kernel_rfl) (by kernel_rfl) (λ_ _ _ h=>h) (by kernel_rfl) (λv' _=>Uo (m:=16) (c:=x.kc) rfl (by kernel_rfl) (by kernel_rfl) ah) f<|Br 6 29 (.agg y.cells.toArray) rfl rfl (by kernel_rfl) (by kernel_rfl) (by kernel_rfl) (λ_ _ _ h=>h) (by kernel_rfl) (λv' Q=>Gn rfl (by kernel_rfl) HL.out (EH a0.out (λhl=>Q.2.block g hl))) f<|AD (rs:=[1,7]) (by kernel_rfl) (by simp) ?_;refine CE 1 24 it rfl rfl (by kernel_rfl) (CQ rfl (by kernel_rfl) C.c2) f ?_ ?_
    ·refine AD (rs:=[7]) (by kernel_rfl) (by simp) ?_;refine Es 7 30 rfl rfl (by kernel_rfl) 91 #[.agg y.cells.toArray] (by kernel_rfl) (R:=λval w'=>Below wr.drew.heap.size wr.drew w'/\∃z:V,val= .agg #[.bool z.l, .slice z.ba z.bn z.bc, .slice z.ia z.m z.ic]/\LiesP (λb=>wr.drew.heap.size<=b) w' (refItemP r) z) ((Ir K y r wr.drew (HY.out.go (Keep.below f.2))).mono (λe w' h=>DY h (Ab _))) (λval w' h=>⟨f.1.go h.1,below_go f.2 h.1⟩) ?_ AB;rintro val o⟨i,z,rfl,J⟩;have P:NBx w.heap.size o x/\Below w.heap.size w o:=⟨f.1.go i,below_go f.2 i⟩;have H:=C.all i;obtain⟨v',L,A,D,E⟩:=WA C.sz (aa.out.all (Ac _ _).drew) i J (by rw[AQ,Ap];omega) 106;have l:En w (o.alloc (.cells #[.bool z.l, .slice z.ba z.bn z.bc, .slice z.ia z.m z.ic] 108)) x gI it:=H.all (below_new _ _);have d:=C.go E;have k:=d.put v';have G:=D.put v';refine AD (rs:=[8]) (by kernel_rfl) (by simp) ?_;refine CE 8 31 (.slice (some ⟨o.heap.size,0,none⟩) 1 1) rfl rfl (by kernel_rfl) (FG rfl z (by kernel_rfl)) ⟨l.bx,l.bel⟩ ?_ AB;refine AD (rs:=[9]) (by kernel_rfl) (by simp) ?_;refine CE 9 32 v' rfl rfl (by kernel_rfl) (Iu rfl it (.slice (some ⟨o.heap.size,0,none⟩) 1 1) (by kernel_rfl) (by kernel_rfl) A) ⟨d.bx,d.bel⟩ ?_ AB;refine Br 10 33 (.pointer (some ⟨gI,2,none⟩)) rfl rfl (by kernel_rfl) (by kernel_rfl) (by kernel_rfl) (λ_ _ _ h=>h) (by kernel_rfl) (λv _=>by kernel_rfl) ⟨d.bx,d.bel⟩<|AD (rs:=[11]) (by kernel_rfl) (by simp) ?_;refine DF 11 rfl rfl (by kernel_rfl) (FH rfl gI v' it D.one (by kernel_rfl) (by kernel_rfl) d.c2 d.fz) ⟨k.bx,k.bel⟩ ?_ AB;refine Cq (by kernel_rfl) ?_ _;refine I _ _ ?_;have s:=Aa k;have N:=Aa (show So gI (L.setCell ⟨gI,2,none⟩ v') v' ((n.ks.take (j+1)).map refItemP)from by rw[DO HR.out,Bp];exact G);clear k G d l H C f P D E A J i I
     go_frame
     go_wp2_with fail;exact⟨⟨j+1,v',by omega,by simp,s.out,N.out⟩,by simp[intOf];omega⟩
    refine Es 7 30 rfl rfl (by kernel_rfl) 91 #[.agg y.cells.toArray] (by kernel_rfl) (R:=λval w'=>Below wr.drew.heap.size wr.drew w'/\∃z:V,val= .agg #[.bool z.l, .slice z.ba z.bn z.bc, .slice z.ia z.m z.ic]/\LiesP (λb=>wr.drew.heap.size<=b) w' (refItemP r) z) ((Ir K y r wr.drew (HY.out.go (Keep.below f.2))).mono (λe w' h=>DY h (Ab _))) (λval w' h=>⟨f.1.go h.1,below_go f.2 h.1⟩) ?_ AB;rintro val o⟨i,z,rfl,J⟩;have P:NBx w.heap.size o x/\Below w.heap.size w o:=⟨f.1.go i,below_go f.2 i⟩;have H:=C.all i;obtain⟨v',L,A,D,E⟩:=WA C.sz (aa.out.all (Ac _ _).drew) i J (by rw[AQ,Ap];omega) 106;have l:En w (o.alloc (.cells #[.bool z.l, .slice z.ba z.bn z.bc, .slice z.ia z.m z.ic] 108)) x gI it:=H.all (below_new _ _);have d:=C.go E;have k:=d.put v';have G:=D.put v';refine AD (rs:=[1,8]) (by kernel_rfl) (by simp) ?_;refine CE 1 24 it rfl rfl (by kernel_rfl) (CQ rfl (by kernel_rfl) H.c2) P ?_ ?_
    ·refine AD (rs:=[8]) (by kernel_rfl) (by simp) ?_;refine CE 8 31 (.slice (some ⟨o.heap.size,0,none⟩) 1 1) rfl rfl (by kernel_rfl) (FG rfl z (by kernel_rfl)) ⟨l.bx,l.bel⟩ ?_ AB;refine AD (rs:=[9]) (by kernel_rfl) (by simp) ?_;refine CE 9 32 v' rfl rfl (by kernel_rfl) (Iu rfl it (.slice (some ⟨o.heap.size,0,none⟩) 1 1) (by kernel_rfl) (by kernel_rfl) A) ⟨d.bx,d.bel⟩ ?_ AB;refine Br 10 33 (.pointer (some ⟨gI,2,none⟩)) rfl rfl (by kernel_rfl) (by kernel_rfl) (by kernel_rfl) (λ_ _ _ h=>h) (by kernel_rfl) (λv _=>by kernel_rfl) ⟨d.bx,d.bel⟩<|AD (rs:=[11]) (by kernel_rfl) (by simp) ?_;refine DF 11 rfl rfl (by kernel_rfl) (FH rfl gI v' it D.one (by kernel_rfl) (by kernel_rfl) d.c2 d.fz) ⟨k.bx,k.bel⟩ ?_ AB;refine Cq (by kernel_rfl) ?_ _;refine I _ _ ?_;have s:=Aa k;have N:=Aa (show So gI (L.setCell ⟨gI,2,none⟩ v') v' ((n.ks.take (j+1)).map refItemP)from by rw[DO HR.out,Bp];exact G);clear k G d l H C f P D E A J i I
     go_frame
     go_wp2_with fail;exact⟨⟨j+1,v',by omega,by simp,s.out,N.out⟩,by simp[intOf];omega⟩
    refine CE 8 31 (.slice (some ⟨o.heap.size,0,none⟩) 1 1) rfl rfl (by kernel_rfl) (FG rfl z (by kernel_rfl)) ⟨l.bx,l.bel⟩ ?_ AB;refine AD (rs:=[1]) (by kernel_rfl) (by simp) ?_;refine CE 1 24 it rfl rfl (by kernel_rfl) (CQ rfl (by kernel_rfl) l.c2) ⟨l.bx,l.bel⟩ ?_ AB;refine AD (rs:=[9]) (by kernel_rfl) (by simp) ?_;refine CE 9 32 v' rfl rfl (by kernel_rfl) (Iu rfl it (.slice (some ⟨o.heap.size,0,none⟩) 1 1) (by kernel_rfl) (by kernel_rfl) A) ⟨d.bx,d.bel⟩ ?_ AB;refine Br 10 33 (.pointer (some ⟨gI,2,none⟩)) rfl rfl (by kernel_rfl) (by kernel_rfl) (by kernel_rfl) (λ_ _ _ h=>h) (by kernel_rfl) (λv _=>by kernel_rfl) ⟨d.bx,d.bel⟩<|AD (rs:=[11]) (by kernel_rfl) (by simp) ?_;refine DF 11 rfl rfl (by kernel_rfl) (FH rfl gI v' it D.one (by kernel_rfl) (by kernel_rfl) d.c2 d.fz) ⟨k.bx,k.bel⟩ ?_ AB;refine Cq (by kernel_rfl) ?_ _;refine I _ _ ?_;have s:=Aa k;have N:=Aa (show So gI (L.setCell ⟨gI,2,none⟩ v') v' ((n.ks.take (j+1)).map refItemP)from by rw[DO HR.out,Bp];exact G);clear k G d l H C f P D E A J i I
    go_frame
    go_wp2_with fail;exact⟨⟨j+1,v',by omega,by simp,s.out,N.out⟩,by simp[intOf];omega⟩
   ·have aw:¬(j:Int)<16:=(by omega);have Y:=aa.out;rw[A9 (by rw[U.out];omega)]at Y;have d2:=F.out.c2;have e2:=F.out.bx.c2;have ef:=F.out.fz;obtain⟨v',L,A,E,ac⟩:=YZ (t:= .mk false n.v []) (y:=⟨false,x.va,x.vn,x.vc,none,0,0⟩) F.out Y (Ac _ _) (lies_eq.2 ⟨rfl,T.out.v.1,rfl,Ab _,A8 _,⟨T.out.v.2.1,A8 _⟩,Ds⟩) (by rw[AQ,U.out];omega) 106;have d:=F.out.go E;have f2:=d.c2;have ff:=d.fz;have s:=Aa (d.put v');obtain⟨ia,m,ic,a1,ao⟩:=He (n:=n) ac (by rw[Af,AQ,U.out];simp) (by unfold itemP;rw[Ai H3.out]) HM.out;subst a1;have aq:=Aa A;have ak:=Aa ao;clear Y A E ac d ao;go_upto_region 16 with(first|refine Eu rfl _ _ rfl _ _ rfl rfl aq.out ?_);generalize L.setCell ⟨gI,2,none⟩ (.slice ia m ic)=u4 at s ak⊢;have k0:=s.out.c0;have k1:=s.out.c1;have k2:=s.out.c2;clear d2 e2 ef f2 ff;go_wp2_with fail;refine ak.out.mono ?_;rintro e w5⟨⟨a,m5,c5,rfl,ad,ae⟩,am⟩;have av:=Aa ad;have ar:=Aa (ae.mono s.out.bel.size);have a2:=Aa (below_go s.out.bel am);clear ad am ae;go_wp2_with fail;go_ret2;exact⟨⟨a,m5,c5,rfl,av.out,ar.out⟩,a2.out⟩
end
namespace Ni
theorem WJ{ops:Array Oper}{o:Oper}{a:Act}{w:Γ}{K:Act->Γ->Prop}{Q:Exit->Act->Γ->Prop}{E:Prop}(g:o.guard=none)(s x:Operand)
 (p:o.op= .call {callee:= .builtin .append,args:=#[s,x],argTypes:=#[32,32]}) (base:Nat) (v:Δ) (bs:τ) (r:a.eval s=v) (d:OwnB w base v bs)
 (ad:Addr) (m c:Nat) (news:τ) (y:a.eval x=σ (some ad) m c) (e:news.length=m) (f:∀j u,(news.map (Value.int .u8))[j]?=some u->w.cell? (ad.add j)=some u)
 (B:bs.length+m<=140737488355328) (b:base<=w.heap.size)
 (h:∀v' w',OwnB w' base v' (bs++news)->Below base w w'->K (a.put o.dst v') w'):if Region.wanted o (yielded ops a.tmps)=true then Oper.wp prog o a w K Q else E:=by
 have n:Region.wanted o (yielded ops a.tmps)=true:=by simp[Region.wanted,g]
 rw[Ai n];obtain⟨i,t,A,l,k⟩:=info5;refine wp_append_own w s x 32 p base 5 i (η 0) 1 1 υ32 t A l k rfl (by decide) v bs.length (bs.map (Value.int .u8)) r d ad m c (news.map (Value.int .u8)) y (by simpa using e) f (B8_one2 _) (by unfold maxLen;omega) (by omega) b ?_;intro v' w' z q C;refine h v' w' ?_ ((Ac _ _).grown q b d.lt);unfold OwnB;rw[Af,e,Bp];exact z
theorem _root_.Go.Proofs.YtkdlocloepbmcaaGreat.OwnB.drew{w:Γ}{base:Nat}{v:Δ}{bs:τ}(h:OwnB w base v bs):OwnB w.drew base v bs:=h.far λi _ _=>rfl
theorem WK(a:Ω)(n c:Nat)(p:τ)(w:Γ)(h:Ag w a n c p)(hn:n<=140737488355328):
 Calls prog 134 #[σ a n c] w λe w'=>(∃a' H c',e=ω (θ #[σ a' H c',β (keyP p).2])/\Ag w' a' H c' (keyP p).1/\∀g off,a'=some ⟨g,off,none⟩->0<H->w.heap.size<=g)/\Λ w w':=by
 have z:=h.l;have f:=rright_any a n c p w h hn;by_cases d:rightP p=true
 case neg=>
  rw[IT (λG=>d G.1)];simp only;rw[show rightP p=false from by simpa using d]at f;clear h z d;go_enter func134,ntmps134;go_wp2_with fail;refine f.mono ?_;rintro e w1⟨rfl,rfl⟩;clear f;go_wp2_with fail;go_ret2;exact⟨⟨none,0,0,rfl,ag_nil _,λ_ _ e=>by cases e⟩,Ac _ _⟩
 rw[d]at f;by_cases J:n%2=0
 case neg=>
  rw[IT (λG=>J (by rw[<-z];exact G.2))];simp only;have ax:(n:Int)%2=1:=by omega
  clear h z J;go_enter func134,ntmps134;go_wp2_with fail;refine f.mono ?_;rintro e w1⟨rfl,rfl⟩;clear f;go_wp2_with fail;go_ret2;exact⟨⟨none,0,0,rfl,ag_nil _,λ_ _ e=>by cases e⟩,Ac _ _⟩
 rw[IS d (by omega)];simp only;obtain⟨m,hm⟩:∃m,n/2=m:=⟨_,rfl⟩;have u:Hid (n=2*m):=Aa (by omega);have C:Hid ((kk p).length=m):=Aa (by rw[Ny];omega);have ac:=Aa (Nz p h.b d);have A:=Aa z;have R:=Aa h.b;have L:=Aa d;have HC:=Aa (λQ=>ag_head h Q);have Y:(n:Int)%2=0:=by omega
 clear h z d hm J;go_enter func134,ntmps134;go_wp2_with fail;refine f.mono ?_;rintro e w1⟨rfl,rfl⟩;clear f;go_wp2_with fail;clear Y
 go_loopw [4,5] (λq i v=>∃j k:Nat,j=2*k/\j<=n/\i=ι j/\OwnB v w1.heap.size q ((kk p).take k)/\Λ w1 v) (λ_ i _=>n-(intOf i).toNat)
 case atStart=>exact⟨0,0,rfl,by omega,rfl,ownB_nil _ _,Ac _ _⟩
 case round=>
  obtain⟨j,k,B,ao,rfl,s,r⟩:=hrel;have P:=Aa B;by_cases ai:j<n
  ·have U:((j:Int)+1)<n:=(by have:=u.out;omega);have ah:(j:Int)<n:=(by omega);have K:=Qk p k (by have:=A.out;have:=u.out;omega);have E:=take_snoc (b:=kk p) (i:=k) (by have:=C.out;have:=u.out;omega);rw[K]at E;obtain⟨g,off,rfl,ap,V,t⟩:=HC.out (by omega);unfold maxLen at V;have ad:=(r.cell (p:=⟨g,off+(2*k),none⟩) (Al (t (2*k) (by omega)))).trans (t (2*k) (by omega));have ab:=(r.cell (p:=⟨g,off+(2*k+1),none⟩) (Al (t (2*k+1) (by omega)))).trans (t (2*k+1) (by omega));have av:=(R.out _ (getD_mem (l:=p) (i:=2*k) (by have:=A.out;omega))).1;have ay:=(R.out _ (getD_mem (l:=p) (i:=2*k+1) (by have:=A.out;omega))).1;have am:=IR L.out (i:=2*k) (by have:=A.out;omega);have aj:=IR L.out (i:=2*k+1) (by have:=A.out;omega);generalize p.getD (2*k) 0=x at*;generalize p.getD (2*k+1) 0=y at*;rw[<-B]at ad ab;have ar:((j:Int)+1).toNat=j+1:=(by omega);have aw:(0:Int)<=(j:Int)+1:=(by omega);have aq:IntKind.i64.wrap ((j:Int)+1)=(j:Int)+1:=(by rw[IntKind.wrap_i64];omega);have al:IntKind.u8.wrap (16*x)=16*x:=(by rw[IntKind.wrap_u8];omega);have ak:IntKind.u8.wrap (16*x+y)=16*x+y:=(by rw[IntKind.wrap_u8];omega);have T:=Aa E;have ae:Hid (((kk p).take k).length=k):=Aa (by rw[Ap,C.out];have:=u.out;omega);have Z:Hid (∀o:Obj,OwnB (wr.drew.alloc o) w1.heap.size u4 ((kk p).take k)):=Aa λo=>OwnB.alloc s.drew o;have D:=Aa r;have N:=Aa r.size;clear E s r K t B;go_wp2_with fail
   go_region_law (refine WJ rfl (.tmp 22) (.tmp 34) rfl w1.heap.size _ ((kk p).take k) rfl (Z.out _) ⟨wr.heap.size,0,none⟩ 1 1 [16*x+y] rfl rfl (one_new wr.drew _) (by have:=ae.out;have:=P.out;omega) (by have:=N.out;simp;omega) ?_;intro v1 w2 F O;rw[<-T.out]at F;have aa:=Aa F;have X:=Aa O;clear F O)
   all_goals
    go_wp2_with fail;refine⟨⟨j+2,k+1,by have:=P.out;omega,by omega,by simp,aa.out,?_⟩,by simp[intOf];omega⟩;exact(D.out.drew.alloc N.out _).trans X.out
  ·have U:¬((j:Int)+1)<n:=(by omega);have e:k=m:=(by have:=u.out;omega);subst e;rw[A9 (by rw[C.out];exact Ab _)]at s;obtain⟨a',c',rfl,M⟩:=OwnB.ag s ac.out
   have HN:Hid (∀g off,a'=some ⟨g,off,none⟩->0<k->w1.heap.size<=g):=Aa (by
    rcases s.2 with⟨e,_⟩|⟨g',af,cur,e,W,_⟩
    ·injection e with I;rw[I];intro _ _ q;cases q
    ·injection e with I;rw[I];intro _ _ q;cases q;exact λ_=>W)
   have S:=Aa M;have D:=Aa r;clear s M r B;go_wp2_with fail;go_ret2;exact⟨⟨a',_,c',rfl,S.out,λg off e Q=>HN.out g off e (by have:=S.out.l;have:=C.out;omega)⟩,D.out⟩
theorem J7(a:Ω)(n c:Nat)(p:τ)(w:Γ)(h:Ag w a n c p)(j:n<=140737488355328):
 Calls prog 134 #[σ a n c] w λe w'=>(∃a' b c',e=ω (θ #[σ a' b c',β (keyP p).2])/\Ag w' a' b c' (keyP p).1)/\Λ w w':=
 (WK a n c p w h j).mono λe w' d=>by obtain⟨⟨a',b,c',g,f,_⟩,i⟩:=d;exact⟨⟨a',b,c',g,f⟩,i⟩
theorem Xbx(n:Nat)(leaf:Bool):hdP n leaf=if n%2=0 then[if leaf then 2 else 0]++[0]else[if leaf then 3 else 1]:=by
 unfold hdP;cases leaf<;>rfl
theorem rpack_any(a:Ω)(n c:Nat)(p:τ)(leaf:Bool)(w:Γ)(h:Ag w a n c p)(Y:n+2<=140737488355328):
 Calls prog 92 #[σ a n c,β leaf] w λe w'=>(∃a' m c',e=ω (θ #[σ a' m c',ι ((packP p leaf).2:Nat)])/\Ag w' a' m c' (packP p leaf).1)/\Λ w w':=by
 have N:=h.l;have I:=rright_any a n c p w h (by omega);by_cases A:rightP p=true
 case neg=>
  rw[Vd A];simp only;rw[show rightP p=false from by simpa using A]at I;clear h N A;go_enter func92,ntmps92;go_wp2_with fail;refine I.mono ?_;rintro e w1⟨rfl,rfl⟩;clear I;go_wp2_with fail;go_ret2;exact⟨⟨none,0,0,rfl,ag_nil _⟩,Ac _ _⟩
 rw[packP_yes A];simp only;rw[A]at I;have L:=OG (p:=p) (leaf:=leaf);rw[Ai A]at L;have Q:=IU (p:=p) (leaf:=leaf) h.b;rw[N]at L Q⊢;have H:=Xbx n leaf;have U:=hd_len n leaf;have u:Hid ((hdP n leaf).length<=2):=Aa (by omega);have K:=Aa L;have M:=Aa Q;have f:=Aa h;have O:=Aa N;have HR:=Aa I;generalize hdP n leaf=hd at*;clear L Q h N I A U;by_cases P:n%2=0
 ·rw[Ai P]at H;have V:(n:Int)%2=0:=by omega
  have t:=Aa H;clear H P;cases leaf with
  |true=>
   simp only[if_true]at t;go_enter func92,ntmps92;go_wp2_with fail;refine HR.out.mono ?_;rintro e w1⟨rfl,rfl⟩;clear HR
   go_wp2_with (first
    |(at_builtin;refine DA rfl (.tmp 26) (.tmp 27) rfl w1.heap.size _ [2] rfl (OwnB.alloc (Gu w1 _) _) (some ⟨w1.heap.size+1,0,none⟩) 1 1 [0] rfl (by have:=in0_one (w1.alloc (.cells #[η 2] 5)) 0;simpa using this) (λh=>by cases h) rfl (by show 1+1<=140737488355328;omega) (by simp;omega) ?_;intro W X E J;rw[<-t.out]at E;have z:=Aa E;have d:=Aa ((((Ac w1.heap.size w1).alloc (Ab _) _).alloc (by simp) _).trans J);clear E J)
    |(at_builtin;refine DA rfl (.tmp 29) (.tmp 30) rfl w1.heap.size _ hd rfl z.out a n c p rfl (f.out.at d.out).i f.out.nil f.out.l (by have:=u.out;omega) d.out.size ?_;intro S R s l;obtain⟨G,c2,rfl,j⟩:=OwnB.ag s M.out;have k:=Aa (d.out.trans l);have o:=Aa j;clear s l j;generalize r:(hd++p).length=len2 at o⊢;have y:=Aa r;clear r))
   have b:=J7 G len2 c2 (hd++p) _ o.out (by have C:=y.out;rw[Af,O.out]at C;have:=u.out;omega);rw[K.out]at b;simp only at b;have F:=Aa b;clear b;refine F.out.mono ?_;rintro e T⟨⟨D,B,c3,rfl,g⟩,q⟩;have v:=Aa g;have x:=Aa (k.out.trans (q.mono k.out.size));clear g q;go_wp2_with fail;go_ret2;exact⟨⟨D,B,c3,rfl,v.out⟩,x.out⟩
  |false=>
   simp only[BG,Dm]at t;go_enter func92,ntmps92;go_wp2_with fail;refine HR.out.mono ?_;rintro e w1⟨rfl,rfl⟩;clear HR
   go_wp2_with (first
    |(at_builtin;refine DA rfl (.tmp 26) (.tmp 27) rfl w1.heap.size _ [0] rfl (OwnB.alloc (Gu w1 _) _) (some ⟨w1.heap.size+1,0,none⟩) 1 1 [0] rfl (by have:=in0_one (w1.alloc (.cells #[η 0] 5)) 0;simpa using this) (λh=>by cases h) rfl (by show 1+1<=140737488355328;omega) (by simp;omega) ?_;intro W X E J;rw[<-t.out]at E;have z:=Aa E;have d:=Aa ((((Ac w1.heap.size w1).alloc (Ab _) _).alloc (by simp) _).trans J);clear E J)
    |(at_builtin;refine DA rfl (.tmp 29) (.tmp 30) rfl w1.heap.size _ hd rfl z.out a n c p rfl (f.out.at d.out).i f.out.nil f.out.l (by have:=u.out;omega) d.out.size ?_;intro S R s l;obtain⟨G,c2,rfl,j⟩:=OwnB.ag s M.out;have k:=Aa (d.out.trans l);have o:=Aa j;clear s l j;generalize r:(hd++p).length=len2 at o⊢;have y:=Aa r;clear r))
   have b:=J7 G len2 c2 (hd++p) _ o.out (by have C:=y.out;rw[Af,O.out]at C;have:=u.out;omega);rw[K.out]at b;simp only at b;have F:=Aa b;clear b;refine F.out.mono ?_;rintro e T⟨⟨D,B,c3,rfl,g⟩,q⟩;have v:=Aa g;have x:=Aa (k.out.trans (q.mono k.out.size));clear g q;go_wp2_with fail;go_ret2;exact⟨⟨D,B,c3,rfl,v.out⟩,x.out⟩
 ·rw[Ae P]at H;have V:(n:Int)%2=1:=by omega
  have t:=Aa H;clear H P;cases leaf with
  |true=>
   simp only[if_true]at t;go_enter func92,ntmps92;go_wp2_with fail;refine HR.out.mono ?_;rintro e w1⟨rfl,rfl⟩;clear HR;have z:Hid (OwnB (w1.alloc (.cells #[η 3] 5)) w1.heap.size (σ (some ⟨w1.heap.size,0,none⟩) 1 1) hd):=Aa (by rw[t.out];exact Gu w1 _);have d:Hid (Λ w1 (w1.alloc (.cells #[η 3] 5))):=Aa (below_new _ _)
   go_wp2_with (first
    |(at_builtin;refine DA rfl (.tmp 29) (.tmp 30) rfl w1.heap.size _ hd rfl z.out a n c p rfl (f.out.at d.out).i f.out.nil f.out.l (by have:=u.out;omega) d.out.size ?_;intro S R s l;obtain⟨G,c2,rfl,j⟩:=OwnB.ag s M.out;have k:=Aa (d.out.trans l);have o:=Aa j;clear s l j;generalize r:(hd++p).length=len2 at o⊢;have y:=Aa r;clear r))
   have b:=J7 G len2 c2 (hd++p) _ o.out (by have C:=y.out;rw[Af,O.out]at C;have:=u.out;omega);rw[K.out]at b;simp only at b;have F:=Aa b;clear b;refine F.out.mono ?_;rintro e T⟨⟨D,B,c3,rfl,g⟩,q⟩;have v:=Aa g;have x:=Aa (k.out.trans (q.mono k.out.size));clear g q;go_wp2_with fail;go_ret2;exact⟨⟨D,B,c3,rfl,v.out⟩,x.out⟩
  |false=>
   simp only[BG,Dm]at t;go_enter func92,ntmps92;go_wp2_with fail;refine HR.out.mono ?_;rintro e w1⟨rfl,rfl⟩;clear HR;have z:Hid (OwnB (w1.alloc (.cells #[η 1] 5)) w1.heap.size (σ (some ⟨w1.heap.size,0,none⟩) 1 1) hd):=Aa (by rw[t.out];exact Gu w1 _);have d:Hid (Λ w1 (w1.alloc (.cells #[η 1] 5))):=Aa (below_new _ _)
   go_wp2_with (first
    |(at_builtin;refine DA rfl (.tmp 29) (.tmp 30) rfl w1.heap.size _ hd rfl z.out a n c p rfl (f.out.at d.out).i f.out.nil f.out.l (by have:=u.out;omega) d.out.size ?_;intro S R s l;obtain⟨G,c2,rfl,j⟩:=OwnB.ag s M.out;have k:=Aa (d.out.trans l);have o:=Aa j;clear s l j;generalize r:(hd++p).length=len2 at o⊢;have y:=Aa r;clear r))
   have b:=J7 G len2 c2 (hd++p) _ o.out (by have C:=y.out;rw[Af,O.out]at C;have:=u.out;omega);rw[K.out]at b;simp only at b;have F:=Aa b;clear b;refine F.out.mono ?_;rintro e T⟨⟨D,B,c3,rfl,g⟩,q⟩;have v:=Aa g;have x:=Aa (k.out.trans (q.mono k.out.size));clear g q;go_wp2_with fail;go_ret2;exact⟨⟨D,B,c3,rfl,v.out⟩,x.out⟩
end Ni
section
variable {base gI m c : Nat} {w1 w u : World} {y : V} {x : NV} {a : Option Addr} {pk : List Int}
theorem round_any{wr:Γ}{it:Δ}{ys:List V}(B:base<=wr.heap.size)(e:OwnI wr base it ys)(f:Λ wr w1)(q:ys.length<=1000000000)(ty:TypeId):
 ∃v' a,(Builtin.append_ #[106,106] ty #[it,σ (some ⟨w1.heap.size,0,none⟩) 1 1]).run prog (w1.alloc (.cells #[β y.l,σ y.ba y.bn y.bc,σ y.ia y.m y.ic] 108))= .ok v' a/\
  OwnI a base v' (ys++[y])/\Below base wr a/\(∀b,wr.heap.size<=b->b<w1.heap.size->a.heap[b]?=w1.heap[b]?):=by
 obtain⟨Y,m⟩:∃Y:Obj,Obj.cells #[β y.l,σ y.ba y.bn y.bc,σ y.ia y.m y.ic] 108=Y:=⟨_,rfl⟩;rw[m];have s:(w1.alloc Y).heap.size=w1.heap.size+1:=by simp
 have c:Λ wr (w1.alloc Y):=f.alloc f.size _;have z:=f.size;have k:(w1.alloc Y).heap[w1.heap.size]?=some Y:=Ak w1 Y;have n:∀j u,(V.cells y)[j]?=some u->(w1.alloc Y).cell? ((⟨w1.heap.size,0,none⟩:Addr).add j)=some u:=by
  intro j u v;rw[BO,A6];rw[<-m]at k⊢;rw[Aj _ _ _ _ _ _ k];simpa[V.cells]using v
 obtain⟨v',a,p,o,d,x⟩:=Jf (Eg e λg _ w=>c.block g w) y _ 1 n (by omega) q ty;have i:∀b,b<w1.heap.size+1->it.ownBlock≠some b->a.heap[b]?=(w1.alloc Y).heap[b]?:=λb l r=>d.block b (by rw[s];exact l) (λh=>r h.symm);refine⟨v',a,p,o,⟨d.os.trans c.os,d.tape.trans c.tape,d.output.trans c.output,Au c.size d.size,λb l=>?_⟩,λb A t=>?_⟩
 ·rw[i b (by omega) (λh=>by have:=(Fa e h).1;omega)];exact c.block b (by omega)
 ·rw[i b (by omega) (λh=>by have:=(Fa e h).2;omega),Ax _ _ _ t]
def Pkd(gI base:Nat)(u:Γ)(a:Ω)(m c:Nat)(pk:τ):Prop:=AgK (λg=>g<base/\g≠gI) u a m c pk
theorem XaI{v:Γ}{it:Δ}(h:En w v x gI it)(o:∃f m l,it=σ f m l)(d:Ag v a m c pk)(n:m<=140737488351232):Pkd gI v.heap.size v a m c pk:=by
 refine⟨d,n,λg off e i=>?_⟩;obtain⟨g',r,j,_,_,q⟩:=ag_head d i;rw[e]at j;cases j;have b:=q 0 i;refine⟨Al b,λp=>?_⟩;subst p;rw[Aj _ _ _ _ _ _ h.row]at b;obtain⟨f,s,l,rfl⟩:=o
 match off,b with
 |0,h=>simp at h
 |1,h=>simp at h
 |2,h=>simp at h
 |k+3,h=>simp at h
theorem Pkd.lies(h:Pkd gI base u a m c pk):Lies u (.mk false pk []) ⟨false,a,m,c,none,0,0⟩:=
 lies_eq.2 ⟨rfl,h.1,rfl,Ab _,A8 _,⟨h.2.1,A8 _⟩,Ds⟩
theorem Pkd.go{d:Γ}(h:Pkd gI base u a m c pk)(e:Below base u d)(it:Δ):Pkd gI base (d.setCell ⟨gI,2,none⟩ it) a m c pk:=
 AgK.go (λg b f=>⟨(AA _ _ _ _ b.2).trans (e.block g b.1),b⟩) h
theorem Ma{b:World}(i:En w b x gI (.slice none 0 0))(l:Ag b a m c pk)(j:m<=140737488351232)(ty:TypeId):
 ∃v' d,(Builtin.append_ #[106,106] ty #[.slice none 0 0, .slice (some ⟨b.heap.size,0,none⟩) 1 1]).run prog (b.alloc (.cells #[.bool false, .slice a m c, .slice none 0 0] 108))= .ok v' d/\
  Below (gI+1) b d/\(∃p m q,v'= .slice p m q)/\b.heap.size<=(d.setCell ⟨gI,2,none⟩ v').heap.size/\OwnI (d.setCell ⟨gI,2,none⟩ v') b.heap.size v' [⟨false,a,m,c,none,0,0⟩]/\Pkd gI b.heap.size (d.setCell ⟨gI,2,none⟩ v') a m c pk:=by
 obtain⟨v',d,n,h,f,_⟩:=round_any (y:=⟨false,a,m,c,none,0,0⟩) (it:= .slice none 0 0) (ys:=[]) (Ab b.heap.size) (Dg _ _ _ _) (Ac _ _) (by simp) ty;have r:=i.sz;refine⟨v',d,n,⟨f.os,f.tape,f.output,f.size,λk s=>f.block k (by omega)⟩,?_,by simpa using f.size,Eg h λg o _=>AA _ _ _ _ (by have:=(Fa h o).1;show g≠gI;omega),(XaI i ⟨_,_,_,rfl⟩ l j).go f v'⟩;rcases h.2 with⟨e,_⟩|⟨g,cap,cur,e,_⟩
 ·exact⟨_,_,_,e⟩
 ·exact⟨_,_,_,e⟩
theorem JZ{it:Δ}(p:En w u x gI it)(C:gI+1<=base)(B:base<=u.heap.size)(j:OwnI u base it [⟨false,a,m,c,none,0,0⟩])(q:Pkd gI base u a m c pk)(o:Λ u w1){t:T}
 (r:∀f,Λ w f->(∀b,u.heap.size<=b->b<w1.heap.size->f.heap[b]?=w1.heap[b]?)->Lies f t y) (ty:TypeId):
 ∃v' d,(Builtin.append_ #[106,106] ty #[it,σ (some ⟨w1.heap.size,0,none⟩) 1 1]).run prog (w1.alloc (.cells #[β y.l,σ y.ba y.bn y.bc,σ y.ia y.m y.ic] 108))= .ok v' d/\Below (gI+1) u d/\Full gI w (d.setCell ⟨gI,2,none⟩ v') v' [.mk false pk [],t]:=by
 obtain⟨v',d,A,h,e,z⟩:=round_any (y:=y) B j o (by simp) ty;have i:Below (gI+1) u d:=⟨e.os,e.tape,e.output,e.size,λk D=>e.block k (by omega)⟩;have n:=(p.go i).put v';refine⟨v',d,A,i,JX (base:=base) (Eg h λg v _=>AA _ _ _ _ (by have:=(Fa h v).1;show g≠gI;omega)) ⟨(q.go e v').lies,r _ n.bel λb s l=>?_,trivial⟩⟩;exact(AA _ _ _ _ (by show b≠gI;omega)).trans (z b s l)
end
section
open Ni (packP)
theorem Pkd.drew{gI base:Nat}{u:Γ}{a:Ω}{m c:Nat}{pk:τ}(h:Pkd gI base u a m c pk):Pkd gI base u.drew a m c pk:=AgK.go (w:=u) (w':=u.drew) (λg b d=>⟨rfl,b⟩) h
theorem WL(K:Θ)(x:NV)(n:PN)(w:Γ)(h:NodeAt K w x n)(Q:n.k=1)(hd:∀r,(r=n.c∨r∈n.ks)->r.i.length<32->DDSaid r.i):
 Calls prog 66 #[γ x.cells.toArray] w (EEPost w n):=by
 have B:=EC w x h.c.len;have j:=Aa (below_new w (.cells x.cells.toArray 121));have o:=Aa h;obtain⟨q,E⟩:∃q,NR n=q:=⟨_,rfl⟩
 have av:=Aa (show∀v,Λ w v->Calls prog 90 #[γ x.cells.toArray] v λe w'=>e=ω (β q)/\Λ v w' from λv hv=>by
  rw[<-E];exact GX K x n v (h.go (Keep.below hv)) hd)
 have HQ:=Aa E;have hk:x.k=1:=by rw[h.k];exact Q
 have aw:=h.v.2.1;unfold EEPost;rw[E];have H1:=Aa Q;clear h E hd Q;go_enter func66,ntmps66;go_upto_region 1 with fail;refine gen_w (p:=λv=>Code.wp _ _ _ _ v) (q:=λv=>NBx w.heap.size v x/\Λ w v) ⟨B,j.out⟩ ?_;clear B j;rintro v⟨B,hb⟩;have j:=Aa hb;have R:=Aa B;clear hb B;go_wp2_with (first|refine CC rfl _ rfl w.heap.size rfl x R.out ?_);refine(av.out v j.out).mono ?_;rintro e w1⟨rfl,J⟩;have L:=Aa (R.out.go J);have F:=Aa (below_go j.out J);clear J R j;cases q with
 |false=>
  go_wp2_with fail;go_ret2;exact⟨⟨none,0,0,rfl,⟨.inl ⟨rfl,rfl⟩,λ_=>⟨rfl,rfl⟩,rfl,λx hx=>by cases hx⟩,λg off h=>by cases h⟩,F.out⟩
 |true=>
  obtain⟨b1,b2,b3⟩:=Ek o.out.okN HQ.out;have HM:=Aa b1;have af:=Aa (LT HQ.out).2;have ax:x.pn<=1000:=by rw[<-o.out.p.l];exact af.out
  have aa:=Aa (show w.heap.size<w1.heap.size from(Cu.1 L.out.row).1);clear b1 b2 b3;go_upto_region 5 with fail;obtain⟨gI,k⟩:∃gI,w1.heap.size=gI:=⟨_,rfl⟩;refine gen_w (p:=λv=>Code.wp _ _ _ _ v) (q:=λv=>En w v x gI (ε)) ⟨by rw[<-k];exact Ak _ _,L.out.go (below_new _ _),below_go F.out (below_new _ _),by rw[<-k];exact aa.out,by simp[k]⟩ ?_;intro v2 D;rw[k];have c0:=D.bx.c0;have c1:=D.bx.c1;rw[hk]at c0;have I:=Aa D;clear D L F aa k;have A:=Aa (Ni.rpack_any x.pa x.pn x.pc n.p true v2 (o.out.p.1.at I.out.bel) (by omega));obtain⟨pk,C⟩:∃pk,(packP n.p true).1=pk:=⟨_,rfl⟩;rw[C]at A;have ah:=Aa C
  have ai:=Aa (show pk.length<=1000 from by
   rw[<-C];unfold packP;split
   ·dsimp only;rw[Ni.pack_len];have:=af.out;omega
   ·simp)
  obtain⟨ab,W⟩:∃ab:Nat,(packP n.p true).2=ab:=⟨_,rfl⟩;rw[W]at A;clear C W;go_wp2_with fail;refine A.out.mono ?_;rintro e wP⟨⟨a',m,c',rfl,d⟩,Z⟩;have i:=I.out.all Z;have M:=i.c2;have df:=i.fz;obtain⟨it,P,c,l,ao,ae,U,V⟩:=Ma i d (by have:=d.l;have:=ai.out;omega) 106;have al:=Aa i.sz;have u:=i.go l;have O:=u.c2;have N:=u.fz;have b:=Aa (u.put it);obtain⟨ja,jm,jc,G⟩:=ao;have ar:=Aa G;have ac:=Aa ae;have T:=Aa U;have X:=Aa V;rw[G]at c;have s:=Aa c;clear d Z c l ae U V u i G c0 c1 A I;go_upto_region 13 with(first|refine Eu rfl _ _ rfl _ _ rfl rfl s.out ?_);rw[<-ar.out];generalize P.setCell ⟨gI,2,none⟩ it=u4 at b ac T X⊢;have g0:=b.out.bx.c0;rw[hk]at g0;clear M df O N s;have M:=b.out.c2;have e2:=b.out.bx.c2;have ef:=b.out.fz;obtain⟨v',P,c,l,S⟩:=JZ (t:= .mk false n.v []) (y:=⟨false,x.va,x.vn,x.vc,none,0,0⟩) b.out al.out ac.out T.out X.out (Ac _ _) (λw4 h4 _=>Cl h4 _ _ (lies_eq.2 ⟨rfl,o.out.v.1,rfl,Ab _,A8 _,⟨o.out.v.2.1,A8 _⟩,Ds⟩)) 106;have z:=b.out.go l;have O:=z.c2;have N:=z.fz;have f:=Aa (z.put v');obtain⟨ia,m',ic,am,H⟩:=He (n:=n) S (by simp) (by unfold itemP;rw[H1.out,Ae (by decide),Ai rfl,ah.out]) HM.out;subst am;have s:=Aa c;clear c l S z;go_upto_region 16 with(first|refine Eu rfl _ _ rfl _ _ rfl rfl s.out ?_);generalize P.setCell ⟨gI,2,none⟩ (σ ia m' ic)=u5 at f H⊢;clear M e2 ef O N;have aq:=Aa H;clear H;have k0:=f.out.c0;have k1:=f.out.c1;have k2:=f.out.c2;go_wp2_with fail;refine aq.out.mono ?_;rintro e w5⟨⟨a,m5,c5,rfl,d,Y⟩,ad⟩;have ak:=Aa d;have aj:=Aa (Y.mono f.out.bel.size);have ap:=Aa (below_go f.out.bel ad);clear d ad Y;go_wp2_with fail;go_ret2;exact⟨⟨a,m5,c5,rfl,ak.out,aj.out⟩,ap.out⟩
theorem WM(K:Θ)(x:NV)(n:PN)(w:Γ)(h:NodeAt K w x n)(h2:n.k=2)(hd:∀r,(r=n.c∨r∈n.ks)->r.i.length<32->DDSaid r.i):
 Calls prog 66 #[γ x.cells.toArray] w (EEPost w n):=by
 have B:=EC w x h.c.len;have T:=Aa (below_new w (.cells x.cells.toArray 121));have U:=Aa h;obtain⟨q,hq⟩:∃q,NR n=q:=⟨_,rfl⟩
 have a6:=Aa (show∀v,Λ w v->Calls prog 90 #[γ x.cells.toArray] v λe w'=>e=ω (β q)/\Λ v w' from λv hv=>by
  rw[<-hq];exact GX K x n v (h.go (Keep.below hv)) hd)
 have HQ:=Aa hq;have hk:x.k=2:=by rw[h.k];exact h2
 have a7:=h.v.2.1;unfold EEPost;rw[hq];have H2:=Aa h2;clear h hq hd h2;go_enter func66,ntmps66;go_upto_region 1 with fail;refine gen_w (p:=λv=>Code.wp _ _ _ _ v) (q:=λv=>NBx w.heap.size v x/\Λ w v) ⟨B,T.out⟩ ?_;clear B T;rintro v⟨B,N⟩;have T:=Aa N;have HX:=Aa B;clear N B;go_wp2_with (first|refine CC rfl _ rfl w.heap.size rfl x HX.out ?_);refine(a6.out v T.out).mono ?_;rintro e w1⟨rfl,i⟩;have ap:=Aa (HX.out.go i);have ak:=Aa (below_go T.out i);clear i HX T;cases q with
 |false=>
  go_wp2_with fail;go_ret2;exact⟨⟨none,0,0,rfl,⟨.inl ⟨rfl,rfl⟩,λ_=>⟨rfl,rfl⟩,rfl,λx hx=>by cases hx⟩,λg off h=>by cases h⟩,ak.out⟩
 |true=>
  obtain⟨b1,b2,b3⟩:=Ek U.out.okN HQ.out;have HM:=Aa b1;have a2:=Aa (LT HQ.out).2;have a8:x.pn<=1000:=by rw[<-U.out.p.l];exact a2.out
  have az:=Aa (show w.heap.size<w1.heap.size from(Cu.1 ap.out.row).1);clear b1 b2 b3;go_upto_region 5 with fail;obtain⟨gI,ab⟩:∃gI,w1.heap.size=gI:=⟨_,rfl⟩;refine gen_w (p:=λv=>Code.wp _ _ _ _ v) (q:=λv=>En w v x gI (ε)) ⟨by rw[<-ab];exact Ak _ _,ap.out.go (below_new _ _),below_go ak.out (below_new _ _),by rw[<-ab];exact az.out,by simp[ab]⟩ ?_;intro v2 E2;rw[ab];have c0:=E2.bx.c0;have c1:=E2.bx.c1;rw[hk]at c0;have ao:=Aa E2;clear E2 ap ak az ab;have ae:=Aa (Ni.rpack_any x.pa x.pn x.pc n.p false v2 (U.out.p.1.at ao.out.bel) (by omega));obtain⟨pk,af⟩:∃pk,(packP n.p false).1=pk:=⟨_,rfl⟩;rw[af]at ae;have ah:=Aa af
  have a3:=Aa (show pk.length<=1000 from by
   rw[<-af];unfold packP;split
   ·dsimp only;rw[Ni.pack_len];have:=a2.out;omega
   ·simp)
  obtain⟨a0,av⟩:∃a0:Nat,(packP n.p false).2=a0:=⟨_,rfl⟩;rw[av]at ae;clear af av;go_wp2_with fail;refine ae.out.mono ?_;rintro e wP⟨⟨a',m,c',rfl,o⟩,ay⟩;have M:=ao.out.all ay;have d2:=M.c2;have df:=M.fz;obtain⟨it,P,s,D,a4,a1,aq,ar⟩:=Ma M o (by have:=o.l;have:=a3.out;omega) 106;have ax:=Aa M.sz;have c:=M.go D;have f2:=c.c2;have ff:=c.fz;have L:=Aa (c.put it);obtain⟨ja,jm,jc,al⟩:=a4;have a5:=Aa al;have am:=Aa a1;have ai:=Aa aq;have aj:=Aa ar;rw[al]at s;have aw:=Aa s;clear o ay s D a1 aq ar c M al c0 c1 ae ao;go_upto_region 13 with(first|refine Eu rfl _ _ rfl _ _ rfl rfl aw.out ?_);rw[<-a5.out];generalize P.setCell ⟨gI,2,none⟩ it=u4 at L am ai aj⊢;have g0:=L.out.bx.c0;rw[hk]at g0;clear d2 df f2 ff aw;go_upto_region 15 with fail;rename_i KK J;refine Cj (S:=λv'=>NBx w.heap.size v' x/\Λ w v') (by kernel_rfl) ⟨⟨L.out.bx.row,L.out.bx.l⟩,L.out.bel.drew⟩ (λf=>?_);have C:=L.out.drew;refine Br 0 69 (ψ gI 2) rfl rfl (by kernel_rfl) (by kernel_rfl) (by kernel_rfl) (λ_ _ _ h=>h) (by kernel_rfl) (λv _=>by kernel_rfl) f<|Br 2 71 (.pointer (some ⟨w.heap.size,3,none⟩)) rfl rfl (by kernel_rfl) (by kernel_rfl) (by kernel_rfl) (λ_ _ _ h=>h) (by kernel_rfl) (λv _=>by kernel_rfl) f<|Br 3 72 (γ x.c.cells.toArray) rfl rfl (by kernel_rfl) (by kernel_rfl) (by kernel_rfl) (λ_ _ _ h=>h) (by kernel_rfl) (λv' hv=>Gn rfl (by kernel_rfl) U.out.c.len hv.1.child) f<|AD (rs:=[1,4]) (by kernel_rfl) (by simp) ?_;refine CE 1 70 it rfl rfl (by kernel_rfl) (CQ rfl (by kernel_rfl) C.c2) f ?_ ?_
  ·refine AD (rs:=[4]) (by kernel_rfl) (by simp) ?_;refine Es 4 73 rfl rfl (by kernel_rfl) 91 #[γ x.c.cells.toArray] (by kernel_rfl) (R:=λval w'=>Below u4.drew.heap.size u4.drew w'/\∃z:V,val=γ #[β z.l,σ z.ba z.bn z.bc,σ z.ia z.m z.ic]/\LiesP (λb=>u4.drew.heap.size<=b) w' (refItemP n.c) z) ((Ir K x.c n.c u4.drew (U.out.c.go (Keep.below f.2))).mono (λe w' h=>DY h (Ab _))) (λval w' h=>⟨f.1.go h.1,below_go f.2 h.1⟩) ?_ AB;rintro val l⟨i,z,rfl,O⟩;have ad:NBx w.heap.size l x/\Λ w l:=⟨f.1.go i,below_go f.2 i⟩;have I:=C.all i;obtain⟨v',P,s,D,A⟩:=JZ (t:=refItemP n.c) (y:=z) C ax.out am.out (Eg ai.out λg _ Y=>rfl) aj.out.drew i (λw4 _ h4=>CS _ _ (BD (Q:=λ_=>True) (λb N Y=>⟨h4 b N Y,trivial⟩) _ _ O)) 106;have k:En w (l.alloc (.cells #[β z.l,σ z.ba z.bn z.bc,σ z.ia z.m z.ic] 108)) x gI it:=I.all (below_new _ _);have c:=C.go D;have j:=c.put v';refine AD (rs:=[5]) (by kernel_rfl) (by simp) ?_;refine CE 5 74 (σ (some ⟨l.heap.size,0,none⟩) 1 1) rfl rfl (by kernel_rfl) (FG rfl z (by kernel_rfl)) ⟨k.bx,k.bel⟩ ?_ AB;refine AD (rs:=[6]) (by kernel_rfl) (by simp) ?_;refine CE 6 75 v' rfl rfl (by kernel_rfl) (Iu rfl it (σ (some ⟨l.heap.size,0,none⟩) 1 1) (by kernel_rfl) (by kernel_rfl) s) ⟨c.bx,c.bel⟩ ?_ AB;refine Br 7 76 (ψ gI 2) rfl rfl (by kernel_rfl) (by kernel_rfl) (by kernel_rfl) (λ_ _ _ h=>h) (by kernel_rfl) (λv _=>by kernel_rfl) ⟨c.bx,c.bel⟩<|AD (rs:=[8]) (by kernel_rfl) (by simp) ?_;refine DF 8 rfl rfl (by kernel_rfl) (FH rfl gI v' it (by obtain⟨H,G,e,_⟩:=A;exact⟨_,_,_,e⟩) (by kernel_rfl) (by kernel_rfl) c.c2 c.fz) ⟨j.bx,j.bel⟩ ?_ AB;refine Cq (by kernel_rfl) ?_ _;refine J _ _ ?_;have d:=Aa j;obtain⟨H,m',G,Z,u⟩:=He (n:=n) A (by simp) (by unfold itemP;rw[H2.out,Ae (by decide),Ae (by decide),ah.out]) HM.out;subst Z;clear j c k I C f ad A D s O i J;generalize P.setCell ⟨gI,2,none⟩ (σ H m' G)=u5 at d u⊢
   go_frame
   have ac:=Aa u;clear u;have k0:=d.out.c0;have k1:=d.out.c1;have k2:=d.out.c2;go_wp2_with fail;refine ac.out.mono ?_;rintro e w5⟨⟨a,m5,c5,rfl,o,E⟩,F⟩;have X:=Aa o;have W:=Aa (E.mono d.out.bel.size);have aa:=Aa (below_go d.out.bel F);clear o F E;go_wp2_with fail;go_ret2;exact⟨⟨a,m5,c5,rfl,X.out,W.out⟩,aa.out⟩
  refine Es 4 73 rfl rfl (by kernel_rfl) 91 #[γ x.c.cells.toArray] (by kernel_rfl) (R:=λval w'=>Below u4.drew.heap.size u4.drew w'/\∃z:V,val=γ #[β z.l,σ z.ba z.bn z.bc,σ z.ia z.m z.ic]/\LiesP (λb=>u4.drew.heap.size<=b) w' (refItemP n.c) z) ((Ir K x.c n.c u4.drew (U.out.c.go (Keep.below f.2))).mono (λe w' h=>DY h (Ab _))) (λval w' h=>⟨f.1.go h.1,below_go f.2 h.1⟩) ?_ AB;rintro val l⟨i,z,rfl,O⟩;have ad:NBx w.heap.size l x/\Λ w l:=⟨f.1.go i,below_go f.2 i⟩;have I:=C.all i;obtain⟨v',P,s,D,A⟩:=JZ (t:=refItemP n.c) (y:=z) C ax.out am.out (Eg ai.out λg _ Y=>rfl) aj.out.drew i (λw4 _ h4=>CS _ _ (BD (Q:=λ_=>True) (λb N Y=>⟨h4 b N Y,trivial⟩) _ _ O)) 106;have k:En w (l.alloc (.cells #[β z.l,σ z.ba z.bn z.bc,σ z.ia z.m z.ic] 108)) x gI it:=I.all (below_new _ _);have c:=C.go D;have j:=c.put v';refine AD (rs:=[1,5]) (by kernel_rfl) (by simp) ?_;refine CE 1 70 it rfl rfl (by kernel_rfl) (CQ rfl (by kernel_rfl) I.c2) ad ?_ ?_
  ·refine AD (rs:=[5]) (by kernel_rfl) (by simp) ?_;refine CE 5 74 (σ (some ⟨l.heap.size,0,none⟩) 1 1) rfl rfl (by kernel_rfl) (FG rfl z (by kernel_rfl)) ⟨k.bx,k.bel⟩ ?_ AB;refine AD (rs:=[6]) (by kernel_rfl) (by simp) ?_;refine CE 6 75 v' rfl rfl (by kernel_rfl) (Iu rfl it (σ (some ⟨l.heap.size,0,none⟩) 1 1) (by kernel_rfl) (by kernel_rfl) s) ⟨c.bx,c.bel⟩ ?_ AB;refine Br 7 76 (ψ gI 2) rfl rfl (by kernel_rfl) (by kernel_rfl) (by kernel_rfl) (λ_ _ _ h=>h) (by kernel_rfl) (λv _=>by kernel_rfl) ⟨c.bx,c.bel⟩<|AD (rs:=[8]) (by kernel_rfl) (by simp) ?_;refine DF 8 rfl rfl (by kernel_rfl) (FH rfl gI v' it (by obtain⟨H,G,e,_⟩:=A;exact⟨_,_,_,e⟩) (by kernel_rfl) (by kernel_rfl) c.c2 c.fz) ⟨j.bx,j.bel⟩ ?_ AB;refine Cq (by kernel_rfl) ?_ _;refine J _ _ ?_;have d:=Aa j;obtain⟨H,m',G,Z,u⟩:=He (n:=n) A (by simp) (by unfold itemP;rw[H2.out,Ae (by decide),Ae (by decide),ah.out]) HM.out;subst Z;clear j c k I C f ad A D s O i J;generalize P.setCell ⟨gI,2,none⟩ (σ H m' G)=u5 at d u⊢
   go_frame
   have ac:=Aa u;clear u;have k0:=d.out.c0;have k1:=d.out.c1;have k2:=d.out.c2;go_wp2_with fail;refine ac.out.mono ?_;rintro e w5⟨⟨a,m5,c5,rfl,o,E⟩,F⟩;have X:=Aa o;have W:=Aa (E.mono d.out.bel.size);have aa:=Aa (below_go d.out.bel F);clear o F E;go_wp2_with fail;go_ret2;exact⟨⟨a,m5,c5,rfl,X.out,W.out⟩,aa.out⟩
  refine CE 5 74 (σ (some ⟨l.heap.size,0,none⟩) 1 1) rfl rfl (by kernel_rfl) (FG rfl z (by kernel_rfl)) ⟨k.bx,k.bel⟩ ?_ AB;refine AD (rs:=[1]) (by kernel_rfl) (by simp) ?_;refine CE 1 70 it rfl rfl (by kernel_rfl) (CQ rfl (by kernel_rfl) k.c2) ⟨k.bx,k.bel⟩ ?_ AB;refine AD (rs:=[6]) (by kernel_rfl) (by simp) ?_;refine CE 6 75 v' rfl rfl (by kernel_rfl) (Iu rfl it (σ (some ⟨l.heap.size,0,none⟩) 1 1) (by kernel_rfl) (by kernel_rfl) s) ⟨c.bx,c.bel⟩ ?_ AB;refine Br 7 76 (ψ gI 2) rfl rfl (by kernel_rfl) (by kernel_rfl) (by kernel_rfl) (λ_ _ _ h=>h) (by kernel_rfl) (λv _=>by kernel_rfl) ⟨c.bx,c.bel⟩<|AD (rs:=[8]) (by kernel_rfl) (by simp) ?_;refine DF 8 rfl rfl (by kernel_rfl) (FH rfl gI v' it (by obtain⟨H,G,e,_⟩:=A;exact⟨_,_,_,e⟩) (by kernel_rfl) (by kernel_rfl) c.c2 c.fz) ⟨j.bx,j.bel⟩ ?_ AB;refine Cq (by kernel_rfl) ?_ _;refine J _ _ ?_;have d:=Aa j;obtain⟨H,m',G,Z,u⟩:=He (n:=n) A (by simp) (by unfold itemP;rw[H2.out,Ae (by decide),Ae (by decide),ah.out]) HM.out;subst Z;clear j c k I C f ad A D s O i J;generalize P.setCell ⟨gI,2,none⟩ (σ H m' G)=u5 at d u⊢
  go_frame
  have ac:=Aa u;clear u;have k0:=d.out.c0;have k1:=d.out.c1;have k2:=d.out.c2;go_wp2_with fail;refine ac.out.mono ?_;rintro e w5⟨⟨a,m5,c5,rfl,o,E⟩,F⟩;have X:=Aa o;have W:=Aa (E.mono d.out.bel.size);have aa:=Aa (below_go d.out.bel F);clear o F E;go_wp2_with fail;go_ret2;exact⟨⟨a,m5,c5,rfl,X.out,W.out⟩,aa.out⟩
theorem Up(K:Θ)(x:NV)(n:PN)(w:Γ)(h:NodeAt K w x n)(a:n.k=1∨n.k=2∨n.k=3)(hd:∀r,(r=n.c∨r∈n.ks)->r.i.length<32->DDSaid r.i):
 Calls prog 66 #[γ x.cells.toArray] w (EEPost w n):=by
 rcases a with a|a|a
 ·exact WL K x n w h a hd
 ·exact WM K x n w h a hd
 ·exact WI K x n w h a hd
end
section
variable {j : Nat}
theorem Uq(K:Θ)(x:NV)(n:PN)(w:Γ)(h:NodeAt K w x n)(b:NR n=false)(hd:∀r,(r=n.c∨r∈n.ks)->r.i.length<32->DDSaid r.i):
 Calls prog 66 #[γ x.cells.toArray] w (EEPost w n):=by
 have B:=EC w x h.c.len;have a:=Aa (below_new w (.cells x.cells.toArray 121))
 have i:=Aa (show∀v,Λ w v->Calls prog 90 #[γ x.cells.toArray] v λe w'=>e=ω (β false)/\Λ v w' from λv k=>by
  rw[<-b];exact GX K x n v (h.go (Keep.below k)) hd)
 unfold EEPost;rw[b];clear h b hd;go_enter func66,ntmps66;go_upto_region 1 with fail;refine gen_w (p:=λv=>Code.wp _ _ _ _ v) (q:=λv=>NBx w.heap.size v x/\Λ w v) ⟨B,a.out⟩ ?_;clear B a;rintro v⟨B,d⟩;have a:=Aa d;have f:=Aa B;clear d B;go_wp2_with (first|refine CC rfl _ rfl w.heap.size rfl x f.out ?_);refine(i.out v a.out).mono ?_;rintro e w1⟨rfl,c⟩;have j:=Aa (below_go a.out c);clear c f a;go_wp2_with fail;go_ret2;exact⟨⟨none,0,0,rfl,⟨.inl ⟨rfl,rfl⟩,λ_=>⟨rfl,rfl⟩,rfl,λx l=>by cases l⟩,λg off h=>by cases h⟩,j.out⟩
theorem GB(K:Θ)(x:NV)(n:PN)(w:Γ)(h:NodeAt K w x n)(hd:∀r,(r=n.c∨r∈n.ks)->r.i.length<32->DDSaid r.i):
 Calls prog 66 #[γ x.cells.toArray] w (EEPost w n):=by
 cases a:NR n with
 |false=>exact Uq K x n w h a hd
 |true=>exact Up K x n w h (KF a) hd
def drefP(t:T):PR:=if t.l=true then⟨1,z32,(encP t).1⟩else if t.bs.length=32 then⟨2,t.bs,[]⟩else r0
def DRPost(w:Γ)(r:PR):Ending->Γ->Prop:=λe w'=>(∃y:RV,e=ω (γ y.cells.toArray)/\RefAt (λg=>w.heap.size<g) w' y r)/\Λ w w'
theorem Zf{bs:τ}(c:bs.length=32)(b:j<32):(bs.take j++List.replicate (32-j) 0).set j (bs.getD j 0)=bs.take (j+1)++List.replicate (32-(j+1)) 0:=by
 have a:(bs.take j).length=j:=by rw[Ap];omega
 rw[DC _ _ (by omega),a,C8,show 32-j=(32-(j+1))+1 from by omega,List.replicate_succ,List.set_cons_zero,BP,Ad (by omega),AX];simp[List.getD,Ad (show j<bs.length by omega)]
theorem Ur{k:Int}{d:τ}{a:Ω}{n c:Nat}{b:Int}(e:j<d.length):(RV.cells ⟨k,d,a,n,c⟩).toArray.setIfInBounds (1+j) (η b)=(RV.cells ⟨k,d.set j b,a,n,c⟩).toArray:=by
 rw[D7];congr 1;rw[RV.cells,RV.cells,Nat.add_comm 1 j,EI,List.set_append_left _ _ (by simpa using e),ES]
theorem Mb(t:T)(x:V)(w:Γ)(h:Lies w t x):
 Calls prog 169 #[γ #[β x.l,σ x.ba x.bn x.bc,σ x.ia x.m x.ic]] w (DRPost w (drefP t)):=by
 obtain⟨l,bs,its⟩:=t;obtain⟨hl,m,-⟩:=lies_eq.1 h;have ax:x.bn<=140737488351232:=(lies_eq.1 h).2.2.2.2.2.1.1;subst hl;have HX:=Aa h;have ai:=Aa m;obtain⟨I,b⟩:∃I,drefP (.mk x.l bs its)=I:=⟨_,rfl⟩;rw[b];have b:(if x.l=true then(⟨1,z32,(encP (.mk x.l bs its)).1⟩:PR)else if bs.length=32 then⟨2,bs,[]⟩else r0)=I:=b;rw[m.l]at b;have E:=Aa b;have f:=Aa (Wk w x);clear h m b;go_enter func169,ntmps169;go_upto_region 1 with fail;refine gen_w (p:=λv=>Code.wp _ _ _ _ v) (q:=λv=>Rr w v x) f.out ?_;clear f;intro v C;have c0:=C.bx.c0;have c1:=C.bx.c1;have c2:=C.bx.c2;have f:=Aa C;clear C;by_cases A:x.l=true
 ·have D:=K5 (.mk x.l bs its) x v (Cl f.out.bel _ x HX.out);have b:=E.out;rw[Ai A]at b
  have HF:=Aa (show(encP (.mk x.l bs its)).1.length<=16777220 from by
   by_cases N:(mP (.mk x.l bs its)).2=0
   ·rw[Gl N];exact VS N
   ·rw[NT N];simp)
  obtain⟨L,aa⟩:∃L,(encP (.mk x.l bs its)).1=L:=⟨_,rfl⟩;rw[aa]at D HF b;subst b;obtain⟨er,S⟩:∃er,(encP (.mk x.l bs its)).2=er:=⟨_,rfl⟩;rw[S]at D;clear aa S;rw[A]at c0 D;have ap:=Aa D;clear D E;go_wp2_with fail;refine ap.out.mono ?_;rintro e w1⟨⟨a,n,c,rfl,m,Y⟩,hb⟩;have R1:=f.out.go hb;have ae:=Aa (show AgK (λg=>w.heap.size+2<=g) w1 a n c L from⟨m,by have:=m.l;have:=HF.out;omega,λg off e _=>by have:=Y (by first|exact trivial|rfl) g off e;have:=f.out.sz;omega⟩);have H:=Aa R1;have aq:z32.length=32:=rfl;clear m hb R1 Y;go_wp2_with (first|refine A5 rfl 118 _ _ rfl _ (RV.cells ⟨1,z32,a,n,c⟩).toArray rfl rfl 118 _ H.out.row (CD rfl) (CL rfl) (Am (RV.one _)) ?_);refine Aq (Be results169 _ _ (w.heap.size+1) 118 _ (0,0) _ rfl (AC _ _ _ _ _ _ H.out.row) υ118 rfl (CD (y:=⟨1,z32,a,n,c⟩) rfl)) rfl ?_;exact⟨⟨⟨1,z32,a,n,c⟩,rfl,rfl,rfl,Js,rfl,ae.out.go (λg hK _=>⟨Bc _ _ _ _ (by omega),by omega⟩)⟩,Below.setRow H.out.bel (by omega) _⟩
 ·have b:=E.out;rw[Ae A]at b;have U:x.l=false:=by simpa using A
  rw[U]at c0;clear U A E HX;by_cases z:x.bn=32
  ·rw[Ai z]at b;subst b;have B:=ai.out;rw[z]at B c1;obtain⟨g,off,G,aw,af,ab⟩:=ag_head B (by omega);unfold maxLen at af;rw[G]at c1;have i:=Aa B.l;have Z:=Aa B.b;have am:=Aa (show∀u,Λ w u->∀j,j<32->u.cell? ⟨g,off+j,none⟩=some (η (bs.getD j 0))from λu hu j hj=>AS hu (ab j hj));have ak:=Aa G;have ad:=Aa z;have P:=Aa f.out.sz;clear B ab z G;go_upto_region 6 with(first|refine A5 rfl 118 _ _ rfl _ (RV.cells ⟨2,z32,none,0,0⟩).toArray rfl rfl 118 _ (Ak _ _) (CD rfl) (CL rfl) (Am (RV.one _)) ?_);obtain⟨gB,K⟩:∃gB,v.heap.size=gB:=⟨_,rfl⟩;refine gen_w (p:=λv=>Code.wp _ _ _ _ v) (q:=λu=>RBx gB u ⟨2,z32,none,0,0⟩/\Rr w u x) ⟨⟨by rw[<-K];exact AC _ _ _ _ _ _ (Ak _ _),rfl⟩,f.out.go (Below.setRow (below_new v _) (Ab _) _)⟩ ?_;rintro u0⟨B2,R2⟩;rw[K]at P⊢;have Q:=Aa B2;have W:=Aa R2;clear B2 R2 K c0 c1 c2 f;go_wp2_with fail
   go_loopw [6] (λM u=>∃j:Nat,j<=32/\M=ι j/\RBx gB u ⟨2,bs.take j++List.replicate (32-j) 0,none,0,0⟩/\Rr w u x) (λM _=>32-(intOf M).toNat)
   case atStart=>exact⟨0,by omega,rfl,Q.out,W.out⟩
   case round=>
    obtain⟨j,hj,rfl,s,hR⟩:=hrel;have r:=Aa s;have HR:=Aa hR;clear s hR Q W;by_cases F:j<32
    ·have aj:(j:Int)<32:=(by omega);have d1:=HR.out.bx.c1;rw[ak.out,ad.out]at d1;have hc:=am.out _ HR.out.bel j F;have hf:=r.out.fz;obtain⟨old,av⟩:∃old,wr.cell? ⟨gB,1+j,none⟩=some old:=by
      rw[r.out.at];exact⟨_,Ad (by rw[RV.len r.out.l];omega)⟩
     have O:=Aa (show RBx gB (wr.setCell ⟨gB,1+j,none⟩ (η (bs.getD j 0))) ⟨2,bs.take (j+1)++List.replicate (32-(j+1)) 0,none,0,0⟩from by
      have ao:=r.out.l;have e:=AU wr gB (1+j) _ 118 (η (bs.getD j 0)) r.out.row;rw[Ur (d:=bs.take j++List.replicate (32-j) 0) (Nat.lt_of_lt_of_eq F ao.symm),Zf i.out F]at e;exact⟨e,by show(bs.take (j+1)++List.replicate (32-(j+1)) 0).length=32;rw[Af,Ap,Bu,i.out];omega⟩)
     have R:=Aa (show Rr w (wr.setCell ⟨gB,1+j,none⟩ (η (bs.getD j 0))) x from by
      have hv:=P.out;have ho:∀k,k≠gB->(wr.setCell ⟨gB,1+j,none⟩ (η (bs.getD j 0))).heap[k]?=wr.heap[k]?:=λk hk=>AA _ _ _ _ hk;have J:∀o,(wr.setCell ⟨gB,1+j,none⟩ (η (bs.getD j 0))).cell? ⟨w.heap.size,o,none⟩=wr.cell? ⟨w.heap.size,o,none⟩:=λo=>Av (ho w.heap.size (by omega));exact⟨(ho _ (by omega)).trans HR.out.row,⟨(J _).trans HR.out.bx.c0,(J _).trans HR.out.bx.c1,(J _).trans HR.out.bx.c2⟩,HR.out.bel.setCell (by show w.heap.size<=gB;omega) _,by simpa using HR.out.sz⟩)
     have X:j<bs.length:=(by have:=i.out;omega);have al:=Z.out (bs.getD j 0) (by simp[List.getD,Ad X]);clear X;generalize bs.getD j 0=bj at hc O R al;go_wp2_with fail;exact⟨⟨j+1,by omega,by simp,O.out,R.out⟩,by simp[intOf];omega⟩
    ·have aj:¬(j:Int)<32:=(by omega);have s:=r.out;have ac:j=32:=(by omega);subst ac;rw[show bs.take 32++List.replicate (32-32) 0=bs from by rw[A9 (by rw[i.out];omega)];simp]at s;have ah:=Aa s;clear s r;go_wp2_with (first|refine C3 rfl _ rfl gB 0 rfl ⟨2,bs,none,0,0⟩ i.out ah.out.all ?_|refine A5 rfl 118 _ _ rfl _ (RV.cells ⟨2,bs,none,0,0⟩).toArray rfl rfl 118 _ HR.out.row (CD i.out) (CL i.out) (Am (RV.one _)) ?_);refine Aq (Be results169 _ _ (w.heap.size+1) 118 _ (0,0) _ rfl (AC _ _ _ _ _ _ HR.out.row) υ118 rfl (CD (y:=⟨2,bs,none,0,0⟩) i.out)) rfl ?_;exact⟨⟨⟨2,bs,none,0,0⟩,rfl,rfl,rfl,Z.out,i.out,Fx _ _⟩,Below.setRow HR.out.bel (by omega) _⟩
  ·rw[Ae z]at b;subst b;have ar:¬(x.bn:Int)=32:=(by omega);go_wp2_with (first|refine A5 rfl 118 _ _ rfl _ rz.cells.toArray rfl rfl 118 _ f.out.row (CD rfl) (CL rfl) (Am (RV.one _)) ?_);refine Aq (Be results169 _ _ (w.heap.size+1) 118 _ (0,0) _ rfl (AC _ _ _ _ _ _ f.out.row) υ118 rfl (CD (y:=rz) rfl)) rfl ?_;exact⟨⟨rz,rfl,Ff _ _⟩,Below.setRow f.out.bel (by omega) _⟩
end
end Go.Proofs.YtkdlocloepbmcaaGreat
