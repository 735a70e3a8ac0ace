/- More steps through a drawn region: a store, a build, loads of whole references, nodes and items. -/
import Derived.Test.YtkdlocloepbmcaaGreatG06
set_option linter.unusedVariables false
set_option linter.unusedSimpArgs false
set_option maxRecDepth 100000
set_option maxHeartbeats 4000000
open Go.Proofs.Tryz Go.RowKit
namespace Go.Proofs.YtkdlocloepbmcaaGreat
section
section
variable {md : Region.Mode} {ops : Array Oper} {Q : Exit → Act → World → Prop} {S : World → Prop} {fuel : Nat} {listed : Array Bool} {a : Act} {w : World}
theorem DF(i:Nat){rs:List Nat}{w':Γ}{o:Oper}(c:ops[i]?=some o)(hd:o.dst=none)(g:Region.wanted o (yielded ops a.tmps)=true)(b:(execOp a.eval o).run prog w= .ok .skip w')(d:S w')
 (h:wpAnyH prog md ops Q S fuel (listed.setIfInBounds i true) a w') (f:AllReadyH prog md ops Q S fuel listed a w rs):AllReadyH prog md ops Q S fuel listed a w (i::rs):=
 D9 c (λK e=>by
  rw[Ai g];unfold Oper.wp;rw[b,Oper.upon_skip];exact e _ _ d (λ_=>by rw[hd];exact h)) f
end
section
variable {ops : Array Oper} {Q : Exit → Act → World → Prop} {a : Act} {w w' : World} {rest : List Oper} {o : Oper}
theorem NU(d:Nat)(v:Δ)(hd:o.dst=some d)(e:Region.wanted o (yielded ops a.tmps)=true)(b:(execOp a.eval o).run prog w= .ok (.value v) w')(h:wpList prog ops Q rest (a.put (some d) v) w'):wpList prog ops Q (o::rest) a w:=
 L7 e λK c=>by
  unfold Oper.wp;rw[b,Oper.upon_value,hd];exact c _ _ h
theorem B9(d:Nat)(v:Δ)(hd:o.dst=some d)(c:Region.wanted o (yielded ops a.tmps)=true)(b:(execOp a.eval o).run prog w= .ok (.value v) w)(h:wpList prog ops Q rest (a.put (some d) v) w):wpList prog ops Q (o::rest) a w:=NU d v hd c b h
theorem Fw(hd:o.dst=none)(d:Region.wanted o (yielded ops a.tmps)=true)(b:(execOp a.eval o).run prog w= .ok .skip w')(h:wpList prog ops Q rest a w'):wpList prog ops Q (o::rest) a w:=
 L7 d λK c=>by
  unfold Oper.wp;rw[b,Oper.upon_skip,hd];exact c _ _ h
theorem KH(d:Nat)(hd:o.dst=some d)(g:Region.wanted o (yielded ops a.tmps)=true)(f:FuncId)(args:Ξ)(b:(execOp a.eval o).run prog w= .ok (.enter f args) w)
 {R:Δ->Γ->Prop} (i:κ f args w λv w'=>R v w') (h:∀v w',R v w'->wpList prog ops Q rest (a.put (some d) v) w'):wpList prog ops Q (o::rest) a w:=
 L7 g λK c=>by
  unfold Oper.wp;rw[b,Oper.upon_enter];refine i.mono ?_;rintro e w'⟨v,rfl,j⟩;rw[hd];exact c _ _ (h v w' j)
end
section
variable {a : Act} {w : World}
theorem Eh(t:TypeId)(b:Array (Nat×Operand)){o:Oper}(e:o.op= .build t b)(c:List (Nat×Δ))(f:(b.map λ(i,x)=>(i,a.eval x)).toList=c)(cells:Ξ)(d:prog.built t c=some cells):
 (execOp a.eval o).run prog w= .ok (.value (γ cells)) w:=by
 subst f;have g:=run_build w t (b.map λ(i,x)=>(i,a.eval x)) cells (P:=prog) d;unfold execOp;rw[e];simp only[AO,g,A4,AV]
theorem D1(ty:TypeId)(x y:Operand){o:Oper}(e:o.op= .store ty x y)(g:Nat)(cells:Ξ)(i:a.eval x=π g)(h:a.eval y=γ cells)(t:TypeId)(old:Ξ)
 (f:w.heap[g]?=some (.cells old t (0,0))) (d:(prog.info? ty).map (·.size)=some cells.size) (b:old.size=cells.size) (c:cells.all (·.oneCell')=true):
 (execOp a.eval o).run prog w= .ok .skip (w.setRow g cells):=by
 unfold execOp;rw[e];simp only[i,h,Instr.storeAt,Instr.sureAddr,AO,AV,A4,run_storeVar_row w g t ty old cells f d b c]
theorem L9(ty:TypeId)(x:Operand){o:Oper}(e:o.op= .load ty x)(b off:Nat)(h:a.eval x=ψ b off)(cs:List Δ)(d:TypeDesc)(f:w.rangeAt b off cs)(c:prog.underlying ty=some d)(hd:d.isRow=true)(g:(prog.info? ty).map (·.size)=some cs.length):
 (execOp a.eval o).run prog w= .ok (.value (γ cs.toArray)) w:=by
 unfold execOp;simp only[e,h,Instr.loadAt,Instr.sureAddr,AO,AV,A4,run_loadVar_mid w b off ty cs d f c hd g]
theorem TF{x:Operand}{o:Oper}(e:o.op= .load 121 x){b:Nat}(d:a.eval x=π b){y:NV}(c:NBx b w y):(execOp a.eval o).run prog w= .ok (.value (γ y.cells.toArray)) w:=
 L9 121 x e b 0 d y.cells _ c.all υ121 rfl (by rw[I0,NV.len c.l])
theorem Gn{x:Operand}{o:Oper}(f:o.op= .load 118 x){b off:Nat}(d:a.eval x=ψ b off){y:RV}(c:y.d.length=32)(e:w.rangeAt b off y.cells):(execOp a.eval o).run prog w= .ok (.value (γ y.cells.toArray)) w:=
 L9 118 x f b off d y.cells _ e υ118 rfl (by rw[EW,RV.len c])
end
end
namespace Di
structure S4 where
 a:Int
 b:Int
 c:Int
 d:Int
def wr(x:Int):Int:=IntKind.u64.wrap x
def rotl(x k:Int):Int:=bits BinOp.or IntKind.u64 (IntKind.u64.wrap (x*2^k.toNat)) (x/2^(64-k).toNat)
def xr(x y:Int):Int:=bits BinOp.xor IntKind.u64 x y
def rnd(s:S4)(x:Int):S4:=
 let a:=wr (s.a+wr (s.b+x))
 let d:=rotl (xr s.d a) 32
 let c:=wr (s.c+d)
 let b:=rotl (xr s.b c) 24
 let a:=wr (a+b)
 let d:=rotl (xr d a) 16
 let c:=wr (c+d)
 let b:=rotl (xr b c) 63
 ⟨b,c,d,a⟩
def xor4(s m:S4):S4:=⟨xr s.a m.a,xr s.b m.b,xr s.c m.c,xr s.d m.d⟩
def kk:Int:=11400714819323198485
def stir(s m:S4):S4:=
 let s:=rnd s (wr (m.a+wr (1*kk)))
 let s:=rnd s (wr (m.b+wr (2*kk)))
 let s:=rnd s (wr (m.c+wr (3*kk)))
 let s:=rnd s (wr (m.d+wr (4*kk)))
 let s:=rnd s (wr (m.a+wr (5*kk)))
 let s:=rnd s (wr (m.b+wr (6*kk)))
 let s:=rnd s (wr (m.c+wr (7*kk)))
 rnd s (wr (m.d+wr (8*kk)))
def mix(s m:S4):S4:=xor4 (stir (xor4 s m) m) s
theorem XbX:bits BinOp.and IntKind.u64 32 63=32:=by decide
theorem XbY:bits BinOp.and IntKind.u64 24 63=24:=by decide
theorem XbZ:bits BinOp.and IntKind.u64 16 63=16:=by decide
theorem Xca:bits BinOp.and IntKind.u64 63 63=63:=by decide
theorem XbL(x:Int)(w:Γ)(k:Int)(a:0<=k)(b:k<64)(c:bits BinOp.and IntKind.u64 k 63=k):
 Calls prog 167 #[ξ x,ι k] w λe w'=>e=ω (ξ (rotl x k))/\w'=w:=by
 go_enter func167,ntmps167;go_wp2;go_ret;exact⟨rfl,rfl⟩
theorem round_any(a b c d x:Int)(w:Γ):
 Calls prog 152 #[γ #[ξ a,ξ b,ξ c,ξ d],ξ x] w λe w'=>(∃a' f c' g,e=ω (γ #[ξ a',ξ f,ξ c',ξ g])/\Hid (S4.mk a' f c' g=rnd ⟨a,b,c,d⟩ x))/\Λ w w':=by
 go_enter func152,ntmps152;go_wp2_with fail
 go_quiet (fail)
 go_wp2_with (first|(go_at_call 167;refine(XbL _ _ _ (by omega) (by omega) (by first|exact XbX|exact XbY|exact XbZ|exact Xca)).mono ?_;rintro e w'⟨rfl,rfl⟩))
 go_returns
 refine⟨⟨_,_,_,_,rfl,rfl⟩,?_⟩
 repeat' (first|refine Below.setCell ?_ (by simp<;>omega) _|refine below_drewN ?_ _|refine Below.alloc ?_ (by simp<;>omega) _|exact Ac _ _)
theorem Sh(a b c d x y z u:Int)(w:Γ):
 Calls prog 121 #[γ #[ξ a,ξ b,ξ c,ξ d],γ #[ξ x,ξ y,ξ z,ξ u]] w λe w'=>(∃a' h c' g,e=ω (γ #[ξ a',ξ h,ξ c',ξ g])/\Hid (S4.mk a' h c' g=xor4 ⟨a,b,c,d⟩ ⟨x,y,z,u⟩))/\Λ w w':=by
 have i:∀(w:Γ)(x0 x1 x2 f:Δ),(Instr.index 111 (γ #[x0,x1,x2,f]) (ι 0)).run prog w= .ok x0 w:=λ_ _ _ _ _=>by kernel_rfl
 have j:∀(w:Γ)(x0 x1 x2 f:Δ),(Instr.index 111 (γ #[x0,x1,x2,f]) (ι 1)).run prog w= .ok x1 w:=λ_ _ _ _ _=>by kernel_rfl
 have l:∀(w:Γ)(x0 x1 x2 f:Δ),(Instr.index 111 (γ #[x0,x1,x2,f]) (ι 2)).run prog w= .ok x2 w:=λ_ _ _ _ _=>by kernel_rfl
 have k:∀(w:Γ)(x0 x1 x2 f:Δ),(Instr.index 111 (γ #[x0,x1,x2,f]) (ι 3)).run prog w= .ok f w:=λ_ _ _ _ _=>by kernel_rfl
 go_enter func121,ntmps121;go_wp2
 go_rounds 5
 go_returns
 refine⟨⟨_,_,_,_,rfl,rfl⟩,?_⟩
 repeat' (first|refine Below.setCell ?_ (by simp<;>omega) _|refine below_drewN ?_ _|refine Below.alloc ?_ (by simp<;>omega) _|exact Ac _ _)
structure Rows3(n:Nat)(w0 w:Γ)(r2 r3 r4:Ξ):Prop where
 h2:w.heap[n]?=some (.cells r2 111)
 h3:w.heap[n+1]?=some (.cells r3 111)
 h4:w.heap[n+1+1]?=some (.cells r4 111)
 bel:Below n w0 w
theorem Aa{p:Prop}(h:p):Hid p:=h
theorem lt_of_get{α:Type}{xs:Array α}{i:Nat}{x:α}(h:xs[i]?=some x):i<xs.size:=(Cu.1 h).1
theorem Rows3.call{n:Nat}{w0 v w1:Γ}{b d c:Ξ}(h:Rows3 n w0 v b d c)(a:Λ v w1):Rows3 n w0 w1 b d c:=by
 have l:=lt_of_get h.h4;exact⟨(a.block _ (by omega)).trans h.h2,(a.block _ (by omega)).trans h.h3,(a.block _ (by omega)).trans h.h4,h.bel.trans (a.mono (by omega))⟩
theorem CP{w:Γ}{g t:Nat}{x0 x1 x2 a:Δ}(h:w.heap[g]?=some (.cells #[x0,x1,x2,a] t)):
 w.cell? ⟨g,0,none⟩=some x0/\w.cell? ⟨g,1,none⟩=some x1/\w.cell? ⟨g,2,none⟩=some x2/\w.cell? ⟨g,3,none⟩=some a/\∀o,w.frozen? ⟨g,o,none⟩=false:=
 ⟨by simp[World.cell?,h],by simp[World.cell?,h],by simp[World.cell?,h],by simp[World.cell?,h],λo=>AN w g o _ t h⟩
theorem VY{w:Γ}{g t:Nat}{x0 x1 x2 i:Δ}(h:w.heap[g]?=some (.cells #[x0,x1,x2,i] t))(a b c d:Δ):
 ((((w.setCell ⟨g,0,none⟩ a).setCell ⟨g,1,none⟩ b).setCell ⟨g,2,none⟩ c).setCell ⟨g,3,none⟩ d).heap[g]?=some (.cells #[a,b,c,d] t):=by
 have e:=AU w g 0 _ t a h;have j:=AU _ g 1 _ t b e;have f:=AU _ g 2 _ t c j;have k:=AU _ g 3 _ t d f;simpa using k
theorem G5{w:Γ}{g k:Nat}(e:k≠g)(a b c d:Δ):
 ((((w.setCell ⟨g,0,none⟩ a).setCell ⟨g,1,none⟩ b).setCell ⟨g,2,none⟩ c).setCell ⟨g,3,none⟩ d).heap[k]?=w.heap[k]?:=by
 rw[AA _ _ _ _ e,AA _ _ _ _ e,AA _ _ _ _ e,AA _ _ _ _ e]
theorem JN{B:Nat}{w0 w:Γ}{g:Nat}(h:Below B w0 w)(e:B<=g)(a b c d:Δ):
 Below B w0 ((((w.setCell ⟨g,0,none⟩ a).setCell ⟨g,1,none⟩ b).setCell ⟨g,2,none⟩ c).setCell ⟨g,3,none⟩ d):=
 (((h.setCell e a).setCell e b).setCell e c).setCell e d
theorem Rows3.put{n:Nat}{w0 w:Γ}{x0 x1 x2 g:Δ}{f e:Ξ}(h:Rows3 n w0 w #[x0,x1,x2,g] f e)(a b c d:Δ):
 Rows3 n w0 ((((w.setCell ⟨n,0,none⟩ a).setCell ⟨n,1,none⟩ b).setCell ⟨n,2,none⟩ c).setCell ⟨n,3,none⟩ d) #[a,b,c,d] f e:=
 ⟨VY h.h2 a b c d,(G5 (by omega) a b c d).trans h.h3,(G5 (by omega) a b c d).trans h.h4,JN h.bel (Ab _) a b c d⟩
theorem MI(w:Γ)(A B C:Ξ):Rows3 w.heap.size w (((w.alloc (.cells A 111)).alloc (.cells B 111)).alloc (.cells C 111)) A B C:=by
 have d:(w.alloc (.cells A 111)).heap.size=w.heap.size+1:=by simp
 have e:((w.alloc (.cells A 111)).alloc (.cells B 111)).heap.size=w.heap.size+1+1:=by simp
 have c:=Ak w (.cells A 111);have b:=Ak (w.alloc (.cells A 111)) (.cells B 111);have a:=Ak ((w.alloc (.cells A 111)).alloc (.cells B 111)) (.cells C 111);rw[d]at b;rw[e]at a
 exact⟨by rw[Ax _ _ _ (by omega),Ax _ _ _ (by omega)];exact c,by rw[Ax _ _ _ (by omega)];exact b,a,
  (((Ac _ _).alloc (Ab _) _).alloc (by omega) _).alloc (by omega) _⟩
theorem Rows3.drew{n:Nat}{w0 w:Γ}{a c b:Ξ}(h:Rows3 n w0 w a c b):Rows3 n w0 w.drew a c b:=⟨h.h2,h.h3,h.h4,h.bel.drew⟩
theorem Rows3.alloc{n:Nat}{w0 w:Γ}{a c b:Ξ}(h:Rows3 n w0 w a c b)(o:Obj):Rows3 n w0 (w.alloc o) a c b:=by
 have l:=lt_of_get h.h4;exact⟨(Ax _ _ _ (by omega)).trans h.h2,(Ax _ _ _ (by omega)).trans h.h3,(Ax _ _ _ (by omega)).trans h.h4,h.bel.alloc (by omega) _⟩
theorem Rows3.size{n:Nat}{w0 w:Γ}{r2 r3 r4:Ξ}(h:Rows3 n w0 w r2 r3 r4):n+1+1<w.heap.size:=lt_of_get h.h4
theorem Rows3.putAt{n:Nat}{w0 w:Γ}{e i f:Ξ}(h:Rows3 n w0 w e i f){g:Nat}(j:n+1+1<g)(a b c d:Δ):
 Rows3 n w0 ((((w.setCell ⟨g,0,none⟩ a).setCell ⟨g,1,none⟩ b).setCell ⟨g,2,none⟩ c).setCell ⟨g,3,none⟩ d) e i f:=
 ⟨(G5 (by omega) a b c d).trans h.h2,(G5 (by omega) a b c d).trans h.h3,(G5 (by omega) a b c d).trans h.h4,JN h.bel (by omega) a b c d⟩
theorem Below.row{W w1:Γ}(a:Λ W w1){g:Nat}{o:Obj}(h:W.heap[g]?=some o):w1.heap[g]?=some o:=(a.block g (lt_of_get h)).trans h
theorem NX(w:Γ)(A B C D:Obj):Hid ((((((w.alloc A).alloc B).alloc C).alloc D).heap[w.heap.size+1+1+1]?)=some D):=by
 have a:(((w.alloc A).alloc B).alloc C).heap.size=w.heap.size+1+1+1:=by simp
 have h:=Ak (((w.alloc A).alloc B).alloc C) D;rw[a]at h;exact h
theorem Y5{a b c d x y z u:Int}{h k j f l e i g:S4}
 (s:h=rnd ⟨a,b,c,d⟩ (IntKind.u64.wrap (x+11400714819323198485)))
 (n:k=rnd h (IntKind.u64.wrap (y+IntKind.u64.wrap 22801429638646396970)))
 (o:j=rnd k (IntKind.u64.wrap (z+IntKind.u64.wrap 34202144457969595455)))
 (r:f=rnd j (IntKind.u64.wrap (u+IntKind.u64.wrap 45602859277292793940)))
 (v:l=rnd f (IntKind.u64.wrap (x+IntKind.u64.wrap 57003574096615992425)))
 (p:e=rnd l (IntKind.u64.wrap (y+IntKind.u64.wrap 68404288915939190910)))
 (t:i=rnd e (IntKind.u64.wrap (z+IntKind.u64.wrap 79805003735262389395)))
 (m:g=rnd i (IntKind.u64.wrap (u+IntKind.u64.wrap 91205718554585587880))):g=stir ⟨a,b,c,d⟩ ⟨x,y,z,u⟩:=by
 rw[m,t,p,v,r,o,n,s];have q:wr (1*kk)=11400714819323198485:=by unfold wr kk;rw[C6];rfl
 unfold stir;rw[q];rfl
theorem VZ(a b c d x y z u:Int)(w:Γ):
 Calls prog 120 #[γ #[ξ a,ξ b,ξ c,ξ d],γ #[ξ x,ξ y,ξ z,ξ u]] w λe w'=>(∃a' B c' v,e=ω (γ #[ξ a',ξ B,ξ c',ξ v])/\Hid (S4.mk a' B c' v=stir ⟨a,b,c,d⟩ ⟨x,y,z,u⟩))/\Λ w w':=by
 have i0:∀(w:Γ)(x0 x1 x2 f:Δ),(Instr.index 111 (γ #[x0,x1,x2,f]) (ι 0)).run prog w= .ok x0 w:=λ_ _ _ _ _=>by kernel_rfl
 have i1:∀(w:Γ)(x0 x1 x2 f:Δ),(Instr.index 111 (γ #[x0,x1,x2,f]) (ι 1)).run prog w= .ok x1 w:=λ_ _ _ _ _=>by kernel_rfl
 have i2:∀(w:Γ)(x0 x1 x2 f:Δ),(Instr.index 111 (γ #[x0,x1,x2,f]) (ι 2)).run prog w= .ok x2 w:=λ_ _ _ _ _=>by kernel_rfl
 have i3:∀(w:Γ)(x0 x1 x2 f:Δ),(Instr.index 111 (γ #[x0,x1,x2,f]) (ι 3)).run prog w= .ok f w:=λ_ _ _ _ _=>by kernel_rfl
 have R0:=MI w #[ξ a,ξ b,ξ c,ξ d] #[ξ x,ξ y,ξ z,ξ u] #[ξ 0,ξ 0,ξ 0,ξ 0];go_enter func120,ntmps120;go_wp2
 go_step3
 go_wp2
 go_step3
 go_wp2;refine wp_loop_rounds 2 ?_;rw[CZ];go_wp2;refine wp_loop_rounds 5 ?_;rw[CZ];go_wp2_with fail;refine(round_any _ _ _ _ _ _).mono ?_;rintro e w1⟨⟨a1,b1,c1,d1,rfl,H1⟩,r⟩;have A:=Rows3.call R0 r;obtain⟨p1,q1,r1,s1,X⟩:=CP A.h2;clear r;go_wp2_with fail;have R1:=Rows3.put A (ξ a1) (ξ b1) (ξ c1) (ξ d1);rw[CZ];go_wp2_with fail;refine(round_any _ _ _ _ _ _).mono ?_;rintro e w2⟨⟨a2,b2,c2,K,rfl,H2⟩,o⟩;clear p1 q1 r1 s1 X;have D:=Rows3.call R1 o;obtain⟨N,q2,r2,s2,f2⟩:=CP D.h2;clear o;go_wp2_with fail;have V:=Rows3.put D (ξ a2) (ξ b2) (ξ c2) (ξ K);rw[CZ];go_wp2_with fail;refine(round_any _ _ _ _ _ _).mono ?_;rintro e w3⟨⟨a3,P,c3,d3,rfl,T⟩,s⟩;clear N q2 r2 s2 f2;have F:=Rows3.call V s;obtain⟨J,Z,L,s3,f3⟩:=CP F.h2;clear s;go_wp2_with fail;have R3:=Rows3.put F (ξ a3) (ξ P) (ξ c3) (ξ d3);rw[CZ];go_wp2_with fail;refine(round_any _ _ _ _ _ _).mono ?_;rintro e w4⟨⟨a4,b4,c4,d4,rfl,U⟩,q⟩;clear J Z L s3 f3;have S4:=Rows3.call R3 q;obtain⟨p4,q4,r4,M,f4⟩:=CP S4.h2;clear q;go_wp2_with fail;have G:=Rows3.put S4 (ξ a4) (ξ b4) (ξ c4) (ξ d4);rw[CZ];go_wp2_with fail;rw[CZ];obtain⟨p0,q0,r0,s0,_⟩:=CP G.h3;go_wp2_with fail;refine wp_loop_rounds 5 ?_;rw[CZ];go_wp2_with fail;refine(round_any _ _ _ _ _ _).mono ?_;rintro e w5⟨⟨a5,b5,c5,d5,rfl,Q⟩,n⟩;clear p4 q4 r4 M f4;clear p0 q0 r0 s0;have S5:=Rows3.call G n;obtain⟨p5,q5,r5,s5,f5⟩:=CP S5.h2;clear n;go_wp2_with fail;have R5:=Rows3.put S5 (ξ a5) (ξ b5) (ξ c5) (ξ d5);rw[CZ];go_wp2_with fail;refine(round_any _ _ _ _ _ _).mono ?_;rintro e w6⟨⟨a6,b6,c6,d6,rfl,I⟩,l⟩;clear p5 q5 r5 s5 f5;have t:=Rows3.call R5 l;obtain⟨p6,q6,R,s6,f6⟩:=CP t.h2;clear l;go_wp2_with fail;have R6:=Rows3.put t (ξ a6) (ξ b6) (ξ c6) (ξ d6);rw[CZ];go_wp2_with fail;refine(round_any _ _ _ _ _ _).mono ?_;rintro e w7⟨⟨O,b7,c7,Y,rfl,H7⟩,p⟩;clear p6 q6 R s6 f6;have E:=Rows3.call R6 p;obtain⟨S,q7,r7,s7,W⟩:=CP E.h2;clear p;go_wp2_with fail;have R7:=Rows3.put E (ξ O) (ξ b7) (ξ c7) (ξ Y);rw[CZ];go_wp2_with fail;refine(round_any _ _ _ _ _ _).mono ?_;rintro e w8⟨⟨g,k,h,j,rfl,H8⟩,m⟩;clear S q7 r7 s7 W;have i:=Rows3.call R7 m;obtain⟨p8,q8,r8,s8,f8⟩:=CP i.h2;clear m;obtain⟨p9,q9,r9,s9,f9⟩:=CP i.h4;go_wp2_with fail;rw[Exit.noGoto_ret];have C:=Rows3.put i (ξ g) (ξ k) (ξ h) (ξ j);have H:=VY C.h4 (ξ g) (ξ k) (ξ h) (ξ j);refine Aq (Be results120 _ _ (w.heap.size+1+1) 111 #[ξ g,ξ k,ξ h,ξ j] (0,0) _ rfl H υ111 rfl (by kernel_rfl)) rfl ?_;exact⟨⟨_,_,_,_,rfl,Y5 H1.out H2.out T.out U.out Q.out I.out H7.out H8.out⟩,JN C.bel (by omega) _ _ _ _⟩
theorem Xaz{s m a c b:S4}(d:a=xor4 s m)(f:c=stir a m)(e:b=xor4 c s):b=mix s m:=by
 rw[e,f,d];rfl
theorem XbM{n:Nat}{w0 v:Γ}{a b c d x y z u:Δ}{e:Ξ}(h:Rows3 n w0 v #[a,b,c,d] #[x,y,z,u] e):
 (v.cell? ⟨n,0,none⟩=some a/\v.cell? ⟨n,1,none⟩=some b/\v.cell? ⟨n,2,none⟩=some c/\v.cell? ⟨n,3,none⟩=some d/\v.cell? ⟨n+1,0,none⟩=some x/\v.cell? ⟨n+1,1,none⟩=some y/\v.cell? ⟨n+1,2,none⟩=some z/\v.cell? ⟨n+1,3,none⟩=some u)/\Rows3 n w0 v #[a,b,c,d] #[x,y,z,u] e:=by
 obtain⟨p,q,r,s,_⟩:=CP h.h2;obtain⟨p',q',f,s',_⟩:=CP h.h3;exact⟨⟨p,q,r,s,p',q',f,s'⟩,h⟩
theorem Jq(a b c d x y z u:Int)(w:Γ):
 Calls prog 85 #[γ #[ξ a,ξ b,ξ c,ξ d],γ #[ξ x,ξ y,ξ z,ξ u]] w λe w'=>(∃a' l c' o,e=ω (γ #[ξ a',ξ l,ξ c',ξ o])/\Hid (S4.mk a' l c' o=mix ⟨a,b,c,d⟩ ⟨x,y,z,u⟩))/\Λ w w':=by
 have p:=MI w #[ξ a,ξ b,ξ c,ξ d] #[ξ x,ξ y,ξ z,ξ u] #[ξ 0,ξ 0,ξ 0,ξ 0];have B:=NX w (.cells #[ξ a,ξ b,ξ c,ξ d] 111) (.cells #[ξ x,ξ y,ξ z,ξ u] 111) (.cells #[ξ 0,ξ 0,ξ 0,ξ 0] 111) (.cells #[ξ 0,ξ 0,ξ 0,ξ 0] 111);go_enter func85,ntmps85;go_wp2_with fail
 go_region_held3 (λv=>(v.cell? ⟨w.heap.size,0,none⟩=some (ξ a)/\v.cell? ⟨w.heap.size,1,none⟩=some (ξ b)/\v.cell? ⟨w.heap.size,2,none⟩=some (ξ c)/\v.cell? ⟨w.heap.size,3,none⟩=some (ξ d)/\v.cell? ⟨w.heap.size+1,0,none⟩=some (ξ x)/\v.cell? ⟨w.heap.size+1,1,none⟩=some (ξ y)/\v.cell? ⟨w.heap.size+1,2,none⟩=some (ξ z)/\v.cell? ⟨w.heap.size+1,3,none⟩=some (ξ u))/\Rows3 w.heap.size w v #[ξ a,ξ b,ξ c,ξ d] #[ξ x,ξ y,ξ z,ξ u] #[ξ 0,ξ 0,ξ 0,ξ 0])
  ((refine XbM ?_;first|exact p.drew|(with_reducible assumption)|exact Rows3.alloc (And.right (by assumption)) _|exact Rows3.alloc (by assumption) _|exact(p.alloc _).drew|exact Rows3.putAt (And.right (by assumption)) (by omega) _ _ _ _|exact Rows3.putAt (by assumption) (by omega) _ _ _ _))
  (first
  |(go_at_call 121;refine(Sh _ _ _ _ _ _ _ _ _).mono ?_;rintro e w1⟨⟨U,L,c1,Q,rfl,D⟩,g⟩;have H:=Rows3.call (And.right (by assumption)) g;have P:=H.size;first|(have A:=Below.row g B.out;clear g)|(clear g))
  |(go_at_call 120;refine(VZ _ _ _ _ _ _ _ _ _).mono ?_;rintro e X⟨⟨V,S,c2,K,rfl,G⟩,f⟩;have C:=Rows3.call (And.right (by assumption)) f;have O:=C.size;first|(have h:=Below.row f A;obtain⟨r,I,E,t,F⟩:=CP h;clear f)|(have h:=Below.row f (Ak w1 _);obtain⟨r,I,E,t,F⟩:=CP h;clear f)|(clear f)))
 all_goals
  go_wp2_with fail;refine(Sh _ _ _ _ _ _ _ _ _).mono ?_;rintro e N⟨⟨n,m,c3,k,rfl,s⟩,j⟩;have i:=Rows3.call (And.right (by assumption)) j;obtain⟨J,R,M,T,W⟩:=CP i.h4;clear j;go_wp2_with fail;have q:=VY i.h4 (ξ n) (ξ m) (ξ c3) (ξ k);refine Aq (Be results85 _ _ (w.heap.size+1+1) 111 #[ξ n,ξ m,ξ c3,ξ k] (0,0) _ rfl q υ111 rfl (by kernel_rfl)) rfl ?_;exact⟨⟨_,_,_,_,rfl,Xaz D.out G.out s.out⟩,JN i.bel (by omega) _ _ _ _⟩
def B8(bs:τ):Ξ:=(bs.map (Value.int .u8)).toArray
theorem B8_size(bs:τ):(B8 bs).size=bs.length:=by simp[B8]
theorem B8_get(bs:τ)(k:Nat)(h:k<bs.length):(B8 bs)[k]?=some (η (bs.getD k 0)):=by simp[B8,h]
theorem Mq{P:Program}(t e n:Nat)(k:IntKind)(g:P.underlying t=some (.array n e))(b:(P.info? e).map (·.size)=some 1)(d:P.underlying e=some (.int k))(cs:Ξ)(i:Int)(v:Δ)(h:0<=i)(j:i<n)(c:cs[i.toNat]?=some v)(w:Γ):
 (Instr.index t (γ cs) (ι i)).run P w= .ok v w:=by
 cases a:P.info? e with
 |none=>simp[a]at b
 |some y=>
  have f:y.size=1:=by simpa[a]using b
  simp[Instr.index,asIntOf,Bm g,Bm d,h,j,sizeOf,typeInfo,a,f,part,isAgg,c]
def or8(m b:Int):Int:=wr (m*256+b)
def wstep(m:S4)(k:Nat)(b:Int):S4:=
 if k<8 then{m with a:=or8 m.a b}else if k<16 then{m with b:=or8 m.b b}else if k<24 then{m with c:=or8 m.c b}else{m with d:=or8 m.d b}
def wfold(bs:τ):Nat->S4
 |0=>⟨0,0,0,0⟩
 |k+1=>wstep (wfold bs k) k (bs.getD k 0)
def words(bs:τ):S4:=wfold bs 32
def V4(s:S4):Ξ:=#[ξ s.a,ξ s.b,ξ s.c,ξ s.d]
theorem KI(m b:Int)(d:0<=b)(f:b<256):bits BinOp.or IntKind.u64 (IntKind.u64.wrap (m*256)) b=or8 m b:=by
 have c:∀n:Int,0<=n->n<2^64->IntKind.u64.wrap n=n:=λn a b=>by rw[C6];omega
 rw[C6];have e:=bits_join .u64 64 (by decide) c 8 (m*256%18446744073709551616) b (by omega) (by omega) (by omega) d (by omega) (by omega);rw[e];unfold or8 wr;rw[C6];omega
structure Rows2(n:Nat)(w0 w:Γ)(r3 r4:Ξ):Prop where
 h3:w.heap[n+1]?=some (.cells r3 111)
 h4:w.heap[n+1+1]?=some (.cells r4 111)
 bel:Below n w0 w
theorem Rows2.put0{n:Nat}{w0 w:Γ}{x0 x1 x2 x3:Δ}{r3:Ξ}(h:Rows2 n w0 w r3 #[x0,x1,x2,x3])(v:Δ):Rows2 n w0 (w.setCell ⟨n+1+1,0,none⟩ v) r3 #[v,x1,x2,x3]:=
 ⟨(AA _ _ _ _ (by simp)).trans h.h3,by simpa using AU w (n+1+1) 0 _ 111 v h.h4,h.bel.setCell (by simp;omega) _⟩
theorem Rows2.put1{n:Nat}{w0 w:Γ}{x0 x1 x2 x3:Δ}{r3:Ξ}(h:Rows2 n w0 w r3 #[x0,x1,x2,x3])(v:Δ):Rows2 n w0 (w.setCell ⟨n+1+1,1,none⟩ v) r3 #[x0,v,x2,x3]:=
 ⟨(AA _ _ _ _ (by simp)).trans h.h3,by simpa using AU w (n+1+1) 1 _ 111 v h.h4,h.bel.setCell (by simp;omega) _⟩
theorem Rows2.put2{n:Nat}{w0 w:Γ}{x0 x1 x2 x3:Δ}{r3:Ξ}(h:Rows2 n w0 w r3 #[x0,x1,x2,x3])(v:Δ):Rows2 n w0 (w.setCell ⟨n+1+1,2,none⟩ v) r3 #[x0,x1,v,x3]:=
 ⟨(AA _ _ _ _ (by simp)).trans h.h3,by simpa using AU w (n+1+1) 2 _ 111 v h.h4,h.bel.setCell (by simp;omega) _⟩
theorem Rows2.put3{n:Nat}{w0 w:Γ}{x0 x1 x2 x3:Δ}{r3:Ξ}(h:Rows2 n w0 w r3 #[x0,x1,x2,x3])(v:Δ):Rows2 n w0 (w.setCell ⟨n+1+1,3,none⟩ v) r3 #[x0,x1,x2,v]:=
 ⟨(AA _ _ _ _ (by simp)).trans h.h3,by simpa using AU w (n+1+1) 3 _ 111 v h.h4,h.bel.setCell (by simp;omega) _⟩
theorem TG(w:Γ)(o:Obj)(B C:Ξ):Rows2 w.heap.size w (((w.alloc o).alloc (.cells B 111)).alloc (.cells C 111)) B C:=by
 have d:(w.alloc o).heap.size=w.heap.size+1:=by simp
 have c:((w.alloc o).alloc (.cells B 111)).heap.size=w.heap.size+1+1:=by simp
 have a:=Ak (w.alloc o) (.cells B 111);have b:=Ak ((w.alloc o).alloc (.cells B 111)) (.cells C 111);rw[d]at a;rw[c]at b;exact⟨by rw[Ax _ _ _ (by omega)];exact a,b,(((Ac _ _).alloc (Ab _) _).alloc (by omega) _).alloc (by omega) _⟩
theorem getD_mem(bs:τ)(k:Nat)(h:k<bs.length):bs.getD k 0∈bs:=by simp[List.getD,Ad h]
theorem Q0(bs:τ)(k:Nat)(m:S4)(b:Int)(h:wfold bs k=m)(a:bs.getD k 0=b):wfold bs (k+1)=wstep m k b:=by rw[<-h,<-a];rfl
theorem Gq(bs:τ)(E:bs.length=32)(D:∀b∈bs,0<=b/\b<256)(w:Γ):
 Calls prog 86 #[γ (B8 bs)] w λe w'=>(∃a' A c' z,e=ω (γ #[ξ a',ξ A,ξ c',ξ z])/\Hid (S4.mk a' A c' z=words bs))/\Λ w w':=by
 have t:((((w.alloc (.cells (B8 bs) 43)).alloc (.cells #[ξ 0,ξ 0,ξ 0,ξ 0] 111)).alloc (.cells #[ξ 0,ξ 0,ξ 0,ξ 0] 111)).heap[w.heap.size]?)=some (.cells (B8 bs) 43 (0,0)):=by
  rw[Ax _ _ _ (by simp;omega),Ax _ _ _ (by simp)];exact Ak _ _
 have x:(prog.info? 43).map (·.size)=some (B8 bs).size:=by rw[B8_size,E];kernel_rfl
 have HR:=Aa t;clear t;have G:=Aa x;clear x;go_enter func86,ntmps86;go_wp2_with (first|refine EG rfl 43 _ rfl _ rfl 43 _ _ _ HR.out υ43 rfl G.out ?_)
 go_loopw [7] (λi v=>∃k:Nat,k<=32/\i=ι k/\Rows2 w.heap.size w v #[ξ 0,ξ 0,ξ 0,ξ 0] (V4 (wfold bs k))) (λi _=>32-(intOf i).toNat)
 case atStart=>
  exact⟨0,by omega,rfl,TG w _ _ _⟩
 case round=>
  obtain⟨k,K,rfl,R⟩:=hrel;by_cases H:k<32
  ·obtain⟨l,n⟩:0<=bs.getD k 0/\bs.getD k 0<256:=D _ (getD_mem bs k (by omega));have B:=λv=>Mq (P:=prog) 43 5 32 .u8 υ43 (by kernel_rfl) υ5 (B8 bs) (k:Int) _ (by omega) (by omega) (B8_get bs k (by omega)) v;have F:Hid (bs.getD k 0=bs.getD k 0):=rfl;generalize y:bs.getD k 0=b at l n B;generalize o:wfold bs k=m at R;obtain⟨g,c,d,md⟩:=m;have j:=Aa (Q0 bs k _ b o y);clear o y F;have a:Rows2 w.heap.size w _ _ #[ξ g,ξ c,ξ d,ξ md]:=R;obtain⟨p,q,r,s,f⟩:=CP a.h4;have h:k<8∨(8<=k/\k<16)∨(16<=k/\k<24)∨24<=k:=(by omega);rcases h with h|h|h|h
   ·have u:(k:Int)/8=0:=(by omega);go_wp2;refine⟨⟨k+1,by omega,by go_num,?_⟩,by simp[intOf];omega⟩;rw[j.out,KI _ _ l n];simpa[wstep,h,V4]using a.put0 (ξ (or8 g b))
   ·have u:(k:Int)/8=1:=(by omega);go_wp2;refine⟨⟨k+1,by omega,by go_num,?_⟩,by simp[intOf];omega⟩;rw[j.out,KI _ _ l n];simpa[wstep,show¬k<8 from by omega,show k<16 from by omega,V4]using a.put1 (ξ (or8 c b))
   ·have u:(k:Int)/8=2:=(by omega);go_wp2;refine⟨⟨k+1,by omega,by go_num,?_⟩,by simp[intOf];omega⟩;rw[j.out,KI _ _ l n];simpa[wstep,show¬k<8 from by omega,show¬k<16 from by omega,show k<24 from by omega,V4]using a.put2 (ξ (or8 d b))
   ·have u:(k:Int)/8=3:=(by omega);go_wp2;refine⟨⟨k+1,by omega,by go_num,?_⟩,by simp[intOf];omega⟩;rw[j.out,KI _ _ l n];simpa[wstep,show¬k<8 from by omega,show¬k<16 from by omega,show¬k<24 from by omega,V4]using a.put3 (ξ (or8 md b))
  ·have C:k=32:=(by omega);subst C;generalize o:wfold bs 32=m at R;obtain⟨g,c,d,md⟩:=m;have j:=Aa o;clear o;have a:Rows2 w.heap.size w _ _ #[ξ g,ξ c,ξ d,ξ md]:=R;obtain⟨p,q,r,s,f⟩:=CP a.h4;obtain⟨I,N,J,L,M⟩:=CP a.h3;go_wp2;have t:=VY a.h3 (ξ g) (ξ c) (ξ d) (ξ md);refine Aq (Be results86 _ _ (w.heap.size+1) 111 #[ξ g,ξ c,ξ d,ξ md] (0,0) _ rfl t υ111 rfl (by kernel_rfl)) rfl ?_;exact⟨⟨_,_,_,_,rfl,j.out.symm⟩,JN a.bel (by omega) _ _ _ _⟩
structure Tri(n:Nat)(w0 w:Γ)(A B C:Obj):Prop where
 hA:w.heap[n]?=some A
 hB:w.heap[n+1]?=some B
 hC:w.heap[n+1+1]?=some C
 bel:Below n w0 w
theorem Y6(w:Γ)(A B C:Obj):Tri w.heap.size w (((w.alloc A).alloc B).alloc C) A B C:=by
 have d:(w.alloc A).heap.size=w.heap.size+1:=by simp
 have e:((w.alloc A).alloc B).heap.size=w.heap.size+1+1:=by simp
 have c:=Ak w A;have b:=Ak (w.alloc A) B;have a:=Ak ((w.alloc A).alloc B) C;rw[d]at b;rw[e]at a
 exact⟨by rw[Ax _ _ _ (by omega),Ax _ _ _ (by omega)];exact c,by rw[Ax _ _ _ (by omega)];exact b,a,
  (((Ac _ _).alloc (Ab _) _).alloc (by omega) _).alloc (by omega) _⟩
theorem Q1(ds:τ)(k:Nat)(x:Int):(B8 ds).setIfInBounds k (η x)=B8 (ds.set k x):=by
 unfold B8;simp[ES]
theorem Tri.setC{n:Nat}{w0 w:Γ}{A B:Obj}{ds:τ}{t:Nat}(h:Tri n w0 w A B (.cells (B8 ds) t))(k:Nat)(x:Int):Tri n w0 (w.setCell ⟨n+1+1,k,none⟩ (η x)) A B (.cells (B8 (ds.set k x)) t):=
 ⟨(AA _ _ _ _ (by simp;omega)).trans h.hA,(AA _ _ _ _ (by simp)).trans h.hB,by rw[AU w (n+1+1) k _ t _ h.hC,Q1],h.bel.setCell (by simp;omega) _⟩
theorem NY{w:Γ}{g t:Nat}{ds:τ}(h:w.heap[g]?=some (.cells (B8 ds) t))(k:Nat)(a:k<ds.length):w.cell? ⟨g,k,none⟩=some (η (ds.getD k 0)):=by
 rw[Aj w g k _ _ _ h,B8_get ds k a]
def sel(s:S4)(k:Nat):Int:=if k<8 then s.a else if k<16 then s.b else if k<24 then s.c else s.d
def bt(x:Int)(k:Nat):Int:=x/2^(56-8*(k%8))%256
def digk(s:S4)(k:Nat):τ:=(List.range 32).map (λi=>if i<k then bt (sel s i) i else 0)
def dig(s:S4):τ:=(List.range 32).map (λi=>bt (sel s i) i)
theorem Pc(s:S4):digk s 32=dig s:=by
 unfold digk dig;refine List.map_congr_left λi a=>?_;rw[Ai (by simpa using a)]
theorem Kl(s:S4)(k:Nat):(digk s k).length=32:=by simp[digk]
theorem EO(s:S4)(k:Nat):(digk s k).set k (bt (sel s k) k)=digk s (k+1):=by
 apply List.ext_getElem
 ·simp[digk]
 ·intro i b c;simp[digk,List.getElem_set];by_cases e:k=i
  ·subst e;simp
  ·simp[e];by_cases a:i<k
   ·simp[a,Nat.lt_succ_of_lt a]
   ·rw[Ae a,Ae (by omega)]
theorem B8_one(bs:τ):(B8 bs).all (·.oneCell')=true:=by
 simp[B8,Value.oneCell']
theorem Below.setRow{B:Nat}{w0 w:Γ}{g:Nat}(h:Below B w0 w)(a:B<=g)(cs:Ξ):Below B w0 (w.setRow g cs):=
 h.trans ⟨rfl,rfl,rfl,by simp,λk b=>Bc w g k cs (by omega)⟩
theorem MJ(a b c d:Int)(w:Γ):
 Calls prog 87 #[γ #[ξ a,ξ b,ξ c,ξ d]] w λe w'=>e=ω (γ (B8 (dig ⟨a,b,c,d⟩)))/\Λ w w':=by
 go_enter func87,ntmps87;go_wp2_with fail
 go_loopw [5] (λi v=>∃k:Nat,k<=32/\i=ι k/\Tri w.heap.size w v (.cells #[ξ a,ξ b,ξ c,ξ d] 111) (.cells (B8 (List.replicate 32 0)) 44) (.cells (B8 (digk ⟨a,b,c,d⟩ k)) 44)) (λi _=>32-(intOf i).toNat)
 case atStart=>
  exact⟨0,by omega,rfl,Y6 w _ _ _⟩
 case round=>
  obtain⟨k,x,rfl,R⟩:=hrel;by_cases t:k<32
  ·obtain⟨p,q,r,s,f⟩:=CP R.hA;have n:=NY R.hC k (by rw[Kl];omega);have u:=AN _ _ k _ _ R.hC;have g:k<8∨(8<=k/\k<16)∨(16<=k/\k<24)∨24<=k:=(by omega);generalize (digk ⟨a,b,c,d⟩ k).getD k 0=y at n;rcases g with g|g|g|g
   ·have j:(k:Int)/8=0:=(by omega);go_wp2;refine⟨⟨k+1,by omega,by go_num,?_⟩,by simp[intOf];omega⟩;have e:sel ⟨a,b,c,d⟩ k=a:=(by simp[sel,g]);have T:=R.setC k (bt (sel ⟨a,b,c,d⟩ k) k);rw[EO,e]at T;exact T
   ·have j:(k:Int)/8=1:=(by omega);go_wp2;refine⟨⟨k+1,by omega,by go_num,?_⟩,by simp[intOf];omega⟩;have e:sel ⟨a,b,c,d⟩ k=b:=(by simp[sel,show¬k<8 from by omega,show k<16 from by omega]);have T:=R.setC k (bt (sel ⟨a,b,c,d⟩ k) k);rw[EO,e]at T;exact T
   ·have j:(k:Int)/8=2:=(by omega);go_wp2;refine⟨⟨k+1,by omega,by go_num,?_⟩,by simp[intOf];omega⟩;have e:sel ⟨a,b,c,d⟩ k=c:=(by simp[sel,show¬k<8 from by omega,show¬k<16 from by omega,show k<24 from by omega]);have T:=R.setC k (bt (sel ⟨a,b,c,d⟩ k) k);rw[EO,e]at T;exact T
   ·have j:(k:Int)/8=3:=(by omega);go_wp2;refine⟨⟨k+1,by omega,by go_num,?_⟩,by simp[intOf];omega⟩;have e:sel ⟨a,b,c,d⟩ k=d:=(by simp[sel,show¬k<8 from by omega,show¬k<16 from by omega,show¬k<24 from by omega]);have T:=R.setC k (bt (sel ⟨a,b,c,d⟩ k) k);rw[EO,e]at T;exact T
  ·have o:k=32:=(by omega);subst o;rw[Pc]at R;have m:(prog.info? 44).map (·.size)=some (B8 (dig ⟨a,b,c,d⟩)).size:=(by rw[B8_size];kernel_rfl);have h:=Aa m;clear m;have HC:=Aa R.hC;have l:=Aa R.hB;go_wp2_with (first|refine EG rfl 44 _ rfl _ rfl 44 _ _ _ HC.out υ44 rfl h.out ?_|refine A5 rfl 44 _ _ rfl _ (B8 (dig ⟨a,b,c,d⟩)) rfl rfl 44 _ l.out h.out (by simp[B8_size,dig]) (B8_one _) ?_);refine Aq (Be results87 _ _ (w.heap.size+1) 44 (B8 (dig ⟨a,b,c,d⟩)) (0,0) _ rfl (AC _ _ _ _ _ _ l.out) υ44 rfl h.out) rfl ?_;exact⟨rfl,Below.setRow R.bel (by omega) _⟩
def HC(s:S4)(tl:τ)(n:Nat):Ξ:=(#[ξ s.a,ξ s.b,ξ s.c,ξ s.d]++B8 tl).push (ι n)
theorem NZ(s:S4)(a:τ)(n:Nat):(HC s a n).size=a.length+5:=by simp[HC,B8_size];omega
theorem Si(s:S4)(a:τ)(n:Nat)(k:Nat)(h:k<a.length):(HC s a n)[4+k]?=some (η (a.getD k 0)):=by
 unfold HC;rw[Array.getElem?_push_lt (by simp[B8_size];omega),Array.getElem_append_right (by simp)];have:=B8_get a k h;simp[Cu]at this;obtain⟨_,e⟩:=this;simp[e]
theorem Wa(s:S4)(a:τ)(n:Nat):(HC s a n)[0]?=some (ξ s.a)/\(HC s a n)[1]?=some (ξ s.b)/\(HC s a n)[2]?=some (ξ s.c)/\(HC s a n)[3]?=some (ξ s.d):=by
 unfold HC;refine⟨?_,?_,?_,?_⟩<;>(rw[Array.getElem?_push_lt (by simp[B8_size];omega),Array.getElem_append_left (by simp)];simp)
theorem Wb(s:S4)(a:τ)(n:Nat)(h:a.length=32):(HC s a n)[36]?=some (ι n):=by
 unfold HC;rw[Array.getElem?_push,Ai (by simp[B8_size,h])]
theorem Fs{w:Γ}{g:Nat}{a b c d:Int}{e:τ}{n:Nat}(h:w.heap[g]?=some (.cells (HC ⟨a,b,c,d⟩ e n) 114))(k:e.length=32):
 w.cell? ⟨g,0,none⟩=some (ξ a)/\w.cell? ⟨g,1,none⟩=some (ξ b)/\w.cell? ⟨g,2,none⟩=some (ξ c)/\w.cell? ⟨g,3,none⟩=some (ξ d)/\w.cell? ⟨g,36,none⟩=some (ι n)/\(∀o,w.frozen? ⟨g,o,none⟩=false):=by
 obtain⟨f,i,m,j⟩:=Wa ⟨a,b,c,d⟩ e n;have l:=Wb ⟨a,b,c,d⟩ e n k;exact⟨by rw[Aj w g _ _ _ _ h,f],by rw[Aj w g _ _ _ _ h,i],by rw[Aj w g _ _ _ _ h,m],by rw[Aj w g _ _ _ _ h,j],by rw[Aj w g _ _ _ _ h,l],λo=>AN w g o _ _ h⟩
theorem Xbt{w:Γ}{g:Nat}{s:S4}{a:τ}{n:Nat}(h:w.heap[g]?=some (.cells (HC s a n) 114))(f:Nat)(e:f<=a.length):
 ∀j v,((a.take f).map (Value.int .u8))[j]?=some v->w.cell? ((⟨g,4,none⟩:Addr).add j)=some v:=by
 intro j v b;have c:(⟨g,4,none⟩:Addr).add j=⟨g,4+j,none⟩:=by unfold Addr.add;split<;>simp_all
 have d:j<f:=by
  have:=(Ar.1 b).1;simp at this;omega
 rw[c,Aj w g _ _ _ _ h,Si s a n j (by omega),<-b];simp[d,Ad (show j<a.length by omega)]
theorem Ii{V:Γ}{p q:Γ->Prop}(F:q V)(h:∀v,q v->p v):p V:=h V F
theorem step_copy{P:Program}{ops:Array Oper}{o:Oper}{a:Act}{w:Γ}{K:Act->Γ->Prop}{Q:Exit->Act->Γ->Prop}{E:Prop}
 (h:o.guard=none) (d x:Operand) (c b:TypeId) (Vj:o.op=Op.call {callee:=Callee.builtin Builtin.copy,args:=#[d,x],argTypes:=#[c,b]})
 (v u:Δ) (hd:a.eval d=v) (i:a.eval x=u) {v':Δ} {w':Γ} (f:(Builtin.copy_ #[c,b] o.type #[v,u]).run P w= .ok v' w') (g:K (a.put o.dst v') w'):
 if Region.wanted o (yielded ops a.tmps)=true then Oper.wp P o a w K Q else E:=by
 have e:Region.wanted o (yielded ops a.tmps)=true:=by simp[Region.wanted,h]
 rw[Ai e];unfold Oper.wp;simp[execOp,Vj,resolve,invoke,builtin,hd,i,f,Result.andThen];exact g
theorem Oa(bs:τ):∀v∈bs.map (Value.int .u8),v.oneCell'=true:=by
 intro v a;obtain⟨x,_,rfl⟩:=BC.1 a;rfl
theorem Y7{w:Γ}{N t o dl dc sl sc:Nat}{ad:Addr}{ds xs:τ}(d:w.heap[N]?=some (.cells (B8 ds) t))(c:xs.length=Nat.min sl dl)(a:o+xs.length<=ds.length)
 (b:∀j v,(xs.map (Value.int .u8))[j]?=some v->w.cell? (ad.add j)=some v) (ty:TypeId):
 (Builtin.copy_ #[32,32] ty #[σ (ζ N o) dl dc,σ (some ad) sl sc]).run prog w= .ok (ι xs.length) (w.setRow N (B8 (ds.take o++xs++ds.drop (o+xs.length)))):=by
 have h:=run_copy_row prog w 32 32 ty 5 N o dl dc ad sl sc (B8 ds) t (xs.map (Value.int .u8)) υ32 (by kernel_rfl) d (by simpa using c) b (by simpa[B8_size]using a) (Oa _);rw[h];simp[goInt,B8]
theorem Wc{w:Γ}{g N:Nat}{s:S4}{a:τ}{n f:Nat}(b:w.heap[g]?=some (.cells (HC s a n) 114))(i:a.length=32)(c:f<=32)(d:w.heap[N]?=some (.cells (B8 (List.replicate 32 0)) 43))(ty:TypeId):
 (Builtin.copy_ #[32,32] ty #[σ (ζ N 0) 32 32,σ (ζ g 4) f 32]).run prog w= .ok (ι f) (w.setRow N (B8 (a.take f++List.replicate (32-f) 0))):=by
 have e:(a.take f).length=f:=by rw[Ap];omega
 have h:=Y7 (o:=0) (dl:=32) (dc:=32) (sl:=f) (sc:=32) (xs:=a.take f) d (by rw[e];exact(CJ c).symm) (by rw[e,Bu];omega) (Xbt b f (by omega)) ty;rw[h,e];simp only[BM,AH,A6,List.drop_replicate]
structure SW(g N:Nat)(w0 w:Γ)(H Z L:Obj):Prop where
 hg:w.heap[g]?=some H
 h0:w.heap[N]?=some Z
 h1:w.heap[N+1]?=some L
 bel:Below N w0 w
 sz:w.heap.size=N+1+1
theorem Xa0{w:Γ}{g:Nat}{H:Obj}(a:w.heap[g]?=some H)(Z L:Obj):SW g w.heap.size w ((w.alloc Z).alloc L) H Z L:=by
 have d:(w.alloc Z).heap.size=w.heap.size+1:=by simp
 have c:=Ak w Z;have b:=Ak (w.alloc Z) L;rw[d]at b;have l:=lt_of_get a;exact⟨by rw[Ax _ _ _ (by omega),Ax _ _ _ (by omega)];exact a,by rw[Ax _ _ _ (by omega)];exact c,b,((Ac _ _).alloc (Ab _) _).alloc (by omega) _,by simp⟩
theorem SW.setL{g N:Nat}{w0 w:Γ}{H Z:Obj}{L L':Ξ}{t:Nat}(h:SW g N w0 w H Z (.cells L t))(a:g<N):SW g N w0 (w.setRow (N+1) L') H Z (.cells L' t):=
 ⟨(Bc _ _ _ _ (by omega)).trans h.hg,(Bc _ _ _ _ (by omega)).trans h.h0,AC _ _ _ _ _ _ h.h1,Below.setRow h.bel (by omega) _,by simpa using h.sz⟩
theorem SW.drew{g N:Nat}{w0 w:Γ}{H Z L:Obj}(h:SW g N w0 w H Z L):SW g N w0 w.drew H Z L:=⟨h.hg,h.h0,h.h1,h.bel.drew,h.sz⟩
structure S5(g N:Nat)(w0 w:Γ)(H Z L S:Obj):Prop where
 hg:w.heap[g]?=some H
 h0:w.heap[N]?=some Z
 h1:w.heap[N+1]?=some L
 h2:w.heap[N+1+1]?=some S
 bel:Below N w0 w
 gN:g<N
theorem SW.next{g N:Nat}{w0 w:Γ}{H Z:Obj}{ds:τ}{t:Nat}(h:SW g N w0 w H Z (.cells (B8 ds) t))(b:g<N)(f:Nat)(x:Int)(S:Obj):
 S5 g N w0 ((w.setCell ⟨N+1,f,none⟩ (η x)).alloc S) H Z (.cells (B8 (ds.set f x)) t) S:=by
 have sz:(w.setCell ⟨N+1,f,none⟩ (η x)).heap.size=N+1+1:=by simpa using h.sz
 have a:=Ak (w.setCell ⟨N+1,f,none⟩ (η x)) S;rw[sz]at a;refine⟨?_,?_,?_,a,(h.bel.setCell (by simp) _).alloc (by omega) _,b⟩
 ·rw[Ax _ _ _ (by omega),AA _ _ _ _ (by simp;omega)];exact h.hg
 ·rw[Ax _ _ _ (by omega),AA _ _ _ _ (by simp)];exact h.h0
 ·rw[Ax _ _ _ (by omega),AU w (N+1) f _ t _ h.h1,Q1]
theorem S5.call{g N:Nat}{w0 v w1:Γ}{H Z L S:Obj}(h:S5 g N w0 v H Z L S)(a:Λ v w1):S5 g N w0 w1 H Z L S:=by
 have l:=lt_of_get h.h2;have:=h.gN;exact⟨(a.block _ (by omega)).trans h.hg,(a.block _ (by omega)).trans h.h0,(a.block _ (by omega)).trans h.h1,(a.block _ (by omega)).trans h.h2,h.bel.trans (a.mono (by omega)),h.gN⟩
theorem S5.alloc{g N:Nat}{w0 v:Γ}{H Z L S:Obj}(h:S5 g N w0 v H Z L S)(o:Obj):S5 g N w0 (v.alloc o) H Z L S:=by
 have l:=lt_of_get h.h2;have:=h.gN;exact⟨(Ax _ _ _ (by omega)).trans h.hg,(Ax _ _ _ (by omega)).trans h.h0,(Ax _ _ _ (by omega)).trans h.h1,(Ax _ _ _ (by omega)).trans h.h2,h.bel.alloc (by omega) _,h.gN⟩
theorem S5.sizes{g N:Nat}{w0 v:Γ}{H Z L S:Obj}(h:S5 g N w0 v H Z L S):g<v.heap.size/\N<v.heap.size/\N+1<v.heap.size/\N+1+1<v.heap.size:=by
 have l:=lt_of_get h.h2;have:=h.gN;omega
theorem S5.drew{g N:Nat}{w0 w:Γ}{H Z L S:Obj}(h:S5 g N w0 w H Z L S):S5 g N w0 w.drew H Z L S:=⟨h.hg,h.h0,h.h1,h.h2,h.bel.drew,h.gN⟩
theorem S5.setS{g N:Nat}{w0 w:Γ}{H Z L:Obj}{x0 x1 x2 e:Δ}(h:S5 g N w0 w H Z L (.cells #[x0,x1,x2,e] 111))(a b c d:Δ):
 S5 g N w0 ((((w.setCell ⟨N+1+1,0,none⟩ a).setCell ⟨N+1+1,1,none⟩ b).setCell ⟨N+1+1,2,none⟩ c).setCell ⟨N+1+1,3,none⟩ d) H Z L (.cells #[a,b,c,d] 111):=by
 have:=h.gN;exact⟨(G5 (by omega) a b c d).trans h.hg,(G5 (by omega) a b c d).trans h.h0,(G5 (by omega) a b c d).trans h.h1,VY h.h2 a b c d,JN h.bel (by omega) a b c d,h.gN⟩
theorem S5.setL{g N:Nat}{w0 w:Γ}{H Z S:Obj}{L L':Ξ}{t:Nat}(h:S5 g N w0 w H Z (.cells L t) S):S5 g N w0 (w.setRow (N+1) L') H Z (.cells L' t) S:=by
 have:=h.gN;exact⟨(Bc _ _ _ _ (by omega)).trans h.hg,(Bc _ _ _ _ (by omega)).trans h.h0,AC _ _ _ _ _ _ h.h1,(Bc _ _ _ _ (by omega)).trans h.h2,Below.setRow h.bel (by omega) _,h.gN⟩
def load23V(v:Δ):Sem Δ:=Instr.loadAt 43 v
theorem Km(v:Δ):Instr.loadAt 43 v=load23V v:=rfl
theorem Q2{w:Γ}{N t:Nat}{a:τ}(h:w.heap[N]?=some (.cells (B8 a) t))(c:a.length=32):(load23V (π N)).run prog w= .ok (γ (B8 a)) w:=by
 have b:(prog.info? 43).map (·.size)=some (B8 a).size:=by rw[B8_size,c];kernel_rfl
 simp only[load23V,Instr.loadAt,Instr.sureAddr,AO,AV,A4,CB w N t 43 (B8 a) (0,0) _ h υ43 rfl b]
attribute [local go_sem ↓] Km Go.wp_at_zero Go.wp_at_succ
theorem Ko:∀x∈List.replicate 32 (0:Int),0<=x/\x<256:=by
 intro x a;rw[(Ce.1 a).2];omega
theorem Pd{b:τ}(h:∀x∈b,0<=x/\x<256){f:Nat}:∀x∈(List.take f b++List.replicate (32-f) 0).set f 128,0<=x/\x<256:=by
 intro x a;rcases List.mem_or_eq_of_mem_set a with a|a
 ·rcases AP.1 a with a|a
  ·exact h x (Bb a)
  ·rw[(Ce.1 a).2];omega
 ·omega
def lastOf(f:Nat)(tl:τ):τ:=(List.take f tl++List.replicate (32-f) 0).set f 128
def finS(s:S4)(tl:τ)(n:Nat):S4:=
 if n%32<24 then mix s {words (lastOf (n%32) tl)with d:=n}else mix (mix s (words (lastOf (n%32) tl))) {words (List.replicate 32 0)with d:=n}
theorem Q3{s:S4}{e k:τ}{n f:Nat}{j g i md a b c d:Int}(m:n%32=f)(h:f<24)(o:k=lastOf f e)(l:S4.mk j g i md=words k)(p:S4.mk a b c d=mix s ⟨j,g,i,n⟩):S4.mk a b c d=finS s e n:=by
 unfold finS;rw[m,Ai h,<-o,<-l,p]
theorem TI{s s':S4}{e k:τ}{n f:Nat}{j g i md a b c d:Int}(m:n%32=f)(h:¬f<24)(o:k=lastOf f e)(p:s'=mix s (words k))(l:S4.mk j g i md=words (List.replicate 32 0))(q:S4.mk a b c d=mix s' ⟨j,g,i,n⟩):S4.mk a b c d=finS s e n:=by
 unfold finS;rw[m,Ae h,<-o,<-l,q,p]
theorem Y8(f:Nat)(a:τ):(List.take f a++List.replicate (32-f) 0).set f 128=lastOf f a:=rfl
theorem Y9(g:Nat)(a b c d:Int)(h:τ)(n:Nat)(O:h.length=32)(al:∀x∈h,0<=x/\x<256)(hn:n<9223372036854775808)(w:Γ)(H:w.heap[g]?=some (.cells (HC ⟨a,b,c,d⟩ h n) 114)):
 Calls prog 61 #[π g] w λe w'=>e=ω (γ (B8 (dig (finS ⟨a,b,c,d⟩ h n))))/\Λ w w':=by
 obtain⟨c0,c1,c2,c3,m,cf⟩:=Fs H O;have ab:=lt_of_get H;have F0:=Xa0 H (.cells (B8 (List.replicate 32 0)) 44) (.cells (B8 (List.replicate 32 0)) 43);have t:=Aa O;clear H O;go_enter func61,ntmps61;go_wp2_with fail;obtain⟨f,hf⟩:∃f:Nat,n%32=f:=⟨_,rfl⟩;rw[show((n:Int)%32)=(f:Int)from by omega];have ao:f<32:=by omega
 have aq:(f:Int)<32:=by omega
 have ap:(f:Int)<=32:=by omega
 have HF:=Aa hf;clear hf;refine Ii (p:=λv=>Code.wp _ _ _ _ v) (q:=λv=>SW g w.heap.size w v (.cells (HC ⟨a,b,c,d⟩ h n) 114) (.cells (B8 (List.replicate 32 0)) 44) (.cells (B8 (List.replicate 32 0)) 43)) F0 ?_;clear F0;intro v j
 go_region_law (refine step_copy rfl _ _ _ _ rfl _ _ rfl rfl (Wc (f:=f) j.drew.hg t.out (by omega) j.drew.h1 _) ?_)
 refine Ii (p:=λv=>Exit.then _ _ _ _ v) (q:=λv=>SW g w.heap.size w v (.cells (HC ⟨a,b,c,d⟩ h n) 114) (.cells (B8 (List.replicate 32 0)) 44) (.cells (B8 (h.take f++List.replicate (32-f) 0)) 43)) (j.drew.setL ab) ?_;clear j;intro v j;have I:=NY j.h1 f (by simp[t.out];omega);have ac:=AN _ _ f _ _ j.h1;generalize (List.take f h++List.replicate (32-f) 0).getD f 0=y at I;clear c0 c1 c2 c3 m cf;obtain⟨c0,c1,c2,c3,m,cf⟩:=Fs j.hg t.out;have ae:¬w.heap.size+1=g:=by omega
 have af:=j.sz;have i:=j.next ab f 128 (.cells #[ξ a,ξ b,ξ c,ξ d] 111);clear j;have F:((List.take f h++List.replicate (32-f) 0).set f 128).length=32:=by simp[t.out];omega
 have S:=Aa (Pd al (f:=f));have V:=Aa (Y8 f h);generalize (List.take f h++List.replicate (32-f) 0).set f 128=ls at i F S V;have HI:Hid ((prog.info? 43).map (·.size)=some (B8 ls).size):=by unfold Hid;rw[B8_size,F];kernel_rfl
 have s:=Aa F;clear F;by_cases aa:f<24
 ·have aj:¬(24:Int)<=f:=by omega
  go_wp2_with (first|refine EG rfl 43 _ rfl _ rfl 43 _ _ _ i.h1 υ43 rfl HI.out ?_);clear c0 c1 c2 c3 m cf I ac;refine(Gq ls s.out S.out _).mono ?_;rintro e w6⟨⟨ma,mb,mc,md,rfl,u⟩,l⟩;have k:=i.call l;clear l i;obtain⟨c0,c1,c2,c3,m,cf⟩:=Fs k.hg t.out;obtain⟨W,U,K,J,L⟩:=CP k.h2;obtain⟨z0,z1,z2,z3⟩:=k.sizes;go_wp2_with fail;refine(Jq _ _ _ _ _ _ _ _ _).mono ?_;rintro e w7⟨⟨a7,b7,c7,d7,rfl,G⟩,D⟩;have z:=(k.alloc _).call D;clear D k c0 c1 c2 c3 m cf W U K J L;go_wp2_with fail;refine(MJ _ _ _ _ _).mono ?_;rintro e w8⟨rfl,B⟩;have r:=z.call B;clear B z;have Y:=Aa (Q3 HF.out aa V.out u.out G.out);rw[Y.out];have o:Hid ((prog.info? 44).map (·.size)=some (B8 (dig (finS ⟨a,b,c,d⟩ h n))).size):=by unfold Hid;rw[B8_size];kernel_rfl
  have C:(dig (finS ⟨a,b,c,d⟩ h n)).length=32:=by simp[dig]
  generalize A:dig (finS ⟨a,b,c,d⟩ h n)=ds at o C⊢;have HD:=Aa A;clear A;go_wp2_with (first|refine A5 rfl 44 _ _ rfl _ (B8 ds) rfl rfl 44 _ r.h0 o.out (by rw[B8_size,B8_size,C,Bu]) (B8_one _) ?_);refine Aq (Be results61 _ _ w.heap.size 44 (B8 ds) (0,0) _ rfl (AC _ _ _ _ _ _ r.h0) υ44 rfl o.out) rfl ?_;exact⟨by rw[HD.out],Below.setRow r.bel (by omega) _⟩
 ·have aj:(24:Int)<=f:=by omega
  have hu:=υ43;have hi:(prog.info? 43).map (·.size)=some (ls.map (Value.int .u8)).length:=by rw[AQ,s.out];kernel_rfl
  have ak:(ls.map (Value.int .u8)).length=32:=by rw[AQ,s.out]
  have ai:=Oa ls;go_wp2_with fail;refine Ii (p:=λv=>Code.wp _ _ _ _ v) (q:=λv=>S5 g w.heap.size w v _ _ _ _) i ?_;clear i c0 c1 c2 c3 m cf I ac af ae v;intro v i;obtain⟨R,T,P,M,N⟩:=CP i.h2;have n1:=Q2 (w:=v.drew) i.h1 s.out;clear hu hi ak ai
  go_region_with (first
   |(go_at_call 86;refine(Gq ls s.out S.out _).mono ?_;rintro e w6⟨⟨ma,mb,mc,md,rfl,u⟩,l⟩;have k:=i.drew.call l;clear l;obtain⟨R,T,P,M,N⟩:=CP k.h2)
   |(go_at_call 85;refine(Jq _ _ _ _ _ _ _ _ _).mono ?_;rintro e w7⟨⟨a7,b7,c7,d7,rfl,G⟩,D⟩;have z:=k.call D;clear D;obtain⟨R,T,P,M,N⟩:=CP z.h2))
  all_goals
   refine Ii (p:=λv=>Exit.then _ _ _ _ v) (q:=λv=>S5 g w.heap.size w v (.cells (HC ⟨a,b,c,d⟩ h n) 114) (.cells (B8 (List.replicate 32 0)) 44) (.cells (B8 ls) 43) (.cells #[ξ a7,ξ b7,ξ c7,ξ d7] 111)) (z.setS _ _ _ _) ?_;have am:=Aa (G.out.trans (Ao (mix ⟨a,b,c,d⟩) u.out));clear n1 R T P M N z k i G u;intro v5 r;have X:=S5.setL (L':=B8 (List.replicate 32 0)) r;have Z:Hid ((prog.info? 43).map (·.size)=some (B8 (List.replicate 32 0)).size):=(by unfold Hid;rw[B8_size];kernel_rfl);have ah:Hid ((B8 ls).size=(B8 (List.replicate 32 0)).size):=(by unfold Hid;rw[B8_size,B8_size,s.out,Bu]);go_wp2_with (first|refine A5 rfl 43 _ _ rfl _ (B8 (List.replicate 32 0)) rfl rfl 43 _ r.h1 Z.out ah.out (B8_one _) ?_|refine EG rfl 43 _ rfl _ rfl 43 _ _ _ X.h1 υ43 rfl Z.out ?_);refine(Gq (List.replicate 32 0) Bu Ko _).mono ?_;rintro e w6⟨⟨ma,mb,mc,md,rfl,u⟩,l⟩;have E:=X.call l;clear l r X;obtain⟨c0,c1,c2,c3,m,cf⟩:=Fs E.hg t.out;obtain⟨W,U,K,J,L⟩:=CP E.h2;obtain⟨z0,z1,z2,z3⟩:=E.sizes;go_wp2_with fail;refine(Jq _ _ _ _ _ _ _ _ _).mono ?_;rintro e w8⟨⟨a8,b8,c8,d8,rfl,H8⟩,B⟩;have F8:=(E.alloc _).call B;clear B E c0 c1 c2 c3 m cf W U K J L;go_wp2_with fail;refine(MJ _ _ _ _ _).mono ?_;rintro e w9⟨rfl,ad⟩;have Q:=F8.call ad;clear ad F8;have Y:=Aa (TI HF.out aa V.out am.out u.out H8.out);rw[Y.out];have o:Hid ((prog.info? 44).map (·.size)=some (B8 (dig (finS ⟨a,b,c,d⟩ h n))).size):=(by unfold Hid;rw[B8_size];kernel_rfl);have C:(dig (finS ⟨a,b,c,d⟩ h n)).length=32:=(by simp[dig]);generalize A:dig (finS ⟨a,b,c,d⟩ h n)=ds at o C⊢;have HD:=Aa A;clear A;go_wp2_with (first|refine A5 rfl 44 _ _ rfl _ (B8 ds) rfl rfl 44 _ Q.h0 o.out (by rw[B8_size,B8_size,C,Bu]) (B8_one _) ?_);refine Aq (Be results61 _ _ w.heap.size 44 (B8 ds) (0,0) _ rfl (AC _ _ _ _ _ _ Q.h0) υ44 rfl o.out) rfl ?_;exact⟨by rw[HD.out],Below.setRow Q.bel (by omega) _⟩
theorem YA(x k:Int)(w:Γ)(a:0<=k)(b:k<64):
 Calls prog 65 #[ξ x,ι k] w λe w'=>e=ω (ξ (rotl x k))/\∃n,w'=w.drewN n:=by
 go_enter func65,ntmps65;go_wp2_with fail
 go_quiet (fail)
 go_wp2;go_ret;exact⟨rfl,_,rfl⟩
def wd(bs:τ)(at_:Nat):Nat->Int
 |0=>0
 |k+1=>or8 (wd bs at_ k) (bs.getD (at_+k) 0)
theorem YB(m b:Int):IntKind.u64.wrap (IntKind.u64.wrap (m*256)+b)=or8 m b:=by
 unfold or8 wr;simp only[C6];omega
theorem Wd(g len cap a:Nat)(bs:τ)(w:Γ)(s:a+8<=len)(o:len<=maxLen)
 (j:∀k,k<8->w.cell? ⟨g,a+k,none⟩=some (η (bs.getD (a+k) 0))) (h:∀k,k<8->0<=bs.getD (a+k) 0/\bs.getD (a+k) 0<256):
 Calls prog 64 #[σ (ζ g 0) len cap,ι a] w λe w'=>e=ω (ξ (wd bs a 8))/\w'=w:=by
 unfold maxLen at o;have HC:=Aa j;have p:=Aa h;clear j h;go_enter func64,ntmps64;go_wp2_with fail
 go_loop [5,6] (λv i=>∃k:Nat,k<=8/\i=ι k/\v=ξ (wd bs a k)) (λ_ i=>8-(intOf i).toNat)
 case atStart=>exact⟨0,by omega,rfl,rfl⟩
 case round=>
  obtain⟨k,x,rfl,rfl⟩:=hrel;by_cases d:k<8
  ·have l:=HC.out k d;have f:=p.out k d;have c:Hid (wd bs a (k+1)=or8 (wd bs a k) (bs.getD (a+k) 0)):=rfl;generalize bs.getD (a+k) 0=b at l f c;obtain⟨t,u⟩:=f;generalize wd bs a k=m at c;have r:(a:Int)+k<len:=(by omega);have q:((a:Int)+k).toNat=a+k:=(by omega);go_wp2
   go_round
   case rel=>exact⟨k+1,by omega,by go_num,by rw[c.out,YB]⟩
   case measure=>simp[intOf];omega
  ·have n:k=8:=(by omega);subst n;go_wp2;go_ret;exact⟨rfl,rfl⟩
theorem B8_one2(bs:τ):∀v∈bs.map (Value.int .u8),v.oneCell'=true:=by
 intro v a;obtain⟨x,_,rfl⟩:=BC.1 a;rfl
def OwnB(w:Γ)(base:Nat)(v:Δ)(bs:τ):Prop:=w.ownsRow base 5 1 v bs.length (bs.map (Value.int .u8))
theorem info5:∃i,prog.info? 5=some i/\i.zero=some (η 0)/\i.size=1/\i.bytes=1:=by
 have h:(prog.info? 5).map (λi=>(i.zero,i.size,i.bytes))=some (some (η 0),1,1):=by kernel_rfl
 cases a:prog.info? 5 with
 |none=>rw[a]at h;simp at h
 |some i=>rw[a]at h;simp at h;exact⟨i,rfl,h.1,h.2.1,h.2.2⟩
theorem app_own{w:Γ}{ops:Array Oper}{rest:List Oper}{o:Oper}{a:Act}{Q:Exit->Act->Γ->Prop}(g:o.guard=none)(s x:Operand)
 (n:o.op= .call {callee:= .builtin .append,args:=#[s,x],argTypes:=#[32,32]}) (base:Nat) (v:Δ) (bs:τ) (r:a.eval s=v) (f:OwnB w base v bs)
 (ad:Addr) (m c:Nat) (news:τ) (y:a.eval x=σ (some ad) m c) (b:news.length=m) (d:∀j u,(news.map (Value.int .u8))[j]?=some u->w.cell? (ad.add j)=some u)
 (B:bs.length+m<=140737488355328) (e:base<=w.heap.size)
 (h:∀v' w',OwnB w' base v' (bs++news)->w.grownBy w' v.ownBlock->(v'=ε↔v=ε/\m=0)->wpList prog ops Q rest (a.put o.dst v') w'):wpList prog ops Q (o::rest) a w:=by
 obtain⟨i,t,z,l,k⟩:=info5;refine wpList_append_own w g s x 32 n base 5 i (η 0) 1 1 υ32 t z l k rfl (by decide) v bs.length (bs.map (Value.int .u8)) r f ad m c (news.map (Value.int .u8)) y (by simpa using b) d (B8_one2 _) (by unfold maxLen;omega) (by omega) e ?_;intro v' w' A p q;refine h v' w' ?_ p q;unfold OwnB;rw[Af,b,Bp];exact A
theorem app_none{w:Γ}{ops:Array Oper}{rest:List Oper}{o:Oper}{a:Act}{Q:Exit->Act->Γ->Prop}(c:o.guard=none)(s x:Operand)
 (d:o.op= .call {callee:= .builtin .append,args:=#[s,x],argTypes:=#[32,32]}) (base:Nat) (v:Δ) (bs:τ) (e:a.eval s=v) (b:OwnB w base v bs)
 (g:a.eval x=ε) (h:wpList prog ops Q rest (a.put o.dst v) w):wpList prog ops Q (o::rest) a w:=by
 obtain⟨i,f,_,_,_⟩:=info5;exact wpList_append_own_none c s x 32 d base 5 i 1 υ32 f v bs.length _ e b g h
def InB(w:Γ)(a:Ω)(len cap:Nat)(bs:τ):Prop:=
 (a=none/\len=0/\cap=0/\bs=[])∨∃ad,a=some ad/\bs.length=len/\∀j u,(bs.map (Value.int .u8))[j]?=some u->w.cell? (ad.add j)=some u
def zc(n:Nat):Nat:=(55-n%32)%32
def len8(n:Nat)(k:Nat):τ:=(List.range k).map λi=>(n:Int)/2^(56-8*i)%256
def padded(bs:τ):τ:=bs++[128]++List.replicate (zc bs.length) 0++len8 bs.length 8
theorem GQ(n k:Nat):(len8 n k).length=k:=by simp[len8]
theorem MK(n k:Nat):len8 n k++[(n:Int)/2^(56-8*k)%256]=len8 n (k+1):=by simp[len8,CO]
def lenOf:Δ->Nat|σ _ n _=>n|_=>0
theorem OwnB.slice{w:Γ}{base:Nat}{v:Δ}{bs:τ}(h:OwnB w base v bs)(m:0<bs.length):
 ∃g cap,v=σ (ζ g 0) bs.length cap/\base<=g/\g<w.heap.size/\bs.length<=cap/\cap<=maxLen/\∀j,j<bs.length->w.cell? ⟨g,j,none⟩=some (η (bs.getD j 0)):=by
 obtain⟨_,a⟩:=h;rcases a with⟨_,a⟩|⟨g,cap,cur,d,k,b,l,c,n,i⟩
 ·omega
 ·refine⟨g,cap,d,k,lt_of_get b,l,c,?_⟩;intro j f;rw[Aj w g j _ _ _ b];have e:(cur.toList.take (bs.length*1))[j]?=(bs.map (Value.int .u8))[j]?:=by rw[i]
  rw[AT (by omega)]at e;simp at e;rw[e];simp[Ad f]
theorem OwnB.alloc{w:Γ}{base:Nat}{v:Δ}{bs:τ}(h:OwnB w base v bs)(o:Obj):OwnB (w.alloc o) base v bs:=World.ownsRow.alloc h o
theorem OwnB.new(w:Γ):OwnB (w.alloc (.cells #[] 5)) w.heap.size (σ (some ⟨w.heap.size,0,none⟩) 0 0) []:=
 ⟨rfl, .inr ⟨w.heap.size,0,#[],rfl,Ab _,Ak _ _,Ab _,by unfold maxLen;omega,rfl,rfl⟩⟩
theorem OwnB.lt{w:Γ}{base:Nat}{v:Δ}{bs:τ}(h:OwnB w base v bs):∀k,v.ownBlock=some k->base<=k:=λk a=>(World.ownsRow.lt h k a).1
theorem one_new(w:Γ)(x:Int):∀j u,([x].map (Value.int .u8))[j]?=some u->(w.alloc (.cells #[η x] 5)).cell? ((⟨w.heap.size,0,none⟩:Addr).add j)=some u:=by
 intro j u h;cases j with
 |zero=>
  simp at h;subst h;rw[show(⟨w.heap.size,0,none⟩:Addr).add 0=⟨w.heap.size,0,none⟩from rfl,Aj _ _ _ _ _ _ (Ak w _)];rfl
 |succ j=>simp at h
theorem OwnB.len{w:Γ}{base:Nat}{v:Δ}{bs:τ}(h:OwnB w base v bs):lenOf v=bs.length:=by
 obtain⟨_,b⟩:=h;rcases b with⟨a,b⟩|⟨g,cap,cur,a,_⟩
 ·rw[a,b];rfl
 ·rw[a];rfl
theorem Sj(n k:Nat)(a:k<=zc n):((n+1+k)%32=24↔k=zc n):=by
 unfold zc at*;omega
theorem Q4(a:Ω)(len cap:Nat)(bs:τ)(w:Γ)(W:InB w a len cap bs)(P:bs.length<=140737488351232):
 Calls prog 63 #[σ a len cap] w λe w'=>∃v',e=ω v'/\OwnB w' w.heap.size v' (padded bs)/\Λ w w':=by
 rcases W with⟨rfl,rfl,rfl,rfl⟩|⟨ad,rfl,rfl,O⟩
 ·have n:Hid ((0:Nat)<=140737488351232):=A8 _;go_enter func63,ntmps63
  go_wp2_with (first
   |(at_builtin;refine app_none rfl (.tmp 6) (.tmp 7) rfl w.heap.size _ [] rfl (OwnB.new w) rfl ?_)
   |(at_builtin;refine app_own rfl (.tmp 9) (.tmp 10) rfl w.heap.size _ [] rfl (OwnB.alloc (OwnB.new w) _) ⟨w.heap.size+1,0,none⟩ 1 1 [128] rfl rfl (by have:=one_new (w.alloc (.cells #[] 5)) 128;simpa using this) (by simp) (by simp;omega) ?_;intro T D p x L))
  have A:Λ w D:=(((Ac _ _).alloc (Ab _) _).alloc (by simp) _).grown x (by simp;omega) (OwnB.new w).lt;clear x L;clear n;obtain⟨bs,o⟩:∃bs:τ,[]=bs:=⟨_,rfl⟩;have S:OwnB D w.heap.size T (bs++[128]):=by rw[<-o];exact p
  have n:Hid (bs.length<=140737488351232):=by unfold Hid;rw[<-o];exact A8 _
  have R:=Aa o;clear o p;have p:=S;clear S;obtain⟨z,b⟩:∃z,zc bs.length=z:=⟨_,rfl⟩;have U:z<=31:=by unfold zc at b;omega
  have t:=Aa b;clear b;have Y:(bs.length:Int)<=140737488351232:=by have:=n.out;omega
  go_loopw [3] (λs v=>∃k:Nat,k<=z/\OwnB v w.heap.size s (bs++[128]++List.replicate k 0)/\Λ w v) (λs _=>bs.length+1+z-lenOf s)
  case atStart=>exact⟨0,by omega,by simpa using p,A⟩
  case round=>
   clear p A;obtain⟨k,J,d,f⟩:=hrel;have m:(bs++[128]++List.replicate k 0).length=bs.length+1+k:=(by rw[Af,Af,Bu];rfl);obtain⟨g,c,B,I,G,H,F,_⟩:=d.slice (by omega);rw[m]at B;have b:=Sj bs.length k (by rw[t.out];exact J);rw[t.out]at b;subst B;by_cases l:k=z
   ·have q:((bs.length:Int)+1+(k:Int))%32=24:=(by have:=b.2 l;omega);have X:(((bs.length:Int)+1+(k:Int))%32 !=24)=false:=(by rw[q];rfl);clear b m I G H F q;subst l;go_wp2_with fail
    go_loopw [3,5] (λs i v=>∃j:Nat,j<=8/\i=ι j/\OwnB v w.heap.size s (bs++[128]++List.replicate k 0++len8 bs.length j)/\Λ w v) (λ_ i _=>8-(intOf i).toNat)
    case atStart=>exact⟨0,by omega,rfl,by simpa[len8]using d,f⟩
    case round=>
     clear d f;obtain⟨j,hj,rfl,d,f⟩:=hrel;have m:(bs++[128]++List.replicate k 0++len8 bs.length j).length=bs.length+1+k+j:=(by rw[Af,Af,Af,Bu,GQ];rfl);by_cases l:j<8
     ·have o:=f.size
      go_wp2_with (first
       |(at_builtin;refine app_own rfl (.tmp 26) (.tmp 33) rfl w.heap.size _ (bs++[128]++List.replicate k 0++len8 bs.length j) rfl (d.alloc _) ⟨wr.heap.size,0,none⟩ 1 1 [0] rfl rfl (one_new wr _) (by rw[m];have:=n.out;omega) (by simp;omega) ?_;intro v5 w5 K N n5))
      refine⟨⟨j+1,by omega,by go_num,?_,(f.alloc (by omega) _).grown N (by simp;omega) (d.lt)⟩,by simp[intOf];omega⟩;rw[<-MK,<-AX,show((bs.length:Int)/2^(56-8*j)%256)=0 from by rw[<-R.out];simp];exact K
     ·have E:j=8:=(by omega);subst E;go_wp2;go_ret;refine⟨_,rfl,?_,f⟩;rw[R.out];unfold padded;rw[t.out];exact d
   ·have q:(((bs.length:Int)+1+(k:Int))%32 !=24)=true:=by
     rw[BU];intro h;exact l (b.1 (by omega))
    have V:k<z:=(by omega);clear b l;have o:=f.size
    go_wp2_with (first
     |(at_builtin;refine app_own rfl (.tmp 16) (.tmp 17) rfl w.heap.size _ (bs++[128]++List.replicate k 0) rfl (d.alloc _) ⟨wr.heap.size,0,none⟩ 1 1 [0] rfl rfl (one_new wr 0) (by rw[m];have:=n.out;omega) (by simp;omega) ?_;intro v4 Z r M n4))
    have e:bs++[128]++List.replicate k 0++[0]=bs++[128]++List.replicate (k+1) (0:Int):=(by rw[AX,<-List.replicate_succ']);rw[e]at r;refine⟨⟨k+1,by omega,r,(f.alloc (by omega) _).grown M (by simp;omega) (d.lt)⟩,?_⟩;rw[r.len];simp[lenOf];omega
 ·have Q:∀j u,(bs.map (Value.int .u8))[j]?=some u->(w.alloc (.cells #[] 5)).cell? (ad.add j)=some u:=λj u h=>by
   exact(Av (w:=w) (Ax w _ _ (Al (O j u h)))).trans (O j u h)
  have HC:=Aa Q;have n:=Aa P;clear O Q P;go_enter func63,ntmps63
  go_wp2_with (first
   |(at_builtin;refine app_own rfl (.tmp 6) (.tmp 7) rfl w.heap.size _ [] rfl (OwnB.new w) ad bs.length cap bs rfl rfl HC.out (by have:=n.out;simp;omega) (by simp) ?_;intro v1 w1 C y n1;rw[AH]at C)
   |(at_builtin;refine app_own rfl (.tmp 9) (.tmp 10) rfl w.heap.size _ bs rfl (OwnB.alloc C _) ⟨w1.heap.size,0,none⟩ 1 1 [128] rfl rfl (one_new w1 128) (by have:=n.out;omega) (by have:=y.size;simp at this;simp;omega) ?_;intro T D p x L))
  have A:Λ w D:=((((Ac _ _).alloc (Ab _) _).grown y (by simp) (OwnB.new w).lt).alloc (by have:=y.size;simp at this;omega) _).grown x (by have:=y.size;simp at this;simp;omega) (C.lt);clear y x n1 L C;obtain⟨z,b⟩:∃z,zc bs.length=z:=⟨_,rfl⟩;have U:z<=31:=by unfold zc at b;omega
  have t:=Aa b;clear b;have Y:(bs.length:Int)<=140737488351232:=by have:=n.out;omega
  go_loopw [3] (λs v=>∃k:Nat,k<=z/\OwnB v w.heap.size s (bs++[128]++List.replicate k 0)/\Λ w v) (λs _=>bs.length+1+z-lenOf s)
  case atStart=>exact⟨0,by omega,by simpa using p,A⟩
  case round=>
   clear p A;obtain⟨k,J,d,f⟩:=hrel;have m:(bs++[128]++List.replicate k 0).length=bs.length+1+k:=(by rw[Af,Af,Bu];rfl);obtain⟨g,c,B,I,G,H,F,_⟩:=d.slice (by omega);rw[m]at B;have b:=Sj bs.length k (by rw[t.out];exact J);rw[t.out]at b;subst B;by_cases l:k=z
   ·have q:((bs.length:Int)+1+(k:Int))%32=24:=(by have:=b.2 l;omega);have X:(((bs.length:Int)+1+(k:Int))%32 !=24)=false:=(by rw[q];rfl);clear b m I G H F q;subst l;go_wp2_with fail
    go_loopw [3,5] (λs i v=>∃j:Nat,j<=8/\i=ι j/\OwnB v w.heap.size s (bs++[128]++List.replicate k 0++len8 bs.length j)/\Λ w v) (λ_ i _=>8-(intOf i).toNat)
    case atStart=>exact⟨0,by omega,rfl,by simpa[len8]using d,f⟩
    case round=>
     clear d f;obtain⟨j,hj,rfl,d,f⟩:=hrel;have m:(bs++[128]++List.replicate k 0++len8 bs.length j).length=bs.length+1+k+j:=(by rw[Af,Af,Af,Bu,GQ];rfl);by_cases l:j<8
     ·have o:=f.size
      go_wp2_with (first
       |(at_builtin;refine app_own rfl (.tmp 26) (.tmp 33) rfl w.heap.size _ (bs++[128]++List.replicate k 0++len8 bs.length j) rfl (d.alloc _) ⟨wr.heap.size,0,none⟩ 1 1 [(bs.length:Int)/2^(56-8*j)%256] rfl rfl (one_new wr _) (by rw[m];have:=n.out;omega) (by simp;omega) ?_;intro v5 w5 K N n5))
      refine⟨⟨j+1,by omega,by go_num,?_,(f.alloc (by omega) _).grown N (by simp;omega) (d.lt)⟩,by simp[intOf];omega⟩;rw[<-MK,<-AX];exact K
     ·have E:j=8:=(by omega);subst E;go_wp2;go_ret;refine⟨_,rfl,?_,f⟩;unfold padded;rw[t.out];exact d
   ·have q:(((bs.length:Int)+1+(k:Int))%32 !=24)=true:=by
     rw[BU];intro h;exact l (b.1 (by omega))
    have V:k<z:=(by omega);clear b l;have o:=f.size
    go_wp2_with (first
     |(at_builtin;refine app_own rfl (.tmp 16) (.tmp 17) rfl w.heap.size _ (bs++[128]++List.replicate k 0) rfl (d.alloc _) ⟨wr.heap.size,0,none⟩ 1 1 [0] rfl rfl (one_new wr 0) (by rw[m];have:=n.out;omega) (by simp;omega) ?_;intro v4 Z r M n4))
    have e:bs++[128]++List.replicate k 0++[0]=bs++[128]++List.replicate (k+1) (0:Int):=(by rw[AX,<-List.replicate_succ']);rw[e]at r;refine⟨⟨k+1,by omega,r,(f.alloc (by omega) _).grown M (by simp;omega) (d.lt)⟩,?_⟩;rw[r.len];simp[lenOf];omega
theorem Xa1:∃i,prog.info? 110=some i/\i.zero=some (ξ 0)/\i.size=1/\i.bytes=8:=by
 have h:(prog.info? 110).map (λi=>(i.zero,i.size,i.bytes))=some (some (ξ 0),1,8):=by kernel_rfl
 cases a:prog.info? 110 with
 |none=>rw[a]at h;simp at h
 |some i=>rw[a]at h;simp at h;exact⟨i,rfl,h.1,h.2.1,h.2.2⟩
theorem We{w:Γ}{ops:Array Oper}{rest:List Oper}{o:Oper}{a:Act}{Q:Exit->Act->Γ->Prop}(t:o.guard=none)(s x:Operand)
 (G:o.op= .call {callee:= .builtin .append,args:=#[s,x],argTypes:=#[123,123]}) (H:a.eval s=σ (some ⟨w.heap.size,0,none⟩) 0 0)
 (g:Nat) (J:a.eval x=σ (ζ g 0) 4 4) (b f d c:Int) (n:w.heap[g]?=some (.cells #[ξ b,ξ f,ξ d,ξ c] 110))
 (h:∀gp cap w',w.heap.size<=gp->gp<w'.heap.size->w'.cell? ⟨gp,0,none⟩=some (ξ b)->w'.cell? ⟨gp,1,none⟩=some (ξ f)->w'.cell? ⟨gp,2,none⟩=some (ξ d)->w'.cell? ⟨gp,3,none⟩=some (ξ c)->Λ w w'->wpList prog ops Q rest (a.put o.dst (σ (ζ gp 0) 4 cap)) w'):
 wpList prog ops Q (o::rest) a (w.alloc (.cells #[] 110)):=by
 obtain⟨i,I,F,y,z⟩:=Xa1;have v:(w.alloc (.cells #[] 110)).heap[g]?=some (.cells #[ξ b,ξ f,ξ d,ξ c] 110):=(Ax _ _ _ (lt_of_get n)).trans n;refine wpList_append_own _ t s x 123 G w.heap.size 110 i (ξ 0) 1 8 υ123 I F y z rfl (by decide) _ 0 [] H (World.ownsRow_made w #[] 0 (Ab _) (by unfold maxLen;omega) rfl) ⟨g,0,none⟩ 4 4 [ξ b,ξ f,ξ d,ξ c] J rfl ?_ ?_ (by unfold maxLen;omega) (by omega) (by simp) ?_
 ·intro j u l;have r:(⟨g,0,none⟩:Addr).add j=⟨g,j,none⟩:=by unfold Addr.add;split<;>simp_all
  rw[r,Aj _ _ _ _ _ _ v,<-l];rw[<-List.getElem?_toArray]
 ·intro u l;simp at l;rcases l with rfl|rfl|rfl|rfl<;>rfl
 ·intro v' w' E A O;obtain⟨N,p⟩:=E;rcases p with⟨_,p⟩|⟨gp,cap,cur,rfl,C,q,P,L,M,B⟩
  ·omega
  ·have m:∀j,j<4->w'.cell? ⟨gp,j,none⟩=[ξ b,ξ f,ξ d,ξ c][j]?:=by
    intro j K;rw[Aj _ _ _ _ _ _ q];have e:(cur.toList.take 4)[j]?=[ξ b,ξ f,ξ d,ξ c][j]?:=by
     have:=B;simp at this;rw[this]
    rw[AT K]at e;simpa using e
   exact h gp cap w' C (lt_of_get q) (m 0 (by omega)) (m 1 (by omega)) (m 2 (by omega)) (m 3 (by omega)) (((Ac _ _).alloc (Ab _) _).grown A (by simp) (λk D=>by simp[Value.ownBlock]at D;omega))
def wordsAt(bs:τ)(p:Nat):S4:=⟨wd bs p 8,wd bs (p+8) 8,wd bs (p+16) 8,wd bs (p+24) 8⟩
def s0:S4:=⟨kk,wr (2*kk),wr (3*kk),wr (4*kk)⟩
def stOf(bs:τ):Nat->S4
 |0=>s0
 |i+1=>mix (stOf bs i) (wordsAt bs (32*i))
def mAt(m:S4)(k:Nat):Int:=if k%4=0 then m.a else if k%4=1 then m.b else if k%4=2 then m.c else m.d
def rk(s m:S4):Nat->S4
 |0=>xor4 s m
 |k+1=>rnd (rk s m k) (wr (mAt m k+wr ((k+1:Nat)*kk)))
theorem Xa2(s m:S4):xor4 (rk s m 8) s=mix s m:=rfl
structure OfW(N gt gs:Nat)(w0 w:Γ)(ps:τ)(S:S4):Prop where
 h0:w.heap[N]?=some (.cells (B8 (List.replicate 32 0)) 44)
 ht:∀j,j<ps.length->w.cell? ⟨gt,j,none⟩=some (η (ps.getD j 0))
 hs:w.heap[gs]?=some (.cells (V4 S) 110)
 gtl:gt<w.heap.size
 gsl:N<gs
 bel:Below N w0 w
theorem OfW.call{N gt b:Nat}{w0 w w':Γ}{ps:τ}{S:S4}(h:OfW N gt b w0 w ps S)(a:Λ w w'):OfW N gt b w0 w' ps S:=by
 have d:=lt_of_get h.h0;have e:=lt_of_get h.hs;exact⟨(a.block _ d).trans h.h0,λj c=>(a.cell (p:=⟨gt,j,none⟩) h.gtl).trans (h.ht j c),(a.block _ e).trans h.hs,BQ h.gtl a.size,h.gsl,h.bel.trans (a.mono (by omega))⟩
theorem OfW.drewN{N gt a:Nat}{w0 w:Γ}{ps:τ}{S:S4}(h:OfW N gt a w0 w ps S)(n:Nat):OfW N gt a w0 (w.drewN n) ps S:=⟨h.h0,h.ht,h.hs,h.gtl,h.gsl,below_drewN h.bel n⟩
theorem OfW.alloc{N gt a:Nat}{w0 w:Γ}{ps:τ}{S:S4}(h:OfW N gt a w0 w ps S)(o:Obj):OfW N gt a w0 (w.alloc o) ps S:=h.call ((Ac _ _).alloc (Ab _) _)
theorem OfW.state{N gt c:Nat}{w0 w:Γ}{ps:τ}{S:S4}(h:OfW N gt c w0 w ps S)(b:S4):OfW N gt w.heap.size w0 (w.alloc (.cells (V4 b) 110)) ps b:=by
 have a:=h.alloc (.cells (V4 b) 110);have d:=lt_of_get h.h0;exact⟨a.h0,a.ht,Ak _ _,a.gtl,d,a.bel⟩
theorem InB.alloc{w:Γ}{a:Ω}{len cap:Nat}{bs:τ}(h:InB w a len cap bs)(o:Obj):InB (w.alloc o) a len cap bs:=by
 rcases h with h|⟨ad,d,e,c⟩
 ·exact .inl h
 ·exact .inr ⟨ad,d,e,λj u b=>(Av (w:=w) (Ax w _ _ (Al (c j u b)))).trans (c j u b)⟩
theorem Gc(bs:τ):(padded bs).length=bs.length+1+zc bs.length+8:=by
 unfold padded;rw[Af,Af,Af,Bu,GQ];rfl
theorem Q5(bs:τ):(padded bs).length%32=0/\0<(padded bs).length:=by
 rw[Gc];unfold zc;omega
theorem Mr(bs:τ)(h:∀x∈bs,0<=x/\x<256):∀x∈padded bs,0<=x/\x<256:=by
 intro x a;unfold padded at a;simp only[AP]at a;rcases a with((a|a)|a)|a
 ·exact h x a
 ·simp at a;omega
 ·rw[(Ce.1 a).2];omega
 ·unfold len8 at a;obtain⟨i,_,rfl⟩:=BC.1 a;omega
structure OfM(N gt gs gp gm:Nat)(w0 w:Γ)(ps:τ)(S M:S4):Prop where
 f:OfW N gt gs w0 w ps S
 hm:w.heap[gm]?=some (.cells (V4 M) 110)
 p0:w.cell? ⟨gp,0,none⟩=some (ξ S.a)
 p1:w.cell? ⟨gp,1,none⟩=some (ξ S.b)
 p2:w.cell? ⟨gp,2,none⟩=some (ξ S.c)
 p3:w.cell? ⟨gp,3,none⟩=some (ξ S.d)
theorem YC{N gt a gp:Nat}{w0 w:Γ}{ps:τ}{S:S4}(M:S4)(h:OfW N gt a w0 w ps S)(hd:w.cell? ⟨gp,0,none⟩=some (ξ S.a)/\w.cell? ⟨gp,1,none⟩=some (ξ S.b)/\w.cell? ⟨gp,2,none⟩=some (ξ S.c)/\w.cell? ⟨gp,3,none⟩=some (ξ S.d)):
 OfM N gt a gp w.heap.size w0 (w.alloc (.cells (V4 M) 110)) ps S M:=by
 obtain⟨d0,b,c,d⟩:=hd;have l:=Al d0;have e:∀j,(w.alloc (.cells (V4 M) 110)).cell? ⟨gp,j,none⟩=w.cell? ⟨gp,j,none⟩:=λj=>Av (w:=w) (Ax w _ _ l);exact⟨h.alloc _,Ak _ _,by rw[e,d0],by rw[e,b],by rw[e,c],by rw[e,d]⟩
theorem OfM.drewN{N gt a gp b:Nat}{w0 w:Γ}{ps:τ}{S M:S4}(h:OfM N gt a gp b w0 w ps S M)(n:Nat):OfM N gt a gp b w0 (w.drewN n) ps S M:=⟨h.f.drewN n,h.hm,h.p0,h.p1,h.p2,h.p3⟩
theorem gen_w{V:Γ}{p q:Γ->Prop}(F:q V)(h:∀v,q v->p v):p V:=h V F
def kx(k:Nat):Int:=wr ((k:Int)*kk)
theorem Fo(x:Int)(k:Nat)(h:x=kx k):IntKind.u64.wrap (x+11400714819323198485)=kx (k+1):=by
 subst h;unfold kx wr kk;simp only[C6];omega
theorem YD:Hid ((0:Int)=kx 0):=by
 unfold Hid kx wr;rw[C6];simp
theorem Ob(b a mm ad:Int):IntKind.u64.wrap (IntKind.u64.wrap (IntKind.u64.wrap (b+a)+mm)+ad)=wr (b+wr (a+wr (mm+ad))):=by
 unfold wr;simp only[C6];omega
theorem Oc(e b f rd X A D C B a d c g:Int)(n:A=wr (e+wr (b+X)))(o:D=rotl (bits BinOp.xor IntKind.u64 rd A) 32)(l:C=IntKind.u64.wrap (f+D))(m:B=rotl (bits BinOp.xor IntKind.u64 b C) 24)
 (k:a=IntKind.u64.wrap (A+B)) (j:d=rotl (bits BinOp.xor IntKind.u64 D a) 16) (h:c=IntKind.u64.wrap (C+d)) (i:g=rotl (bits BinOp.xor IntKind.u64 B c) 63):S4.mk g c d a=rnd ⟨e,b,f,rd⟩ X:=by
 subst i h j k m l o n;rfl
theorem KJ{S M:S4}{k:Nat}{r a:S4}{ad mm:Int}(h:r=rk S M k)(c:ad=kx (k+1))(b:mAt M k=mm)(d:a=rnd r (wr (mm+ad))):a=rk S M (k+1):=by
 rw[d,h,c,<-b];rfl
theorem OfW.drew{N gt a:Nat}{w0 w:Γ}{ps:τ}{S:S4}(h:OfW N gt a w0 w ps S):OfW N gt a w0 w.drew ps S:=⟨h.h0,h.ht,h.hs,h.gtl,h.gsl,h.bel.drew⟩
theorem OfM.drew{N gt a gp b:Nat}{w0 w:Γ}{ps:τ}{S M:S4}(h:OfM N gt a gp b w0 w ps S M):OfM N gt a gp b w0 w.drew ps S M:=⟨h.f.drew,h.hm,h.p0,h.p1,h.p2,h.p3⟩
theorem OfM.alloc{N gt a gp b:Nat}{w0 w:Γ}{ps:τ}{S M:S4}(h:OfM N gt a gp b w0 w ps S M)(o:Obj):OfM N gt a gp b w0 (w.alloc o) ps S M:=by
 have l:=Al h.p0;have e:∀j,(w.alloc o).cell? ⟨gp,j,none⟩=w.cell? ⟨gp,j,none⟩:=λj=>Av (w:=w) (Ax w _ _ l);exact⟨h.f.alloc _,(Ax _ _ _ (lt_of_get h.hm)).trans h.hm,by rw[e,h.p0],by rw[e,h.p1],by rw[e,h.p2],by rw[e,h.p3]⟩
theorem Wf{N gt d gp e:Nat}{w0 w:Γ}{ps:τ}{b a sc c:Int}{M:S4}(h:OfM N gt d gp e w0 w ps ⟨b,a,sc,c⟩ M):(w.cell? ⟨gp,0,none⟩=some (ξ b)/\w.cell? ⟨gp,1,none⟩=some (ξ a)/\w.cell? ⟨gp,2,none⟩=some (ξ sc)/\w.cell? ⟨gp,3,none⟩=some (ξ c))/\OfM N gt d gp e w0 w ps ⟨b,a,sc,c⟩ M:=⟨⟨h.p0,h.p1,h.p2,h.p3⟩,h⟩
theorem YE{ps:τ}{i:Nat}{S M r:S4}(b:S=stOf ps i)(a:M=wordsAt ps (32*i))(c:r=rk S M 8):xor4 r S=stOf ps (i+1):=by
 rw[c,Xa2,b,a];rfl
structure Ex(N gs go:Nat)(w0 w:Γ)(sa sb sc sd:Int)(ds:τ):Prop where
 h0:w.heap[N]?=some (.cells (B8 (List.replicate 32 0)) 44)
 hs:w.heap[gs]?=some (.cells (V4 ⟨sa,sb,sc,sd⟩) 110)
 ho:w.heap[go]?=some (.cells (B8 ds) 44)
 bel:Below N w0 w
theorem Ex.setO{N a go:Nat}{w0 w:Γ}{c b sc d:Int}{ds:τ}(h:Ex N a go w0 w c b sc d ds)(e:¬a=go)(f:N<go)(k:Nat)(x:Int):Ex N a go w0 (w.setCell ⟨go,k,none⟩ (η x)) c b sc d (ds.set k x):=
 ⟨(AA _ _ _ _ (by simp;omega)).trans h.h0,(AA _ _ _ _ e).trans h.hs,by rw[AU w go k _ 44 _ h.ho,Q1],h.bel.setCell (by simp;omega) _⟩
theorem Xa3:V4 s0=#[ξ 11400714819323198485,ξ (IntKind.u64.wrap 22801429638646396970),ξ (IntKind.u64.wrap (IntKind.u64.wrap 22801429638646396970+11400714819323198485)),ξ (IntKind.u64.wrap (IntKind.u64.wrap (IntKind.u64.wrap 22801429638646396970+11400714819323198485)+11400714819323198485))]:=by
 have b:wr (2*kk)=IntKind.u64.wrap 22801429638646396970:=rfl;have a:wr (3*kk)=IntKind.u64.wrap (IntKind.u64.wrap 22801429638646396970+11400714819323198485):=by
  unfold wr kk;simp only[C6];omega
 have c:wr (4*kk)=IntKind.u64.wrap (IntKind.u64.wrap (IntKind.u64.wrap 22801429638646396970+11400714819323198485)+11400714819323198485):=by
  unfold wr kk;simp only[C6];omega
 unfold V4 s0;simp only[b,a,c];rfl
theorem KL(g len cap:Nat)(p:Int)(a:Nat)(bs:τ)(w:Γ)(c:p=a)(b:a+8<=len)(d:len<=maxLen)
 (h:∀k,k<8->w.cell? ⟨g,a+k,none⟩=some (η (bs.getD (a+k) 0))) (f:∀k,k<8->0<=bs.getD (a+k) 0/\bs.getD (a+k) 0<256):
 Calls prog 64 #[σ (ζ g 0) len cap,ι p] w λe w'=>e=ω (ξ (wd bs a 8))/\w'=w:=by
 subst c;exact Wd g len cap a bs w b d h f
set_option maxRecDepth 100000 in
theorem rof_any(a:Ω)(len cap:Nat)(bs:τ)(w:Γ)(a1:InB w a len cap bs)(hb:∀x∈bs,0<=x/\x<256)(ah:bs.length<=140737488351232):
 Calls prog 38 #[σ a len cap] w λe w'=>e=ω (γ (B8 (dig (stOf (padded bs) ((padded bs).length/32)))))/\Λ w w':=by
 have ak:=λv=>Q4 a len cap bs v;have HP:=Aa ak;clear ak;have al:∀o,InB (w.alloc o) a len cap bs:=λo=>a1.alloc o;have aq:=Aa al;have HL:=Aa ah;have HB:=Aa hb;clear al a1 ah hb;go_enter func38,ntmps38;go_wp2_with fail;refine(HP.out _ (aq.out _) HL.out).mono ?_;rintro e w1⟨v1,rfl,ow,a5⟩;have af:=Gc bs;have ao:=Aa (Mr bs HB.out);have bh:(padded bs).length<=140737488352000:=by rw[af];have:=HL.out;unfold zc;omega
 have V:=Aa (Q5 bs);generalize a4:padded bs=ps at ow ao bh V;have bb:=Aa a4;clear a4;clear af HB aq HL HP;obtain⟨q,N⟩:∃q,ps.length=32*q:=⟨ps.length/32,by have:=V.out;omega⟩;obtain⟨gt,Q,rfl,bi,bk,bp,bo,a0⟩:=ow.slice (by have:=V.out;omega);have am:=Aa a0;clear a0 ow bi;have I:w1.heap[w.heap.size]?=some (.cells (B8 (List.replicate 32 0)) 44):=Below.row a5 (Ak w _);have F0:OfW w.heap.size gt w1.heap.size w (w1.alloc (.cells (V4 s0) 110)) ps s0:=by
  have L:=lt_of_get I;refine⟨(Ax _ _ _ L).trans I,λj hj=>(Av (w:=w1) (Ax w1 _ _ bk)).trans (am.out j hj),Ak _ _,by simp;omega,L,?_⟩;exact(((Ac _ _).alloc (Ab _) _).trans (a5.mono (by simp))).alloc (by omega) _
 clear I am;have bm:32*q<=140737488352000:=by omega
 have E:=Aa N;go_wp2_with fail
 go_loopw [5,6] (λs t v=>∃(i h:Nat)(S:S4),i<=q/\t=ι (32*(i:Int))/\s=σ (ζ h 0) 4 4/\Hid (S=stOf ps i)/\OfW w.heap.size gt h w v ps S) (λ_ t _=>32*q-(intOf t).toNat)
 case atStart=>
  refine⟨0,w1.heap.size,s0,by omega,rfl,rfl,rfl,?_⟩;rw[Xa3]at F0;exact F0
 case round=>
  clear F0;obtain⟨i,h,⟨c,d,sc,b⟩,hi,rfl,rfl,U,F⟩:=hrel;by_cases bj:i<q
  ·have hg:=F.hs;have az:wr.heap[h]?=some (.cells #[ξ c,ξ d,ξ sc,ξ b] 110):=hg;have HG:=Aa az;clear hg az;go_wp2_with (first|(at_builtin;refine We rfl (.tmp 43) (.tmp 44) rfl rfl h rfl c d sc b HG.out ?_;intro gp cp w2 a9 a8 d0 d1 d2 d3 ae));have J:=F.call ae;have ba:=ae.size;have HD:=Aa (And.intro d0 (And.intro d1 (And.intro d2 d3)));clear d0 d1 d2 d3 ae;have av:∀p,p+8<=32*q->∀k,k<8->0<=ps.getD (p+k) 0/\ps.getD (p+k) 0<256:=λp hp k H=>ao.out _ (getD_mem ps _ (by rw[E.out];omega));have K:=Aa av;clear av;refine(KL gt (32*q) Q _ (32*i) ps _ (by omega) (by omega) (by unfold maxLen;omega) (λk H=>J.ht _ (by rw[E.out];omega)) (K.out (32*i) (by omega))).mono ?_;rintro e M⟨rfl,rfl⟩;obtain⟨n,ac⟩:∃x,wd ps (32*i) 8=x:=⟨_,rfl⟩;rw[ac];have ax:=Aa ac;clear ac;go_wp2_with fail;refine(KL gt (32*q) Q _ (32*i+8) ps _ (by omega) (by omega) (by unfold maxLen;omega) (λk H=>J.ht _ (by rw[E.out];omega)) (K.out (32*i+8) (by omega))).mono ?_;rintro e M⟨rfl,rfl⟩;obtain⟨l,ad⟩:∃x,wd ps (32*i+8) 8=x:=⟨_,rfl⟩;rw[ad];have aw:=Aa ad;clear ad;go_wp2_with fail;refine(KL gt (32*q) Q _ (32*i+16) ps _ (by omega) (by omega) (by unfold maxLen;omega) (λk H=>J.ht _ (by rw[E.out];omega)) (K.out (32*i+16) (by omega))).mono ?_;rintro e M⟨rfl,rfl⟩;obtain⟨m,Y⟩:∃x,wd ps (32*i+16) 8=x:=⟨_,rfl⟩;rw[Y];have ar:=Aa Y;clear Y;go_wp2_with fail;refine(KL gt (32*q) Q _ (32*i+24) ps _ (by omega) (by omega) (by unfold maxLen;omega) (λk H=>J.ht _ (by rw[E.out];omega)) (K.out (32*i+24) (by omega))).mono ?_;rintro e M⟨rfl,rfl⟩;obtain⟨md,Z⟩:∃x,wd ps (32*i+24) 8=x:=⟨_,rfl⟩;rw[Z];have ap:=Aa Z;clear Z;go_wp2_with fail;have G:=YC (S:=⟨c,d,sc,b⟩) ⟨n,l,m,md⟩ J HD.out;clear F J HD K HG;obtain⟨D,a6⟩:∃D,M.heap.size=D:=⟨_,rfl⟩;rw[a6]at G⊢;refine gen_w (p:=λv=>Code.wp _ _ _ _ v) (q:=λv=>OfM w.heap.size gt h gp D w v ps ⟨c,d,sc,b⟩ ⟨n,l,m,md⟩) G ?_;clear G a6 ba a9 a8 M;intro v G;obtain⟨c0,c1,c2,c3,cf⟩:=CP (show v.heap[h]?=some (.cells #[ξ c,ξ d,ξ sc,ξ b] 110)from G.f.hs);obtain⟨e0,e1,e2,e3,ef⟩:=CP (show v.heap[D]?=some (.cells #[ξ n,ξ l,ξ m,ξ md] 110)from G.hm);clear cf ef
   go_quiet (fail)
   go_wp2_with fail
   go_quiet (fail)
   go_wp2_with fail
   go_quiet (fail)
   go_wp2_with fail
   go_quiet (fail)
   go_wp2_with fail;clear c0 c1 c2 c3 e0 e1 e2 e3
   go_loopw [9,10,11,12,13,14] (λta tb tc td tx tk v=>∃(k:Nat)(A u z rd x:Int),k<=8/\tk=ι k/\ta=ξ A/\tb=ξ u/\tc=ξ z/\td=ξ rd/\tx=ξ x/\Hid (S4.mk A u z rd=rk ⟨c,d,sc,b⟩ ⟨n,l,m,md⟩ k)/\Hid (x=kx k)/\OfM w.heap.size gt h gp D w v ps ⟨c,d,sc,b⟩ ⟨n,l,m,md⟩) (λ_ _ _ _ _ tk _=>8-(intOf tk).toNat)
   case atStart=>exact⟨0,_,_,_,_,_,by omega,rfl,rfl,rfl,rfl,rfl,rfl,rfl,YD,(((G.drewN _).drewN _).drewN _).drewN _⟩
   case round=>
    clear G;obtain⟨k,A,u,z,rd,x,H,rfl,rfl,rfl,rfl,rfl,rfl,HR,B,G⟩:=hrel;by_cases bc:k<8
    ·obtain⟨e0,e1,e2,e3,ef⟩:=CP (show wr.heap[D]?=some (.cells #[ξ n,ξ l,ξ m,ξ md] 110)from G.hm);clear ef;have g:k%4=0∨k%4=1∨k%4=2∨k%4=3:=(by omega);rcases g with g|g|g|g
     ·have aa:(k:Int)%4=0:=(by omega);have C:=Aa (show mAt ⟨n,l,m,md⟩ k=n from by simp[mAt,g]);clear g;go_wp2_with (first|(go_at_call 65;refine(YA _ _ _ (by omega) (by omega)).mono ?_;rintro e w'⟨rfl,nn,rfl⟩));refine⟨⟨k+1,_,_,_,_,_,by omega,by go_num,rfl,rfl,rfl,rfl,rfl,KJ HR.out (Fo _ _ B.out) C.out (Oc A u z rd _ _ _ _ _ _ _ _ _ (Ob _ _ _ _) rfl rfl rfl rfl rfl rfl rfl),Fo _ _ B.out,?_⟩,by simp[intOf];omega⟩
      repeat(first|exact G|refine OfM.drewN ?_ _)
     ·have aa:(k:Int)%4=1:=(by omega);have C:=Aa (show mAt ⟨n,l,m,md⟩ k=l from by simp[mAt,g]);clear g;go_wp2_with (first|(go_at_call 65;refine(YA _ _ _ (by omega) (by omega)).mono ?_;rintro e w'⟨rfl,nn,rfl⟩));refine⟨⟨k+1,_,_,_,_,_,by omega,by go_num,rfl,rfl,rfl,rfl,rfl,KJ HR.out (Fo _ _ B.out) C.out (Oc A u z rd _ _ _ _ _ _ _ _ _ (Ob _ _ _ _) rfl rfl rfl rfl rfl rfl rfl),Fo _ _ B.out,?_⟩,by simp[intOf];omega⟩
      repeat(first|exact G|refine OfM.drewN ?_ _)
     ·have aa:(k:Int)%4=2:=(by omega);have C:=Aa (show mAt ⟨n,l,m,md⟩ k=m from by simp[mAt,g]);clear g;go_wp2_with (first|(go_at_call 65;refine(YA _ _ _ (by omega) (by omega)).mono ?_;rintro e w'⟨rfl,nn,rfl⟩));refine⟨⟨k+1,_,_,_,_,_,by omega,by go_num,rfl,rfl,rfl,rfl,rfl,KJ HR.out (Fo _ _ B.out) C.out (Oc A u z rd _ _ _ _ _ _ _ _ _ (Ob _ _ _ _) rfl rfl rfl rfl rfl rfl rfl),Fo _ _ B.out,?_⟩,by simp[intOf];omega⟩
      repeat(first|exact G|refine OfM.drewN ?_ _)
     ·have aa:(k:Int)%4=3:=(by omega);have C:=Aa (show mAt ⟨n,l,m,md⟩ k=md from by simp[mAt,g]);clear g;go_wp2_with (first|(go_at_call 65;refine(YA _ _ _ (by omega) (by omega)).mono ?_;rintro e w'⟨rfl,nn,rfl⟩));refine⟨⟨k+1,_,_,_,_,_,by omega,by go_num,rfl,rfl,rfl,rfl,rfl,KJ HR.out (Fo _ _ B.out) C.out (Oc A u z rd _ _ _ _ _ _ _ _ _ (Ob _ _ _ _) rfl rfl rfl rfl rfl rfl rfl),Fo _ _ B.out,?_⟩,by simp[intOf];omega⟩
      repeat(first|exact G|refine OfM.drewN ?_ _)
    ·have ab:k=8:=(by omega);subst ab;clear H bc;obtain⟨p0,p1,p2,p3⟩:=And.intro G.p0 (And.intro G.p1 (And.intro G.p2 G.p3));have HM:Hid (S4.mk n l m md=wordsAt ps (32*i)):=(by unfold Hid wordsAt;rw[ax.out,aw.out,ar.out,ap.out]);have P:=Aa (YE U.out HM.out HR.out);clear HM U HR B ax aw ar ap;go_wp2_with fail
     go_region_held3 (λv=>(v.cell? ⟨gp,0,none⟩=some (ξ c)/\v.cell? ⟨gp,1,none⟩=some (ξ d)/\v.cell? ⟨gp,2,none⟩=some (ξ sc)/\v.cell? ⟨gp,3,none⟩=some (ξ b))/\OfM w.heap.size gt h gp D w v ps ⟨c,d,sc,b⟩ ⟨n,l,m,md⟩)
      ((first|exact Wf G.drew|exact Wf (G.alloc _).drew|exact Wf (G.drew.alloc _)))
      (fail)
     go_wp2_with fail;refine⟨⟨i+1,wr.heap.size,xor4 ⟨A,u,z,rd⟩ ⟨c,d,sc,b⟩,by omega,by go_num,rfl,P.out,(G.f.state (xor4 ⟨A,u,z,rd⟩ ⟨c,d,sc,b⟩)).drew⟩,by simp[intOf];omega⟩
  ·have bf:i=q:=(by omega);subst bf;have ai:Hid (dig ⟨c,d,sc,b⟩=dig (stOf ps (ps.length/32))):=(by unfold Hid;rw[U.out,E.out,Nat.mul_div_cancel_left i (by omega)]);clear U E;have I:=F.h0;have bg:=F.gsl;have aj:=F.bel;have L:=lt_of_get I;have l1:=lt_of_get F.hs;have K0:Ex w.heap.size h wr.heap.size w (wr.alloc (.cells (B8 (List.replicate 32 0)) 44)) c d sc b (List.replicate 32 0):=⟨(Ax _ _ _ L).trans I,(Ax _ _ _ l1).trans F.hs,Ak _ _,aj.alloc (by omega) _⟩;have ay:¬wr.heap.size=w.heap.size:=(by omega);clear I aj F;obtain⟨go,a2⟩:∃go,wr.heap.size=go:=⟨_,rfl⟩;rw[a2]at K0 ay;have bl:w.heap.size<go:=(by omega);have O:¬h=go:=(by omega);go_wp2_with fail;refine gen_w (p:=λv=>Code.wp _ _ _ _ v) (q:=λv=>Ex w.heap.size h go w v c d sc b (List.replicate 32 0)) K0 ?_;clear K0 a2 L l1 bg ay;intro v K0
   go_loopw [17] (λt v=>∃k:Nat,k<=32/\t=ι k/\Ex w.heap.size h go w v c d sc b (digk ⟨c,d,sc,b⟩ k)) (λt _=>32-(intOf t).toNat)
   case atStart=>exact⟨0,by omega,rfl,K0⟩
   case round=>
    clear K0;obtain⟨k,H,rfl,R⟩:=hrel;by_cases bj:k<32
    ·obtain⟨p,q,r,s,f⟩:=CP (show wr.heap[h]?=some (.cells #[ξ c,ξ d,ξ sc,ξ b] 110)from R.hs);clear f;have a7:=NY R.ho k (by rw[Kl];omega);have bn:=AN _ _ k _ _ R.ho;generalize (digk ⟨c,d,sc,b⟩ k).getD k 0=y at a7;have g:k<8∨(8<=k/\k<16)∨(16<=k/\k<24)∨24<=k:=(by omega);rcases g with g|g|g|g
     ·have N:(k:Int)/8=0:=(by omega);have T:=R.setO O (by omega) k (bt (sel ⟨c,d,sc,b⟩ k) k);have e:sel ⟨c,d,sc,b⟩ k=c:=(by simp[sel,g]);rw[EO,e]at T;clear e;go_wp2_with fail;exact⟨⟨k+1,by omega,by go_num,T⟩,by simp[intOf];omega⟩
     ·have N:(k:Int)/8=1:=(by omega);have T:=R.setO O (by omega) k (bt (sel ⟨c,d,sc,b⟩ k) k);have e:sel ⟨c,d,sc,b⟩ k=d:=(by simp[sel,show¬k<8 from by omega,show k<16 from by omega]);rw[EO,e]at T;clear e;go_wp2_with fail;exact⟨⟨k+1,by omega,by go_num,T⟩,by simp[intOf];omega⟩
     ·have N:(k:Int)/8=2:=(by omega);have T:=R.setO O (by omega) k (bt (sel ⟨c,d,sc,b⟩ k) k);have e:sel ⟨c,d,sc,b⟩ k=sc:=(by simp[sel,show¬k<8 from by omega,show¬k<16 from by omega,show k<24 from by omega]);rw[EO,e]at T;clear e;go_wp2_with fail;exact⟨⟨k+1,by omega,by go_num,T⟩,by simp[intOf];omega⟩
     ·have N:(k:Int)/8=3:=(by omega);have T:=R.setO O (by omega) k (bt (sel ⟨c,d,sc,b⟩ k) k);have e:sel ⟨c,d,sc,b⟩ k=b:=(by simp[sel,show¬k<8 from by omega,show¬k<16 from by omega,show¬k<24 from by omega]);rw[EO,e]at T;clear e;go_wp2_with fail;exact⟨⟨k+1,by omega,by go_num,T⟩,by simp[intOf];omega⟩
    ·have ab:k=32:=(by omega);subst ab;rw[Pc,ai.out]at R;generalize X:dig (stOf ps (ps.length/32))=ds at R;have a3:ds.length=32:=(by rw[<-X];simp[dig]);have HD:=Aa X;clear X ai;have W:Hid ((prog.info? 44).map (·.size)=some (B8 ds).size):=(by unfold Hid;rw[B8_size,a3];kernel_rfl);have HO:=Aa R.ho;have P:=Aa R.h0;go_wp2_with (first|refine EG rfl 44 _ rfl _ rfl 44 _ _ _ HO.out υ44 rfl W.out ?_|refine A5 rfl 44 _ _ rfl _ (B8 ds) rfl rfl 44 _ P.out W.out (by rw[B8_size,B8_size,a3,Bu]) (B8_one _) ?_);refine Aq (Be results38 _ _ w.heap.size 44 (B8 ds) (0,0) _ rfl (AC _ _ _ _ _ _ P.out) υ44 rfl W.out) rfl ?_;exact⟨by rw[bb.out,HD.out],Below.setRow R.bel (Ab _) _⟩
end Di
end Go.Proofs.YtkdlocloepbmcaaGreat
