/- More steps through a drawn region: a store, a build, loads of whole references, nodes and items. -/
import Derived.Test.YtalhnnjpjaeakaaGreatAK
import Derived.Test.YtalhnnjpjaeakaaGreatG07
import Derived.Test.YtalhnnjpjaeakaaGreatRows
import Derived.WalkKit
import Derived.WalkSpells
import Derived.WalkLawsBesides
import Derived.BigQuiet
import Derived.Deep.QuietTactic
import Derived.Handy
import Derived.Deep.RegionHeld3
import Derived.Laws.CopyOwn
import Derived.Deep.RegionLaw
import Derived.Deep.DrawnRows
import Derived.Laws.AppendOwnNone
set_option linter.unusedVariables false
set_option maxRecDepth 100000
set_option maxHeartbeats 4000000
open Go.Proofs.Tryz Go.RowKit
namespace Go.Proofs.YtalhnnjpjaeakaaGreat
section
variable {md : Region.Mode} {ops : Array Oper} {Q : Exit → Act → World → Prop} {S : World → Prop} {fuel : Nat} {listed : Array Bool} {a : Act} {w : World}
theorem DG(i:Nat){rs:List Nat}{w':World}{o:Oper}(ho:ops[i]?=some o)(hd:o.dst=none)(hg:Region.wanted o (yielded ops a.tmps)=true)(hrun:(execOp a.eval o).run prog w= .ok .skip w')(hS:S w')
 (h:wpAnyH prog md ops Q S fuel (listed.setIfInBounds i true) a w') (hs:AllReadyH prog md ops Q S fuel listed a w rs):AllReadyH prog md ops Q S fuel listed a w (i::rs):=
 Dc ho (λK hK=>by
  rw[Af hg];unfold Oper.wp;rw[hrun,Oper.upon_skip];exact hK _ _ hS (λ_=>by rw[hd];exact h)) hs
end
section
variable {ops : Array Oper} {Q : Exit → Act → World → Prop} {a : Act} {w w' : World} {rest : List Oper} {o : Oper}
theorem Oz(d:Nat)(v:Value)(hd:o.dst=some d)(hw:Region.wanted o (yielded ops a.tmps)=true)(hrun:(execOp a.eval o).run prog w= .ok (.value v) w')(h:wpList prog ops Q rest (a.put (some d) v) w'):wpList prog ops Q (o::rest) a w:=
 LN hw λK hK=>by
  unfold Oper.wp;rw[hrun,Oper.upon_value,hd];exact hK _ _ h
theorem Bu(d:Nat)(v:Value)(hd:o.dst=some d)(hw:Region.wanted o (yielded ops a.tmps)=true)(hrun:(execOp a.eval o).run prog w= .ok (.value v) w)(h:wpList prog ops Q rest (a.put (some d) v) w):wpList prog ops Q (o::rest) a w:=Oz d v hd hw hrun h
theorem Fy(hd:o.dst=none)(hw:Region.wanted o (yielded ops a.tmps)=true)(hrun:(execOp a.eval o).run prog w= .ok .skip w')(h:wpList prog ops Q rest a w'):wpList prog ops Q (o::rest) a w:=
 LN hw λK hK=>by
  unfold Oper.wp;rw[hrun,Oper.upon_skip,hd];exact hK _ _ h
theorem KX(d:Nat)(hd:o.dst=some d)(hw:Region.wanted o (yielded ops a.tmps)=true)(f:FuncId)(args:Array Value)(hrun:(execOp a.eval o).run prog w= .ok (.enter f args) w)
 {R:Value->World->Prop} (hc:Calls prog f args w λe w'=>∃v,e= .returned v/\R v w') (h:∀v w',R v w'->wpList prog ops Q rest (a.put (some d) v) w'):wpList prog ops Q (o::rest) a w:=
 LN hw λK hK=>by
  unfold Oper.wp;rw[hrun,E9];refine hc.mono ?_;rintro e w'⟨v,rfl,hR⟩;rw[hd];exact hK _ _ (h v w' hR)
end
section
variable {a : Act} {w : World}
theorem Ea(t:TypeId)(parts:Array (Nat×Operand)){o:Oper}(ho:o.op= .build t parts)(vals:List (Nat×Value))(hv:(parts.map λ(i,x)=>(i,a.eval x)).toList=vals)(cells:Array Value)(hf:prog.built t vals=some cells):
 (execOp a.eval o).run prog w= .ok (.value (.agg cells)) w:=by
 subst hv;have hr:=run_build w t (parts.map λ(i,x)=>(i,a.eval x)) cells (P:=prog) hf;unfold execOp;rw[ho];simp only[Bm,hr,AH,Bp]
theorem D3(ty:TypeId)(x y:Operand){o:Oper}(ho:o.op= .store ty x y)(g:Nat)(cells:Array Value)(hx:a.eval x= .pointer (some ⟨g,0,none⟩))(hy:a.eval y= .agg cells)(t:TypeId)(old:Array Value)
 (hg:w.heap[g]?=some (.cells old t (0,0))) (hi:(prog.info? ty).map (·.size)=some cells.size) (hold:old.size=cells.size) (h1:cells.all (·.oneCell')=true):
 (execOp a.eval o).run prog w= .ok .skip (w.setRow g cells):=by
 unfold execOp;rw[ho];simp only[hx,hy,Instr.storeAt,Instr.sureAddr,Bm,Bp,AH,run_storeVar_row w g t ty old cells hg hi hold h1]
theorem LP(ty:TypeId)(x:Operand){o:Oper}(ho:o.op= .load ty x)(b off:Nat)(hx:a.eval x= .pointer (some ⟨b,off,none⟩))(cs:List Value)(d:TypeDesc)(hc:w.rangeAt b off cs)(hu:prog.underlying ty=some d)(hd:d.isRow=true)(hi:(prog.info? ty).map (·.size)=some cs.length):
 (execOp a.eval o).run prog w= .ok (.value (.agg cs.toArray)) w:=by
 unfold execOp;simp only[ho,hx,Instr.loadAt,Instr.sureAddr,Bm,Bp,AH,run_loadVar_mid w b off ty cs d hc hu hd hi]
theorem TT{x:Operand}{o:Oper}(ho:o.op= .load 92 x){b:Nat}(hx:a.eval x= .pointer (some ⟨b,0,none⟩)){y:NV}(hc:NBx b w y):(execOp a.eval o).run prog w= .ok (.value (.agg y.cells.toArray)) w:=
 LP 92 x ho b 0 hx y.cells _ hc.all underlying92 rfl (by rw[I6,NV.len hc.l])
theorem Gu{x:Operand}{o:Oper}(ho:o.op= .load 62 x){b off:Nat}(hx:a.eval x= .pointer (some ⟨b,off,none⟩)){y:RV}(hl:y.d.length=32)(hc:w.rangeAt b off y.cells):(execOp a.eval o).run prog w= .ok (.value (.agg y.cells.toArray)) w:=
 LP 62 x ho b off hx y.cells _ hc underlying62 rfl (by rw[FP,RV.len hl])
end
end Go.Proofs.YtalhnnjpjaeakaaGreat
namespace Go.Proofs.YtalhnnjpjaeakaaGreat.Di
structure S4 where
 a:Int
 b:Int
 c:Int
 d:Int
def wr(x:Int):Int:=IntKind.u64.wrap x
def rotl(x k:Int):Int:=bits BinOp.or IntKind.u64 (IntKind.u64.wrap (x*2^k.toNat)) (x/2^(64-k).toNat)
def xr(x y:Int):Int:=bits BinOp.xor IntKind.u64 x y
def rnd(s:S4)(x:Int):S4:=
 let a:=wr (s.a+wr (s.b+x))
 let d:=rotl (xr s.d a) 32
 let c:=wr (s.c+d)
 let b:=rotl (xr s.b c) 24
 let a:=wr (a+b)
 let d:=rotl (xr d a) 16
 let c:=wr (c+d)
 let b:=rotl (xr b c) 63
 ⟨b,c,d,a⟩
def xor4(s m:S4):S4:=⟨xr s.a m.a,xr s.b m.b,xr s.c m.c,xr s.d m.d⟩
def kk:Int:=11400714819323198485
def stir(s m:S4):S4:=
 let s:=rnd s (wr (m.a+wr (1*kk)))
 let s:=rnd s (wr (m.b+wr (2*kk)))
 let s:=rnd s (wr (m.c+wr (3*kk)))
 let s:=rnd s (wr (m.d+wr (4*kk)))
 let s:=rnd s (wr (m.a+wr (5*kk)))
 let s:=rnd s (wr (m.b+wr (6*kk)))
 let s:=rnd s (wr (m.c+wr (7*kk)))
 rnd s (wr (m.d+wr (8*kk)))
def mix(s m:S4):S4:=xor4 (stir (xor4 s m) m) s
theorem XaW:bits BinOp.and IntKind.u64 32 63=32:=by decide
theorem XaX:bits BinOp.and IntKind.u64 24 63=24:=by decide
theorem XaY:bits BinOp.and IntKind.u64 16 63=16:=by decide
theorem XaZ:bits BinOp.and IntKind.u64 63 63=63:=by decide
theorem XaL(x:Int)(w:World)(k:Int)(hk0:0<=k)(hk1:k<64)(hkk:bits BinOp.and IntKind.u64 k 63=k):
 Calls prog 146 #[.int .u64 x, .int .i64 k] w λe w'=>e= .returned (.int .u64 (rotl x k))/\w'=w:=by
 go_enter func146,ntmps146;go_wp2;go_ret;exact⟨rfl,rfl⟩
theorem round_any(a b c d x:Int)(w:World):
 Calls prog 137 #[.agg #[.int .u64 a, .int .u64 b, .int .u64 c, .int .u64 d], .int .u64 x] w λe w'=>(∃a' b' c' d',e= .returned (.agg #[.int .u64 a', .int .u64 b', .int .u64 c', .int .u64 d'])/\Hid (S4.mk a' b' c' d'=rnd ⟨a,b,c,d⟩ x))/\Below w.heap.size w w':=by
 go_enter func137,ntmps137;go_wp2_with fail
 go_quiet (fail)
 go_wp2_with (first|(go_at_call 146;refine(XaL _ _ _ (by omega) (by omega) (by first|exact XaW|exact XaX|exact XaY|exact XaZ)).mono ?_;rintro e w'⟨rfl,rfl⟩))
 go_returns
 refine⟨⟨_,_,_,_,rfl,rfl⟩,?_⟩
 repeat' (first|refine Below.setCell ?_ (by simp<;>omega) _|refine below_drewN ?_ _|refine Below.alloc ?_ (by simp<;>omega) _|exact Ak _ _)
theorem SB(a b c d x y z u:Int)(w:World):
 Calls prog 115 #[.agg #[.int .u64 a, .int .u64 b, .int .u64 c, .int .u64 d], .agg #[.int .u64 x, .int .u64 y, .int .u64 z, .int .u64 u]] w λe w'=>(∃a' b' c' d',e= .returned (.agg #[.int .u64 a', .int .u64 b', .int .u64 c', .int .u64 d'])/\Hid (S4.mk a' b' c' d'=xor4 ⟨a,b,c,d⟩ ⟨x,y,z,u⟩))/\Below w.heap.size w w':=by
 have i0:∀(w:World)(x0 x1 x2 x3:Value),(Instr.index 113 (.agg #[x0,x1,x2,x3]) (.int .i64 0)).run prog w= .ok x0 w:=λ_ _ _ _ _=>by kernel_rfl
 have i1:∀(w:World)(x0 x1 x2 x3:Value),(Instr.index 113 (.agg #[x0,x1,x2,x3]) (.int .i64 1)).run prog w= .ok x1 w:=λ_ _ _ _ _=>by kernel_rfl
 have i2:∀(w:World)(x0 x1 x2 x3:Value),(Instr.index 113 (.agg #[x0,x1,x2,x3]) (.int .i64 2)).run prog w= .ok x2 w:=λ_ _ _ _ _=>by kernel_rfl
 have i3:∀(w:World)(x0 x1 x2 x3:Value),(Instr.index 113 (.agg #[x0,x1,x2,x3]) (.int .i64 3)).run prog w= .ok x3 w:=λ_ _ _ _ _=>by kernel_rfl
 go_enter func115,ntmps115;go_wp2
 go_rounds 5
 go_returns
 refine⟨⟨_,_,_,_,rfl,rfl⟩,?_⟩
 repeat' (first|refine Below.setCell ?_ (by simp<;>omega) _|refine below_drewN ?_ _|refine Below.alloc ?_ (by simp<;>omega) _|exact Ak _ _)
structure Rows3(n:Nat)(w0 w:World)(r2 r3 r4:Array Value):Prop where
 h2:w.heap[n]?=some (.cells r2 113)
 h3:w.heap[n+1]?=some (.cells r3 113)
 h4:w.heap[n+1+1]?=some (.cells r4 113)
 bel:Below n w0 w
theorem Xba{p:Prop}(h:p):Hid p:=h
theorem lt_of_get{α:Type}{xs:Array α}{i:Nat}{x:α}(h:xs[i]?=some x):i<xs.size:=(BF.1 h).1
theorem Rows3.call{n:Nat}{w0 v w1:World}{r2 r3 r4:Array Value}(h:Rows3 n w0 v r2 r3 r4)(hb:Below v.heap.size v w1):Rows3 n w0 w1 r2 r3 r4:=by
 have l:=lt_of_get h.h4;exact⟨(hb.block _ (by omega)).trans h.h2,(hb.block _ (by omega)).trans h.h3,(hb.block _ (by omega)).trans h.h4,h.bel.trans (hb.mono (by omega))⟩
theorem CS{w:World}{g t:Nat}{x0 x1 x2 x3:Value}(h:w.heap[g]?=some (.cells #[x0,x1,x2,x3] t)):
 w.cell? ⟨g,0,none⟩=some x0/\w.cell? ⟨g,1,none⟩=some x1/\w.cell? ⟨g,2,none⟩=some x2/\w.cell? ⟨g,3,none⟩=some x3/\∀o,w.frozen? ⟨g,o,none⟩=false:=
 ⟨by simp[World.cell?,h],by simp[World.cell?,h],by simp[World.cell?,h],by simp[World.cell?,h],λo=>AL w g o _ t h⟩
theorem VX{w:World}{g t:Nat}{x0 x1 x2 x3:Value}(h:w.heap[g]?=some (.cells #[x0,x1,x2,x3] t))(a b c d:Value):
 ((((w.setCell ⟨g,0,none⟩ a).setCell ⟨g,1,none⟩ b).setCell ⟨g,2,none⟩ c).setCell ⟨g,3,none⟩ d).heap[g]?=some (.cells #[a,b,c,d] t):=by
 have h1:=AO w g 0 _ t a h;have h2:=AO _ g 1 _ t b h1;have h3:=AO _ g 2 _ t c h2;have h4:=AO _ g 3 _ t d h3;simpa using h4
theorem GB{w:World}{g k:Nat}(hk:k≠g)(a b c d:Value):
 ((((w.setCell ⟨g,0,none⟩ a).setCell ⟨g,1,none⟩ b).setCell ⟨g,2,none⟩ c).setCell ⟨g,3,none⟩ d).heap[k]?=w.heap[k]?:=by
 rw[A8 _ _ _ _ hk,A8 _ _ _ _ hk,A8 _ _ _ _ hk,A8 _ _ _ _ hk]
theorem JQ{B:Nat}{w0 w:World}{g:Nat}(h:Below B w0 w)(hg:B<=g)(a b c d:Value):
 Below B w0 ((((w.setCell ⟨g,0,none⟩ a).setCell ⟨g,1,none⟩ b).setCell ⟨g,2,none⟩ c).setCell ⟨g,3,none⟩ d):=
 (((h.setCell hg a).setCell hg b).setCell hg c).setCell hg d
theorem Rows3.put{n:Nat}{w0 w:World}{x0 x1 x2 x3:Value}{r3 r4:Array Value}(h:Rows3 n w0 w #[x0,x1,x2,x3] r3 r4)(a b c d:Value):
 Rows3 n w0 ((((w.setCell ⟨n,0,none⟩ a).setCell ⟨n,1,none⟩ b).setCell ⟨n,2,none⟩ c).setCell ⟨n,3,none⟩ d) #[a,b,c,d] r3 r4:=
 ⟨VX h.h2 a b c d,(GB (by omega) a b c d).trans h.h3,(GB (by omega) a b c d).trans h.h4,JQ h.bel (Aa _) a b c d⟩
theorem Nm(w:World)(A B C:Array Value):Rows3 w.heap.size w (((w.alloc (.cells A 113)).alloc (.cells B 113)).alloc (.cells C 113)) A B C:=by
 have s1:(w.alloc (.cells A 113)).heap.size=w.heap.size+1:=by simp
 have s2:((w.alloc (.cells A 113)).alloc (.cells B 113)).heap.size=w.heap.size+1+1:=by simp
 have h1:=Ai w (.cells A 113);have h2:=Ai (w.alloc (.cells A 113)) (.cells B 113);have h3:=Ai ((w.alloc (.cells A 113)).alloc (.cells B 113)) (.cells C 113);rw[s1]at h2;rw[s2]at h3
 exact⟨by rw[Au _ _ _ (by omega),Au _ _ _ (by omega)];exact h1,by rw[Au _ _ _ (by omega)];exact h2,h3,
  (((Ak _ _).alloc (Aa _) _).alloc (by omega) _).alloc (by omega) _⟩
theorem Rows3.drew{n:Nat}{w0 w:World}{r2 r3 r4:Array Value}(h:Rows3 n w0 w r2 r3 r4):Rows3 n w0 w.drew r2 r3 r4:=⟨h.h2,h.h3,h.h4,h.bel.drew⟩
theorem Rows3.alloc{n:Nat}{w0 w:World}{r2 r3 r4:Array Value}(h:Rows3 n w0 w r2 r3 r4)(o:Obj):Rows3 n w0 (w.alloc o) r2 r3 r4:=by
 have l:=lt_of_get h.h4;exact⟨(Au _ _ _ (by omega)).trans h.h2,(Au _ _ _ (by omega)).trans h.h3,(Au _ _ _ (by omega)).trans h.h4,h.bel.alloc (by omega) _⟩
theorem Rows3.size{n:Nat}{w0 w:World}{r2 r3 r4:Array Value}(h:Rows3 n w0 w r2 r3 r4):n+1+1<w.heap.size:=lt_of_get h.h4
theorem Rows3.putAt{n:Nat}{w0 w:World}{r2 r3 r4:Array Value}(h:Rows3 n w0 w r2 r3 r4){g:Nat}(hg:n+1+1<g)(a b c d:Value):
 Rows3 n w0 ((((w.setCell ⟨g,0,none⟩ a).setCell ⟨g,1,none⟩ b).setCell ⟨g,2,none⟩ c).setCell ⟨g,3,none⟩ d) r2 r3 r4:=
 ⟨(GB (by omega) a b c d).trans h.h2,(GB (by omega) a b c d).trans h.h3,(GB (by omega) a b c d).trans h.h4,JQ h.bel (by omega) a b c d⟩
theorem Below.row{W w1:World}(hb:Below W.heap.size W w1){g:Nat}{o:Obj}(h:W.heap[g]?=some o):w1.heap[g]?=some o:=(hb.block g (lt_of_get h)).trans h
theorem O0(w:World)(A B C D:Obj):Hid ((((((w.alloc A).alloc B).alloc C).alloc D).heap[w.heap.size+1+1+1]?)=some D):=by
 have s3:(((w.alloc A).alloc B).alloc C).heap.size=w.heap.size+1+1+1:=by simp
 have h:=Ai (((w.alloc A).alloc B).alloc C) D;rw[s3]at h;exact h
theorem XX{a b c d x y z u:Int}{s1 s2 s3 s4 s5 s6 s7 s8:S4}
 (h1:s1=rnd ⟨a,b,c,d⟩ (IntKind.u64.wrap (x+11400714819323198485)))
 (h2:s2=rnd s1 (IntKind.u64.wrap (y+IntKind.u64.wrap 22801429638646396970)))
 (h3:s3=rnd s2 (IntKind.u64.wrap (z+IntKind.u64.wrap 34202144457969595455)))
 (h4:s4=rnd s3 (IntKind.u64.wrap (u+IntKind.u64.wrap 45602859277292793940)))
 (h5:s5=rnd s4 (IntKind.u64.wrap (x+IntKind.u64.wrap 57003574096615992425)))
 (h6:s6=rnd s5 (IntKind.u64.wrap (y+IntKind.u64.wrap 68404288915939190910)))
 (h7:s7=rnd s6 (IntKind.u64.wrap (z+IntKind.u64.wrap 79805003735262389395)))
 (h8:s8=rnd s7 (IntKind.u64.wrap (u+IntKind.u64.wrap 91205718554585587880))):s8=stir ⟨a,b,c,d⟩ ⟨x,y,z,u⟩:=by
 rw[h8,h7,h6,h5,h4,h3,h2,h1];have e1:wr (1*kk)=11400714819323198485:=by unfold wr kk;rw[C0];rfl
 unfold stir;rw[e1];rfl
theorem VY(a b c d x y z u:Int)(w:World):
 Calls prog 114 #[.agg #[.int .u64 a, .int .u64 b, .int .u64 c, .int .u64 d], .agg #[.int .u64 x, .int .u64 y, .int .u64 z, .int .u64 u]] w λe w'=>(∃a' b' c' d',e= .returned (.agg #[.int .u64 a', .int .u64 b', .int .u64 c', .int .u64 d'])/\Hid (S4.mk a' b' c' d'=stir ⟨a,b,c,d⟩ ⟨x,y,z,u⟩))/\Below w.heap.size w w':=by
 have i0:∀(w:World)(x0 x1 x2 x3:Value),(Instr.index 113 (.agg #[x0,x1,x2,x3]) (.int .i64 0)).run prog w= .ok x0 w:=λ_ _ _ _ _=>by kernel_rfl
 have i1:∀(w:World)(x0 x1 x2 x3:Value),(Instr.index 113 (.agg #[x0,x1,x2,x3]) (.int .i64 1)).run prog w= .ok x1 w:=λ_ _ _ _ _=>by kernel_rfl
 have i2:∀(w:World)(x0 x1 x2 x3:Value),(Instr.index 113 (.agg #[x0,x1,x2,x3]) (.int .i64 2)).run prog w= .ok x2 w:=λ_ _ _ _ _=>by kernel_rfl
 have i3:∀(w:World)(x0 x1 x2 x3:Value),(Instr.index 113 (.agg #[x0,x1,x2,x3]) (.int .i64 3)).run prog w= .ok x3 w:=λ_ _ _ _ _=>by kernel_rfl
 have R0:=Nm w #[.int .u64 a, .int .u64 b, .int .u64 c, .int .u64 d] #[.int .u64 x, .int .u64 y, .int .u64 z, .int .u64 u] #[.int .u64 0, .int .u64 0, .int .u64 0, .int .u64 0];go_enter func114,ntmps114;go_wp2
 go_step3
 go_wp2
 go_step3
 go_wp2;refine wp_loop_rounds 2 ?_;rw[Dg];go_wp2;refine wp_loop_rounds 5 ?_;rw[Dg];go_wp2_with fail;refine(round_any _ _ _ _ _ _).mono ?_;rintro e w1⟨⟨a1,b1,c1,d1,rfl,H1⟩,hb1⟩;have S1:=Rows3.call R0 hb1;obtain⟨p1,q1,r1,s1,f1⟩:=CS S1.h2;clear hb1;go_wp2_with fail;have R1:=Rows3.put S1 (.int .u64 a1) (.int .u64 b1) (.int .u64 c1) (.int .u64 d1);rw[Dg];go_wp2_with fail;refine(round_any _ _ _ _ _ _).mono ?_;rintro e w2⟨⟨a2,b2,c2,d2,rfl,H2⟩,hb2⟩;clear p1 q1 r1 s1 f1;have S2:=Rows3.call R1 hb2;obtain⟨p2,q2,r2,s2,f2⟩:=CS S2.h2;clear hb2;go_wp2_with fail;have R2:=Rows3.put S2 (.int .u64 a2) (.int .u64 b2) (.int .u64 c2) (.int .u64 d2);rw[Dg];go_wp2_with fail;refine(round_any _ _ _ _ _ _).mono ?_;rintro e w3⟨⟨a3,b3,c3,d3,rfl,H3⟩,hb3⟩;clear p2 q2 r2 s2 f2;have S3:=Rows3.call R2 hb3;obtain⟨p3,q3,r3,s3,f3⟩:=CS S3.h2;clear hb3;go_wp2_with fail;have R3:=Rows3.put S3 (.int .u64 a3) (.int .u64 b3) (.int .u64 c3) (.int .u64 d3);rw[Dg];go_wp2_with fail;refine(round_any _ _ _ _ _ _).mono ?_;rintro e w4⟨⟨a4,b4,c4,d4,rfl,H4⟩,hb4⟩;clear p3 q3 r3 s3 f3;have S4:=Rows3.call R3 hb4;obtain⟨p4,q4,r4,s4,f4⟩:=CS S4.h2;clear hb4;go_wp2_with fail;have R4:=Rows3.put S4 (.int .u64 a4) (.int .u64 b4) (.int .u64 c4) (.int .u64 d4);rw[Dg];go_wp2_with fail;rw[Dg];obtain⟨p0,q0,r0,s0,_⟩:=CS R4.h3;go_wp2_with fail;refine wp_loop_rounds 5 ?_;rw[Dg];go_wp2_with fail;refine(round_any _ _ _ _ _ _).mono ?_;rintro e w5⟨⟨a5,b5,c5,d5,rfl,H5⟩,hb5⟩;clear p4 q4 r4 s4 f4;clear p0 q0 r0 s0;have S5:=Rows3.call R4 hb5;obtain⟨p5,q5,r5,s5,f5⟩:=CS S5.h2;clear hb5;go_wp2_with fail;have R5:=Rows3.put S5 (.int .u64 a5) (.int .u64 b5) (.int .u64 c5) (.int .u64 d5);rw[Dg];go_wp2_with fail;refine(round_any _ _ _ _ _ _).mono ?_;rintro e w6⟨⟨a6,b6,c6,d6,rfl,H6⟩,hb6⟩;clear p5 q5 r5 s5 f5;have S6:=Rows3.call R5 hb6;obtain⟨p6,q6,r6,s6,f6⟩:=CS S6.h2;clear hb6;go_wp2_with fail;have R6:=Rows3.put S6 (.int .u64 a6) (.int .u64 b6) (.int .u64 c6) (.int .u64 d6);rw[Dg];go_wp2_with fail;refine(round_any _ _ _ _ _ _).mono ?_;rintro e w7⟨⟨a7,b7,c7,d7,rfl,H7⟩,hb7⟩;clear p6 q6 r6 s6 f6;have S7:=Rows3.call R6 hb7;obtain⟨p7,q7,r7,s7,f7⟩:=CS S7.h2;clear hb7;go_wp2_with fail;have R7:=Rows3.put S7 (.int .u64 a7) (.int .u64 b7) (.int .u64 c7) (.int .u64 d7);rw[Dg];go_wp2_with fail;refine(round_any _ _ _ _ _ _).mono ?_;rintro e w8⟨⟨a8,b8,c8,d8,rfl,H8⟩,hb8⟩;clear p7 q7 r7 s7 f7;have S8:=Rows3.call R7 hb8;obtain⟨p8,q8,r8,s8,f8⟩:=CS S8.h2;clear hb8;obtain⟨p9,q9,r9,s9,f9⟩:=CS S8.h4;go_wp2_with fail;rw[Exit.noGoto_ret];have T8:=Rows3.put S8 (.int .u64 a8) (.int .u64 b8) (.int .u64 c8) (.int .u64 d8);have hrow:=VX T8.h4 (.int .u64 a8) (.int .u64 b8) (.int .u64 c8) (.int .u64 d8);refine Ap (Ba results114 _ _ (w.heap.size+1+1) 113 #[.int .u64 a8, .int .u64 b8, .int .u64 c8, .int .u64 d8] (0,0) _ rfl hrow underlying113 rfl (by kernel_rfl)) rfl ?_;exact⟨⟨_,_,_,_,rfl,XX H1.out H2.out H3.out H4.out H5.out H6.out H7.out H8.out⟩,JQ T8.bel (by omega) _ _ _ _⟩
end Go.Proofs.YtalhnnjpjaeakaaGreat.Di
namespace Go.Proofs.YtalhnnjpjaeakaaGreat.Di
theorem ZG{s m s1 s2 s3:S4}(h1:s1=xor4 s m)(h2:s2=stir s1 m)(h3:s3=xor4 s2 s):s3=mix s m:=by
 rw[h3,h2,h1];rfl
theorem XaM{n:Nat}{w0 v:World}{a b c d x y z u:Value}{r4:Array Value}(h:Rows3 n w0 v #[a,b,c,d] #[x,y,z,u] r4):
 (v.cell? ⟨n,0,none⟩=some a/\v.cell? ⟨n,1,none⟩=some b/\v.cell? ⟨n,2,none⟩=some c/\v.cell? ⟨n,3,none⟩=some d/\v.cell? ⟨n+1,0,none⟩=some x/\v.cell? ⟨n+1,1,none⟩=some y/\v.cell? ⟨n+1,2,none⟩=some z/\v.cell? ⟨n+1,3,none⟩=some u)/\Rows3 n w0 v #[a,b,c,d] #[x,y,z,u] r4:=by
 obtain⟨p,q,r,s,_⟩:=CS h.h2;obtain⟨p',q',r',s',_⟩:=CS h.h3;exact⟨⟨p,q,r,s,p',q',r',s'⟩,h⟩
theorem Jv(a b c d x y z u:Int)(w:World):
 Calls prog 82 #[.agg #[.int .u64 a, .int .u64 b, .int .u64 c, .int .u64 d], .agg #[.int .u64 x, .int .u64 y, .int .u64 z, .int .u64 u]] w λe w'=>(∃a' b' c' d',e= .returned (.agg #[.int .u64 a', .int .u64 b', .int .u64 c', .int .u64 d'])/\Hid (S4.mk a' b' c' d'=mix ⟨a,b,c,d⟩ ⟨x,y,z,u⟩))/\Below w.heap.size w w':=by
 have R0:=Nm w #[.int .u64 a, .int .u64 b, .int .u64 c, .int .u64 d] #[.int .u64 x, .int .u64 y, .int .u64 z, .int .u64 u] #[.int .u64 0, .int .u64 0, .int .u64 0, .int .u64 0];have A0:=O0 w (.cells #[.int .u64 a, .int .u64 b, .int .u64 c, .int .u64 d] 113) (.cells #[.int .u64 x, .int .u64 y, .int .u64 z, .int .u64 u] 113) (.cells #[.int .u64 0, .int .u64 0, .int .u64 0, .int .u64 0] 113) (.cells #[.int .u64 0, .int .u64 0, .int .u64 0, .int .u64 0] 113);go_enter func82,ntmps82;go_wp2_with fail
 go_region_held3 (λv=>(v.cell? ⟨w.heap.size,0,none⟩=some (.int .u64 a)/\v.cell? ⟨w.heap.size,1,none⟩=some (.int .u64 b)/\v.cell? ⟨w.heap.size,2,none⟩=some (.int .u64 c)/\v.cell? ⟨w.heap.size,3,none⟩=some (.int .u64 d)/\v.cell? ⟨w.heap.size+1,0,none⟩=some (.int .u64 x)/\v.cell? ⟨w.heap.size+1,1,none⟩=some (.int .u64 y)/\v.cell? ⟨w.heap.size+1,2,none⟩=some (.int .u64 z)/\v.cell? ⟨w.heap.size+1,3,none⟩=some (.int .u64 u))/\Rows3 w.heap.size w v #[.int .u64 a, .int .u64 b, .int .u64 c, .int .u64 d] #[.int .u64 x, .int .u64 y, .int .u64 z, .int .u64 u] #[.int .u64 0, .int .u64 0, .int .u64 0, .int .u64 0])
  ((refine XaM ?_;first|exact R0.drew|(with_reducible assumption)|exact Rows3.alloc (And.right (by assumption)) _|exact Rows3.alloc (by assumption) _|exact(R0.alloc _).drew|exact Rows3.putAt (And.right (by assumption)) (by omega) _ _ _ _|exact Rows3.putAt (by assumption) (by omega) _ _ _ _))
  (first
  |(go_at_call 115;refine(SB _ _ _ _ _ _ _ _ _).mono ?_;rintro e w1⟨⟨a1,b1,c1,d1,rfl,H1⟩,hb1⟩;have S1:=Rows3.call (And.right (by assumption)) hb1;have z1:=S1.size;first|(have h5:=Below.row hb1 A0.out;clear hb1)|(clear hb1))
  |(go_at_call 114;refine(VY _ _ _ _ _ _ _ _ _).mono ?_;rintro e w2⟨⟨a2,b2,c2,d2,rfl,H2⟩,hb2⟩;have S2:=Rows3.call (And.right (by assumption)) hb2;have z2:=S2.size;first|(have h6:=Below.row hb2 h5;obtain⟨p2,q2,r2,s2,f2⟩:=CS h6;clear hb2)|(have h6:=Below.row hb2 (Ai w1 _);obtain⟨p2,q2,r2,s2,f2⟩:=CS h6;clear hb2)|(clear hb2)))
 all_goals
  go_wp2_with fail;refine(SB _ _ _ _ _ _ _ _ _).mono ?_;rintro e w3⟨⟨a3,b3,c3,d3,rfl,H3⟩,hb3⟩;have S3:=Rows3.call (And.right (by assumption)) hb3;obtain⟨p3,q3,r3,s3,f3⟩:=CS S3.h4;clear hb3;go_wp2_with fail;have hrow:=VX S3.h4 (.int .u64 a3) (.int .u64 b3) (.int .u64 c3) (.int .u64 d3);refine Ap (Ba results82 _ _ (w.heap.size+1+1) 113 #[.int .u64 a3, .int .u64 b3, .int .u64 c3, .int .u64 d3] (0,0) _ rfl hrow underlying113 rfl (by kernel_rfl)) rfl ?_;exact⟨⟨_,_,_,_,rfl,ZG H1.out H2.out H3.out⟩,JQ S3.bel (by omega) _ _ _ _⟩
end Go.Proofs.YtalhnnjpjaeakaaGreat.Di
namespace Go.Proofs.YtalhnnjpjaeakaaGreat.Di
def B8(bs:List Int):Array Value:=(bs.map (Value.int .u8)).toArray
theorem B8_size(bs:List Int):(B8 bs).size=bs.length:=by simp[B8]
theorem B8_get(bs:List Int)(k:Nat)(h:k<bs.length):(B8 bs)[k]?=some (.int .u8 (bs.getD k 0)):=by simp[B8,h]
theorem MJ{P:Program}(t e n:Nat)(k:IntKind)(hu:P.underlying t=some (.array n e))(hs:(P.info? e).map (·.size)=some 1)(ha:P.underlying e=some (.int k))(cs:Array Value)(i:Int)(v:Value)(h0:0<=i)(hn:i<n)(hv:cs[i.toNat]?=some v)(w:World):
 (Instr.index t (.agg cs) (.int .i64 i)).run P w= .ok v w:=by
 cases hq:P.info? e with
 |none=>simp[hq]at hs
 |some y=>
  have hy:y.size=1:=by simpa[hq]using hs
  simp[Instr.index,asIntOf,B7 hu,B7 ha,h0,hn,sizeOf,typeInfo,hq,hy,part,isAgg,hv]
def or8(m b:Int):Int:=wr (m*256+b)
def wstep(m:S4)(k:Nat)(b:Int):S4:=
 if k<8 then{m with a:=or8 m.a b}else if k<16 then{m with b:=or8 m.b b}else if k<24 then{m with c:=or8 m.c b}else{m with d:=or8 m.d b}
def wfold(bs:List Int):Nat->S4
 |0=>⟨0,0,0,0⟩
 |k+1=>wstep (wfold bs k) k (bs.getD k 0)
def words(bs:List Int):S4:=wfold bs 32
def V4(s:S4):Array Value:=#[.int .u64 s.a, .int .u64 s.b, .int .u64 s.c, .int .u64 s.d]
theorem KY(m b:Int)(h0:0<=b)(h1:b<256):bits BinOp.or IntKind.u64 (IntKind.u64.wrap (m*256)) b=or8 m b:=by
 have hw:∀n:Int,0<=n->n<2^64->IntKind.u64.wrap n=n:=λn a b=>by rw[C0];omega
 rw[C0];have e:=bits_join .u64 64 (by decide) hw 8 (m*256%18446744073709551616) b (by omega) (by omega) (by omega) h0 (by omega) (by omega);rw[e];unfold or8 wr;rw[C0];omega
structure Rows2(n:Nat)(w0 w:World)(r3 r4:Array Value):Prop where
 h3:w.heap[n+1]?=some (.cells r3 113)
 h4:w.heap[n+1+1]?=some (.cells r4 113)
 bel:Below n w0 w
theorem Rows2.put0{n:Nat}{w0 w:World}{x0 x1 x2 x3:Value}{r3:Array Value}(h:Rows2 n w0 w r3 #[x0,x1,x2,x3])(v:Value):Rows2 n w0 (w.setCell ⟨n+1+1,0,none⟩ v) r3 #[v,x1,x2,x3]:=
 ⟨(A8 _ _ _ _ (by simp)).trans h.h3,by simpa using AO w (n+1+1) 0 _ 113 v h.h4,h.bel.setCell (by simp;omega) _⟩
theorem Rows2.put1{n:Nat}{w0 w:World}{x0 x1 x2 x3:Value}{r3:Array Value}(h:Rows2 n w0 w r3 #[x0,x1,x2,x3])(v:Value):Rows2 n w0 (w.setCell ⟨n+1+1,1,none⟩ v) r3 #[x0,v,x2,x3]:=
 ⟨(A8 _ _ _ _ (by simp)).trans h.h3,by simpa using AO w (n+1+1) 1 _ 113 v h.h4,h.bel.setCell (by simp;omega) _⟩
theorem Rows2.put2{n:Nat}{w0 w:World}{x0 x1 x2 x3:Value}{r3:Array Value}(h:Rows2 n w0 w r3 #[x0,x1,x2,x3])(v:Value):Rows2 n w0 (w.setCell ⟨n+1+1,2,none⟩ v) r3 #[x0,x1,v,x3]:=
 ⟨(A8 _ _ _ _ (by simp)).trans h.h3,by simpa using AO w (n+1+1) 2 _ 113 v h.h4,h.bel.setCell (by simp;omega) _⟩
theorem Rows2.put3{n:Nat}{w0 w:World}{x0 x1 x2 x3:Value}{r3:Array Value}(h:Rows2 n w0 w r3 #[x0,x1,x2,x3])(v:Value):Rows2 n w0 (w.setCell ⟨n+1+1,3,none⟩ v) r3 #[x0,x1,x2,v]:=
 ⟨(A8 _ _ _ _ (by simp)).trans h.h3,by simpa using AO w (n+1+1) 3 _ 113 v h.h4,h.bel.setCell (by simp;omega) _⟩
theorem TU(w:World)(o:Obj)(B C:Array Value):Rows2 w.heap.size w (((w.alloc o).alloc (.cells B 113)).alloc (.cells C 113)) B C:=by
 have s1:(w.alloc o).heap.size=w.heap.size+1:=by simp
 have s2:((w.alloc o).alloc (.cells B 113)).heap.size=w.heap.size+1+1:=by simp
 have h2:=Ai (w.alloc o) (.cells B 113);have h3:=Ai ((w.alloc o).alloc (.cells B 113)) (.cells C 113);rw[s1]at h2;rw[s2]at h3;exact⟨by rw[Au _ _ _ (by omega)];exact h2,h3,(((Ak _ _).alloc (Aa _) _).alloc (by omega) _).alloc (by omega) _⟩
theorem getD_mem(bs:List Int)(k:Nat)(h:k<bs.length):bs.getD k 0∈bs:=by simp[List.getD,Ac h]
theorem QA(bs:List Int)(k:Nat)(m:S4)(b:Int)(h:wfold bs k=m)(hb:bs.getD k 0=b):wfold bs (k+1)=wstep m k b:=by rw[<-h,<-hb];rfl
theorem Gv(bs:List Int)(hn:bs.length=32)(hb:∀b∈bs,0<=b/\b<256)(w:World):
 Calls prog 83 #[.agg (B8 bs)] w λe w'=>(∃a' b' c' d',e= .returned (.agg #[.int .u64 a', .int .u64 b', .int .u64 c', .int .u64 d'])/\Hid (S4.mk a' b' c' d'=words bs))/\Below w.heap.size w w':=by
 have hrow:((((w.alloc (.cells (B8 bs) 48)).alloc (.cells #[.int .u64 0, .int .u64 0, .int .u64 0, .int .u64 0] 113)).alloc (.cells #[.int .u64 0, .int .u64 0, .int .u64 0, .int .u64 0] 113)).heap[w.heap.size]?)=some (.cells (B8 bs) 48 (0,0)):=by
  rw[Au _ _ _ (by simp;omega),Au _ _ _ (by simp)];exact Ai _ _
 have hin:(prog.info? 48).map (·.size)=some (B8 bs).size:=by rw[B8_size,hn];kernel_rfl
 have HR:=Xba hrow;clear hrow;have HI:=Xba hin;clear hin;go_enter func83,ntmps83;go_wp2_with (first|refine EA rfl 48 _ rfl _ rfl 48 _ _ _ HR.out underlying48 rfl HI.out ?_)
 go_loopw [7] (λi v=>∃k:Nat,k<=32/\i= .int .i64 k/\Rows2 w.heap.size w v #[.int .u64 0, .int .u64 0, .int .u64 0, .int .u64 0] (V4 (wfold bs k))) (λi _=>32-(intOf i).toNat)
 case atStart=>
  exact⟨0,by omega,rfl,TU w _ _ _⟩
 case round=>
  obtain⟨k,hk,rfl,R⟩:=hrel;by_cases hlt:k<32
  ·obtain⟨hb0,hb1⟩:0<=bs.getD k 0/\bs.getD k 0<256:=hb _ (getD_mem bs k (by omega));have hix:=λv=>MJ (P:=prog) 48 5 32 .u8 underlying48 (by kernel_rfl) underlying5 (B8 bs) (k:Int) _ (by omega) (by omega) (B8_get bs k (by omega)) v;have HB:Hid (bs.getD k 0=bs.getD k 0):=rfl;generalize hbk:bs.getD k 0=b at hb0 hb1 hix;generalize hm:wfold bs k=m at R;obtain⟨ma,mb,mc,md⟩:=m;have W1:=Xba (QA bs k _ b hm hbk);clear hm hbk HB;have R':Rows2 w.heap.size w _ _ #[.int .u64 ma, .int .u64 mb, .int .u64 mc, .int .u64 md]:=R;obtain⟨p,q,r,s,f⟩:=CS R'.h4;have hc:k<8∨(8<=k/\k<16)∨(16<=k/\k<24)∨24<=k:=(by omega);rcases hc with hc|hc|hc|hc
   ·have hq:(k:Int)/8=0:=(by omega);go_wp2;refine⟨⟨k+1,by omega,by go_num,?_⟩,by simp[intOf];omega⟩;rw[W1.out,KY _ _ hb0 hb1];simpa[wstep,hc,V4]using R'.put0 (.int .u64 (or8 ma b))
   ·have hq:(k:Int)/8=1:=(by omega);go_wp2;refine⟨⟨k+1,by omega,by go_num,?_⟩,by simp[intOf];omega⟩;rw[W1.out,KY _ _ hb0 hb1];simpa[wstep,show¬k<8 from by omega,show k<16 from by omega,V4]using R'.put1 (.int .u64 (or8 mb b))
   ·have hq:(k:Int)/8=2:=(by omega);go_wp2;refine⟨⟨k+1,by omega,by go_num,?_⟩,by simp[intOf];omega⟩;rw[W1.out,KY _ _ hb0 hb1];simpa[wstep,show¬k<8 from by omega,show¬k<16 from by omega,show k<24 from by omega,V4]using R'.put2 (.int .u64 (or8 mc b))
   ·have hq:(k:Int)/8=3:=(by omega);go_wp2;refine⟨⟨k+1,by omega,by go_num,?_⟩,by simp[intOf];omega⟩;rw[W1.out,KY _ _ hb0 hb1];simpa[wstep,show¬k<8 from by omega,show¬k<16 from by omega,show¬k<24 from by omega,V4]using R'.put3 (.int .u64 (or8 md b))
  ·have hk2:k=32:=(by omega);subst hk2;generalize hm:wfold bs 32=m at R;obtain⟨ma,mb,mc,md⟩:=m;have W1:=Xba hm;clear hm;have R':Rows2 w.heap.size w _ _ #[.int .u64 ma, .int .u64 mb, .int .u64 mc, .int .u64 md]:=R;obtain⟨p,q,r,s,f⟩:=CS R'.h4;obtain⟨p3,q3,r3,s3,f3⟩:=CS R'.h3;go_wp2;have hrow:=VX R'.h3 (.int .u64 ma) (.int .u64 mb) (.int .u64 mc) (.int .u64 md);refine Ap (Ba results83 _ _ (w.heap.size+1) 113 #[.int .u64 ma, .int .u64 mb, .int .u64 mc, .int .u64 md] (0,0) _ rfl hrow underlying113 rfl (by kernel_rfl)) rfl ?_;exact⟨⟨_,_,_,_,rfl,W1.out.symm⟩,JQ R'.bel (by omega) _ _ _ _⟩
end Go.Proofs.YtalhnnjpjaeakaaGreat.Di
namespace Go.Proofs.YtalhnnjpjaeakaaGreat.Di
structure Tri(n:Nat)(w0 w:World)(A B C:Obj):Prop where
 hA:w.heap[n]?=some A
 hB:w.heap[n+1]?=some B
 hC:w.heap[n+1+1]?=some C
 bel:Below n w0 w
theorem XY(w:World)(A B C:Obj):Tri w.heap.size w (((w.alloc A).alloc B).alloc C) A B C:=by
 have s1:(w.alloc A).heap.size=w.heap.size+1:=by simp
 have s2:((w.alloc A).alloc B).heap.size=w.heap.size+1+1:=by simp
 have h1:=Ai w A;have h2:=Ai (w.alloc A) B;have h3:=Ai ((w.alloc A).alloc B) C;rw[s1]at h2;rw[s2]at h3
 exact⟨by rw[Au _ _ _ (by omega),Au _ _ _ (by omega)];exact h1,by rw[Au _ _ _ (by omega)];exact h2,h3,
  (((Ak _ _).alloc (Aa _) _).alloc (by omega) _).alloc (by omega) _⟩
theorem QB(ds:List Int)(k:Nat)(x:Int):(B8 ds).setIfInBounds k (.int .u8 x)=B8 (ds.set k x):=by
 unfold B8;simp[List.map_set]
theorem Tri.setC{n:Nat}{w0 w:World}{A B:Obj}{ds:List Int}{t:Nat}(h:Tri n w0 w A B (.cells (B8 ds) t))(k:Nat)(x:Int):Tri n w0 (w.setCell ⟨n+1+1,k,none⟩ (.int .u8 x)) A B (.cells (B8 (ds.set k x)) t):=
 ⟨(A8 _ _ _ _ (by simp;omega)).trans h.hA,(A8 _ _ _ _ (by simp)).trans h.hB,by rw[AO w (n+1+1) k _ t _ h.hC,QB],h.bel.setCell (by simp;omega) _⟩
theorem O1{w:World}{g t:Nat}{ds:List Int}(h:w.heap[g]?=some (.cells (B8 ds) t))(k:Nat)(hk:k<ds.length):w.cell? ⟨g,k,none⟩=some (.int .u8 (ds.getD k 0)):=by
 rw[Ae w g k _ _ _ h,B8_get ds k hk]
def sel(s:S4)(k:Nat):Int:=if k<8 then s.a else if k<16 then s.b else if k<24 then s.c else s.d
def bt(x:Int)(k:Nat):Int:=x/2^(56-8*(k%8))%256
def digk(s:S4)(k:Nat):List Int:=(List.range 32).map (λi=>if i<k then bt (sel s i) i else 0)
def dig(s:S4):List Int:=(List.range 32).map (λi=>bt (sel s i) i)
theorem Px(s:S4):digk s 32=dig s:=by
 unfold digk dig;refine List.map_congr_left λi hi=>?_;rw[Af (by simpa using hi)]
theorem Kx(s:S4)(k:Nat):(digk s k).length=32:=by simp[digk]
theorem EM(s:S4)(k:Nat):(digk s k).set k (bt (sel s k) k)=digk s (k+1):=by
 apply List.ext_getElem
 ·simp[digk]
 ·intro i h1 h2;simp[digk,List.getElem_set];by_cases e:k=i
  ·subst e;simp
  ·simp[e];by_cases e2:i<k
   ·simp[e2,Nat.lt_succ_of_lt e2]
   ·rw[Ad e2,Ad (by omega)]
theorem B8_one(bs:List Int):(B8 bs).all (·.oneCell')=true:=by
 simp[B8,Value.oneCell']
theorem Below.setRow{B:Nat}{w0 w:World}{g:Nat}(h:Below B w0 w)(hg:B<=g)(cs:Array Value):Below B w0 (w.setRow g cs):=
 h.trans ⟨rfl,rfl,rfl,by simp,λk hk=>AX w g k cs (by omega)⟩
theorem No(a b c d:Int)(w:World):
 Calls prog 84 #[.agg #[.int .u64 a, .int .u64 b, .int .u64 c, .int .u64 d]] w λe w'=>e= .returned (.agg (B8 (dig ⟨a,b,c,d⟩)))/\Below w.heap.size w w':=by
 go_enter func84,ntmps84;go_wp2_with fail
 go_loopw [5] (λi v=>∃k:Nat,k<=32/\i= .int .i64 k/\Tri w.heap.size w v (.cells #[.int .u64 a, .int .u64 b, .int .u64 c, .int .u64 d] 113) (.cells (B8 (List.replicate 32 0)) 49) (.cells (B8 (digk ⟨a,b,c,d⟩ k)) 49)) (λi _=>32-(intOf i).toNat)
 case atStart=>
  exact⟨0,by omega,rfl,XY w _ _ _⟩
 case round=>
  obtain⟨k,hk,rfl,R⟩:=hrel;by_cases hlt:k<32
  ·obtain⟨p,q,r,s,f⟩:=CS R.hA;have hcell:=O1 R.hC k (by rw[Kx];omega);have hfr:=AL _ _ k _ _ R.hC;have hc:k<8∨(8<=k/\k<16)∨(16<=k/\k<24)∨24<=k:=(by omega);generalize (digk ⟨a,b,c,d⟩ k).getD k 0=y at hcell;rcases hc with hc|hc|hc|hc
   ·have hq:(k:Int)/8=0:=(by omega);go_wp2;refine⟨⟨k+1,by omega,by go_num,?_⟩,by simp[intOf];omega⟩;have e:sel ⟨a,b,c,d⟩ k=a:=(by simp[sel,hc]);have T:=R.setC k (bt (sel ⟨a,b,c,d⟩ k) k);rw[EM,e]at T;exact T
   ·have hq:(k:Int)/8=1:=(by omega);go_wp2;refine⟨⟨k+1,by omega,by go_num,?_⟩,by simp[intOf];omega⟩;have e:sel ⟨a,b,c,d⟩ k=b:=(by simp[sel,show¬k<8 from by omega,show k<16 from by omega]);have T:=R.setC k (bt (sel ⟨a,b,c,d⟩ k) k);rw[EM,e]at T;exact T
   ·have hq:(k:Int)/8=2:=(by omega);go_wp2;refine⟨⟨k+1,by omega,by go_num,?_⟩,by simp[intOf];omega⟩;have e:sel ⟨a,b,c,d⟩ k=c:=(by simp[sel,show¬k<8 from by omega,show¬k<16 from by omega,show k<24 from by omega]);have T:=R.setC k (bt (sel ⟨a,b,c,d⟩ k) k);rw[EM,e]at T;exact T
   ·have hq:(k:Int)/8=3:=(by omega);go_wp2;refine⟨⟨k+1,by omega,by go_num,?_⟩,by simp[intOf];omega⟩;have e:sel ⟨a,b,c,d⟩ k=d:=(by simp[sel,show¬k<8 from by omega,show¬k<16 from by omega,show¬k<24 from by omega]);have T:=R.setC k (bt (sel ⟨a,b,c,d⟩ k) k);rw[EM,e]at T;exact T
  ·have hk2:k=32:=(by omega);subst hk2;rw[Px]at R;have hin:(prog.info? 49).map (·.size)=some (B8 (dig ⟨a,b,c,d⟩)).size:=(by rw[B8_size];kernel_rfl);have HI:=Xba hin;clear hin;have HC:=Xba R.hC;have HBr:=Xba R.hB;go_wp2_with (first|refine EA rfl 49 _ rfl _ rfl 49 _ _ _ HC.out underlying49 rfl HI.out ?_|refine A4 rfl 49 _ _ rfl _ (B8 (dig ⟨a,b,c,d⟩)) rfl rfl 49 _ HBr.out HI.out (by simp[B8_size,dig]) (B8_one _) ?_);refine Ap (Ba results84 _ _ (w.heap.size+1) 49 (B8 (dig ⟨a,b,c,d⟩)) (0,0) _ rfl (AA _ _ _ _ _ _ HBr.out) underlying49 rfl HI.out) rfl ?_;exact⟨rfl,Below.setRow R.bel (by omega) _⟩
end Go.Proofs.YtalhnnjpjaeakaaGreat.Di
namespace Go.Proofs.YtalhnnjpjaeakaaGreat.Di
def HC(s:S4)(tl:List Int)(n:Nat):Array Value:=(#[Value.int .u64 s.a,Value.int .u64 s.b,Value.int .u64 s.c,Value.int .u64 s.d]++B8 tl).push (.int .i64 n)
theorem O2(s:S4)(tl:List Int)(n:Nat):(HC s tl n).size=tl.length+5:=by simp[HC,B8_size];omega
theorem SC(s:S4)(tl:List Int)(n:Nat)(k:Nat)(h:k<tl.length):(HC s tl n)[4+k]?=some (.int .u8 (tl.getD k 0)):=by
 unfold HC;rw[Array.getElem?_push_lt (by simp[B8_size];omega),Array.getElem_append_right (by simp)];have:=B8_get tl k h;simp[BF]at this;obtain⟨_,e⟩:=this;simp[e]
theorem VZ(s:S4)(tl:List Int)(n:Nat):(HC s tl n)[0]?=some (.int .u64 s.a)/\(HC s tl n)[1]?=some (.int .u64 s.b)/\(HC s tl n)[2]?=some (.int .u64 s.c)/\(HC s tl n)[3]?=some (.int .u64 s.d):=by
 unfold HC;refine⟨?_,?_,?_,?_⟩<;>(rw[Array.getElem?_push_lt (by simp[B8_size];omega),Array.getElem_append_left (by simp)];simp)
theorem Wa(s:S4)(tl:List Int)(n:Nat)(h:tl.length=32):(HC s tl n)[36]?=some (.int .i64 n):=by
 unfold HC;rw[Array.getElem?_push,Af (by simp[B8_size,h])]
theorem Ft{w:World}{g:Nat}{a b c d:Int}{tl:List Int}{n:Nat}(h:w.heap[g]?=some (.cells (HC ⟨a,b,c,d⟩ tl n) 116))(hl:tl.length=32):
 w.cell? ⟨g,0,none⟩=some (.int .u64 a)/\w.cell? ⟨g,1,none⟩=some (.int .u64 b)/\w.cell? ⟨g,2,none⟩=some (.int .u64 c)/\w.cell? ⟨g,3,none⟩=some (.int .u64 d)/\w.cell? ⟨g,36,none⟩=some (.int .i64 n)/\(∀o,w.frozen? ⟨g,o,none⟩=false):=by
 obtain⟨e0,e1,e2,e3⟩:=VZ ⟨a,b,c,d⟩ tl n;have e4:=Wa ⟨a,b,c,d⟩ tl n hl;exact⟨by rw[Ae w g _ _ _ _ h,e0],by rw[Ae w g _ _ _ _ h,e1],by rw[Ae w g _ _ _ _ h,e2],by rw[Ae w g _ _ _ _ h,e3],by rw[Ae w g _ _ _ _ h,e4],λo=>AL w g o _ _ h⟩
theorem Xa0{w:World}{g:Nat}{s:S4}{tl:List Int}{n:Nat}(h:w.heap[g]?=some (.cells (HC s tl n) 116))(f:Nat)(hf:f<=tl.length):
 ∀j v,((tl.take f).map (Value.int .u8))[j]?=some v->w.cell? ((⟨g,4,none⟩:Addr).add j)=some v:=by
 intro j v hv;have hadd:(⟨g,4,none⟩:Addr).add j=⟨g,4+j,none⟩:=by unfold Addr.add;split<;>simp_all
 have hj:j<f:=by
  have:=(Aw.1 hv).1;simp at this;omega
 rw[hadd,Ae w g _ _ _ _ h,SC s tl n j (by omega),<-hv];simp[hj,Ac (show j<tl.length by omega)]
theorem Il{V:World}{p q:World->Prop}(F:q V)(h:∀v,q v->p v):p V:=h V F
theorem step_copy{P:Program}{ops:Array Oper}{o:Oper}{a:Act}{w:World}{K:Act->World->Prop}{Q:Exit->Act->World->Prop}{E:Prop}
 (hg:o.guard=none) (d x:Operand) (dT sT:TypeId) (X5:o.op=Op.call {callee:=Callee.builtin Builtin.copy,args:=#[d,x],argTypes:=#[dT,sT]})
 (v u:Value) (hd:a.eval d=v) (hx:a.eval x=u) {v':Value} {w':World} (hr:(Builtin.copy_ #[dT,sT] o.type #[v,u]).run P w= .ok v' w') (hK:K (a.put o.dst v') w'):
 if Region.wanted o (yielded ops a.tmps)=true then Oper.wp P o a w K Q else E:=by
 have hw:Region.wanted o (yielded ops a.tmps)=true:=by simp[Region.wanted,hg]
 rw[Af hw];unfold Oper.wp;simp[execOp,X5,resolve,invoke,builtin,hd,hx,hr,Result.andThen];exact hK
theorem O3(bs:List Int):∀v∈bs.map (Value.int .u8),v.oneCell'=true:=by
 intro v hv;obtain⟨x,_,rfl⟩:=BE.1 hv;rfl
theorem XZ{w:World}{N t o dl dc sl sc:Nat}{ad:Addr}{ds xs:List Int}(hN:w.heap[N]?=some (.cells (B8 ds) t))(hn:xs.length=Nat.min sl dl)(hfit:o+xs.length<=ds.length)
 (hsrc:∀j v,(xs.map (Value.int .u8))[j]?=some v->w.cell? (ad.add j)=some v) (ty:TypeId):
 (Builtin.copy_ #[27,27] ty #[.slice (some ⟨N,o,none⟩) dl dc, .slice (some ad) sl sc]).run prog w= .ok (.int .i64 xs.length) (w.setRow N (B8 (ds.take o++xs++ds.drop (o+xs.length)))):=by
 have h:=run_copy_row prog w 27 27 ty 5 N o dl dc ad sl sc (B8 ds) t (xs.map (Value.int .u8)) underlying27 (by kernel_rfl) hN (by simpa using hn) hsrc (by simpa[B8_size]using hfit) (O3 _);rw[h];simp[goInt,B8]
theorem Wb{w:World}{g N:Nat}{s:S4}{tl:List Int}{n f:Nat}(hg:w.heap[g]?=some (.cells (HC s tl n) 116))(hl:tl.length=32)(hf:f<=32)(hN:w.heap[N]?=some (.cells (B8 (List.replicate 32 0)) 48))(ty:TypeId):
 (Builtin.copy_ #[27,27] ty #[.slice (some ⟨N,0,none⟩) 32 32, .slice (some ⟨g,4,none⟩) f 32]).run prog w= .ok (.int .i64 f) (w.setRow N (B8 (tl.take f++List.replicate (32-f) 0))):=by
 have e:(tl.take f).length=f:=by rw[Ao];omega
 have h:=XZ (o:=0) (dl:=32) (dc:=32) (sl:=f) (sc:=32) (xs:=tl.take f) hN (by rw[e];exact(CN hf).symm) (by rw[e,Bj];omega) (Xa0 hg f (by omega)) ty;rw[h,e];simp only[BD,A6,AD,List.drop_replicate]
structure SW(g N:Nat)(w0 w:World)(H Z L:Obj):Prop where
 hg:w.heap[g]?=some H
 h0:w.heap[N]?=some Z
 h1:w.heap[N+1]?=some L
 bel:Below N w0 w
 sz:w.heap.size=N+1+1
theorem ZH{w:World}{g:Nat}{H:Obj}(hg:w.heap[g]?=some H)(Z L:Obj):SW g w.heap.size w ((w.alloc Z).alloc L) H Z L:=by
 have s1:(w.alloc Z).heap.size=w.heap.size+1:=by simp
 have h1:=Ai w Z;have h2:=Ai (w.alloc Z) L;rw[s1]at h2;have l:=lt_of_get hg;exact⟨by rw[Au _ _ _ (by omega),Au _ _ _ (by omega)];exact hg,by rw[Au _ _ _ (by omega)];exact h1,h2,((Ak _ _).alloc (Aa _) _).alloc (by omega) _,by simp⟩
theorem SW.setL{g N:Nat}{w0 w:World}{H Z:Obj}{L L':Array Value}{t:Nat}(h:SW g N w0 w H Z (.cells L t))(hgN:g<N):SW g N w0 (w.setRow (N+1) L') H Z (.cells L' t):=
 ⟨(AX _ _ _ _ (by omega)).trans h.hg,(AX _ _ _ _ (by omega)).trans h.h0,AA _ _ _ _ _ _ h.h1,Below.setRow h.bel (by omega) _,by simpa using h.sz⟩
theorem SW.drew{g N:Nat}{w0 w:World}{H Z L:Obj}(h:SW g N w0 w H Z L):SW g N w0 w.drew H Z L:=⟨h.hg,h.h0,h.h1,h.bel.drew,h.sz⟩
structure S5(g N:Nat)(w0 w:World)(H Z L S:Obj):Prop where
 hg:w.heap[g]?=some H
 h0:w.heap[N]?=some Z
 h1:w.heap[N+1]?=some L
 h2:w.heap[N+1+1]?=some S
 bel:Below N w0 w
 gN:g<N
theorem SW.next{g N:Nat}{w0 w:World}{H Z:Obj}{ds:List Int}{t:Nat}(h:SW g N w0 w H Z (.cells (B8 ds) t))(hgN:g<N)(f:Nat)(x:Int)(S:Obj):
 S5 g N w0 ((w.setCell ⟨N+1,f,none⟩ (.int .u8 x)).alloc S) H Z (.cells (B8 (ds.set f x)) t) S:=by
 have sz:(w.setCell ⟨N+1,f,none⟩ (.int .u8 x)).heap.size=N+1+1:=by simpa using h.sz
 have h2:=Ai (w.setCell ⟨N+1,f,none⟩ (.int .u8 x)) S;rw[sz]at h2;refine⟨?_,?_,?_,h2,(h.bel.setCell (by simp) _).alloc (by omega) _,hgN⟩
 ·rw[Au _ _ _ (by omega),A8 _ _ _ _ (by simp;omega)];exact h.hg
 ·rw[Au _ _ _ (by omega),A8 _ _ _ _ (by simp)];exact h.h0
 ·rw[Au _ _ _ (by omega),AO w (N+1) f _ t _ h.h1,QB]
theorem S5.call{g N:Nat}{w0 v w1:World}{H Z L S:Obj}(h:S5 g N w0 v H Z L S)(hb:Below v.heap.size v w1):S5 g N w0 w1 H Z L S:=by
 have l:=lt_of_get h.h2;have:=h.gN;exact⟨(hb.block _ (by omega)).trans h.hg,(hb.block _ (by omega)).trans h.h0,(hb.block _ (by omega)).trans h.h1,(hb.block _ (by omega)).trans h.h2,h.bel.trans (hb.mono (by omega)),h.gN⟩
theorem S5.alloc{g N:Nat}{w0 v:World}{H Z L S:Obj}(h:S5 g N w0 v H Z L S)(o:Obj):S5 g N w0 (v.alloc o) H Z L S:=by
 have l:=lt_of_get h.h2;have:=h.gN;exact⟨(Au _ _ _ (by omega)).trans h.hg,(Au _ _ _ (by omega)).trans h.h0,(Au _ _ _ (by omega)).trans h.h1,(Au _ _ _ (by omega)).trans h.h2,h.bel.alloc (by omega) _,h.gN⟩
theorem S5.sizes{g N:Nat}{w0 v:World}{H Z L S:Obj}(h:S5 g N w0 v H Z L S):g<v.heap.size/\N<v.heap.size/\N+1<v.heap.size/\N+1+1<v.heap.size:=by
 have l:=lt_of_get h.h2;have:=h.gN;omega
theorem S5.drew{g N:Nat}{w0 w:World}{H Z L S:Obj}(h:S5 g N w0 w H Z L S):S5 g N w0 w.drew H Z L S:=⟨h.hg,h.h0,h.h1,h.h2,h.bel.drew,h.gN⟩
theorem S5.setS{g N:Nat}{w0 w:World}{H Z L:Obj}{x0 x1 x2 x3:Value}(h:S5 g N w0 w H Z L (.cells #[x0,x1,x2,x3] 113))(a b c d:Value):
 S5 g N w0 ((((w.setCell ⟨N+1+1,0,none⟩ a).setCell ⟨N+1+1,1,none⟩ b).setCell ⟨N+1+1,2,none⟩ c).setCell ⟨N+1+1,3,none⟩ d) H Z L (.cells #[a,b,c,d] 113):=by
 have:=h.gN;exact⟨(GB (by omega) a b c d).trans h.hg,(GB (by omega) a b c d).trans h.h0,(GB (by omega) a b c d).trans h.h1,VX h.h2 a b c d,JQ h.bel (by omega) a b c d,h.gN⟩
theorem S5.setL{g N:Nat}{w0 w:World}{H Z S:Obj}{L L':Array Value}{t:Nat}(h:S5 g N w0 w H Z (.cells L t) S):S5 g N w0 (w.setRow (N+1) L') H Z (.cells L' t) S:=by
 have:=h.gN;exact⟨(AX _ _ _ _ (by omega)).trans h.hg,(AX _ _ _ _ (by omega)).trans h.h0,AA _ _ _ _ _ _ h.h1,(AX _ _ _ _ (by omega)).trans h.h2,Below.setRow h.bel (by omega) _,h.gN⟩
def load23V(v:Value):Sem Value:=Instr.loadAt 48 v
theorem Ky(v:Value):Instr.loadAt 48 v=load23V v:=rfl
theorem QC{w:World}{N t:Nat}{ls:List Int}(h:w.heap[N]?=some (.cells (B8 ls) t))(hl:ls.length=32):(load23V (.pointer (some ⟨N,0,none⟩))).run prog w= .ok (.agg (B8 ls)) w:=by
 have hs:(prog.info? 48).map (·.size)=some (B8 ls).size:=by rw[B8_size,hl];kernel_rfl
 simp only[load23V,Instr.loadAt,Instr.sureAddr,Bm,Bp,AH,CR w N t 48 (B8 ls) (0,0) _ h underlying48 rfl hs]
attribute [local go_sem ↓] Ky Go.wp_at_zero Go.wp_at_succ
theorem Kz:∀x∈List.replicate 32 (0:Int),0<=x/\x<256:=by
 intro x hx;rw[(CY.1 hx).2];omega
theorem Py{tl:List Int}(h:∀x∈tl,0<=x/\x<256){f:Nat}:∀x∈(List.take f tl++List.replicate (32-f) 0).set f 128,0<=x/\x<256:=by
 intro x hx;rcases List.mem_or_eq_of_mem_set hx with hx|hx
 ·rcases AM.1 hx with hx|hx
  ·exact h x (Bi hx)
  ·rw[(CY.1 hx).2];omega
 ·omega
def lastOf(f:Nat)(tl:List Int):List Int:=(List.take f tl++List.replicate (32-f) 0).set f 128
def finS(s:S4)(tl:List Int)(n:Nat):S4:=
 if n%32<24 then mix s {words (lastOf (n%32) tl)with d:=n}else mix (mix s (words (lastOf (n%32) tl))) {words (List.replicate 32 0)with d:=n}
theorem QD{s:S4}{tl ls:List Int}{n f:Nat}{ma mb mc md a b c d:Int}(hf:n%32=f)(h:f<24)(hl:ls=lastOf f tl)(hm:S4.mk ma mb mc md=words ls)(hx:S4.mk a b c d=mix s ⟨ma,mb,mc,n⟩):S4.mk a b c d=finS s tl n:=by
 unfold finS;rw[hf,Af h,<-hl,<-hm,hx]
theorem TV{s s':S4}{tl ls:List Int}{n f:Nat}{ma mb mc md a b c d:Int}(hf:n%32=f)(h:¬f<24)(hl:ls=lastOf f tl)(hs:s'=mix s (words ls))(hm:S4.mk ma mb mc md=words (List.replicate 32 0))(hx:S4.mk a b c d=mix s' ⟨ma,mb,mc,n⟩):S4.mk a b c d=finS s tl n:=by
 unfold finS;rw[hf,Ad h,<-hl,<-hm,hx,hs]
theorem Yb(f:Nat)(tl:List Int):(List.take f tl++List.replicate (32-f) 0).set f 128=lastOf f tl:=rfl
theorem Yd(g:Nat)(a b c d:Int)(tl:List Int)(n:Nat)(hl:tl.length=32)(htl:∀x∈tl,0<=x/\x<256)(hn:n<9223372036854775808)(w:World)(hg:w.heap[g]?=some (.cells (HC ⟨a,b,c,d⟩ tl n) 116)):
 Calls prog 58 #[.pointer (some ⟨g,0,none⟩)] w λe w'=>e= .returned (.agg (B8 (dig (finS ⟨a,b,c,d⟩ tl n))))/\Below w.heap.size w w':=by
 obtain⟨c0,c1,c2,c3,c36,cf⟩:=Ft hg hl;have hlt:=lt_of_get hg;have F0:=ZH hg (.cells (B8 (List.replicate 32 0)) 49) (.cells (B8 (List.replicate 32 0)) 48);have hl':=Xba hl;clear hg hl;go_enter func58,ntmps58;go_wp2_with fail;obtain⟨f,hf⟩:∃f:Nat,n%32=f:=⟨_,rfl⟩;rw[show((n:Int)%32)=(f:Int)from by omega];have hf32:f<32:=by omega
 have hfi:(f:Int)<32:=by omega
 have hfj:(f:Int)<=32:=by omega
 have HF:=Xba hf;clear hf;refine Il (p:=λv=>Code.wp _ _ _ _ v) (q:=λv=>SW g w.heap.size w v (.cells (HC ⟨a,b,c,d⟩ tl n) 116) (.cells (B8 (List.replicate 32 0)) 49) (.cells (B8 (List.replicate 32 0)) 48)) F0 ?_;clear F0;intro v F1
 go_region_law (refine step_copy rfl _ _ _ _ rfl _ _ rfl rfl (Wb (f:=f) F1.drew.hg hl'.out (by omega) F1.drew.h1 _) ?_)
 refine Il (p:=λv=>Exit.then _ _ _ _ v) (q:=λv=>SW g w.heap.size w v (.cells (HC ⟨a,b,c,d⟩ tl n) 116) (.cells (B8 (List.replicate 32 0)) 49) (.cells (B8 (tl.take f++List.replicate (32-f) 0)) 48)) (F1.drew.setL hlt) ?_;clear F1;intro v F1;have hcell:=O1 F1.h1 f (by simp[hl'.out];omega);have hfr:=AL _ _ f _ _ F1.h1;generalize (List.take f tl++List.replicate (32-f) 0).getD f 0=y at hcell;clear c0 c1 c2 c3 c36 cf;obtain⟨c0,c1,c2,c3,c36,cf⟩:=Ft F1.hg hl'.out;have hne:¬w.heap.size+1=g:=by omega
 have hsz:=F1.sz;have F2:=F1.next hlt f 128 (.cells #[.int .u64 a, .int .u64 b, .int .u64 c, .int .u64 d] 113);clear F1;have hls:((List.take f tl++List.replicate (32-f) 0).set f 128).length=32:=by simp[hl'.out];omega
 have HB:=Xba (Py htl (f:=f));have HW:=Xba (Yb f tl);generalize (List.take f tl++List.replicate (32-f) 0).set f 128=ls at F2 hls HB HW;have HI:Hid ((prog.info? 48).map (·.size)=some (B8 ls).size):=by unfold Hid;rw[B8_size,hls];kernel_rfl
 have Hls:=Xba hls;clear hls;by_cases hge:f<24
 ·have hgi:¬(24:Int)<=f:=by omega
  go_wp2_with (first|refine EA rfl 48 _ rfl _ rfl 48 _ _ _ F2.h1 underlying48 rfl HI.out ?_);clear c0 c1 c2 c3 c36 cf hcell hfr;refine(Gv ls Hls.out HB.out _).mono ?_;rintro e w6⟨⟨ma,mb,mc,md,rfl,H6⟩,hb6⟩;have F3:=F2.call hb6;clear hb6 F2;obtain⟨c0,c1,c2,c3,c36,cf⟩:=Ft F3.hg hl'.out;obtain⟨p0,p1,p2,p3,pf⟩:=CS F3.h2;obtain⟨z0,z1,z2,z3⟩:=F3.sizes;go_wp2_with fail;refine(Jv _ _ _ _ _ _ _ _ _).mono ?_;rintro e w7⟨⟨a7,b7,c7,d7,rfl,H7⟩,hb7⟩;have F4:=(F3.alloc _).call hb7;clear hb7 F3 c0 c1 c2 c3 c36 cf p0 p1 p2 p3 pf;go_wp2_with fail;refine(No _ _ _ _ _).mono ?_;rintro e w8⟨rfl,hb8⟩;have F5:=F4.call hb8;clear hb8 F4;have HX:=Xba (QD HF.out hge HW.out H6.out H7.out);rw[HX.out];have HI2:Hid ((prog.info? 49).map (·.size)=some (B8 (dig (finS ⟨a,b,c,d⟩ tl n))).size):=by unfold Hid;rw[B8_size];kernel_rfl
  have hdl:(dig (finS ⟨a,b,c,d⟩ tl n)).length=32:=by simp[dig]
  generalize hds:dig (finS ⟨a,b,c,d⟩ tl n)=ds at HI2 hdl⊢;have HD:=Xba hds;clear hds;go_wp2_with (first|refine A4 rfl 49 _ _ rfl _ (B8 ds) rfl rfl 49 _ F5.h0 HI2.out (by rw[B8_size,B8_size,hdl,Bj]) (B8_one _) ?_);refine Ap (Ba results58 _ _ w.heap.size 49 (B8 ds) (0,0) _ rfl (AA _ _ _ _ _ _ F5.h0) underlying49 rfl HI2.out) rfl ?_;exact⟨by rw[HD.out],Below.setRow F5.bel (by omega) _⟩
 ·have hgi:(24:Int)<=f:=by omega
  have hu:=underlying48;have hi:(prog.info? 48).map (·.size)=some (ls.map (Value.int .u8)).length:=by rw[AY,Hls.out];kernel_rfl
  have hll:(ls.map (Value.int .u8)).length=32:=by rw[AY,Hls.out]
  have hoo:=O3 ls;go_wp2_with fail;refine Il (p:=λv=>Code.wp _ _ _ _ v) (q:=λv=>S5 g w.heap.size w v _ _ _ _) F2 ?_;clear F2 c0 c1 c2 c3 c36 cf hcell hfr hsz hne v;intro v F2;obtain⟨q0,q1,q2,q3,qf⟩:=CS F2.h2;have n1:=QC (w:=v.drew) F2.h1 Hls.out;clear hu hi hll hoo
  go_region_with (first
   |(go_at_call 83;refine(Gv ls Hls.out HB.out _).mono ?_;rintro e w6⟨⟨ma,mb,mc,md,rfl,H6⟩,hb6⟩;have F3:=F2.drew.call hb6;clear hb6;obtain⟨q0,q1,q2,q3,qf⟩:=CS F3.h2)
   |(go_at_call 82;refine(Jv _ _ _ _ _ _ _ _ _).mono ?_;rintro e w7⟨⟨a7,b7,c7,d7,rfl,H7⟩,hb7⟩;have F4:=F3.call hb7;clear hb7;obtain⟨q0,q1,q2,q3,qf⟩:=CS F4.h2))
  all_goals
   refine Il (p:=λv=>Exit.then _ _ _ _ v) (q:=λv=>S5 g w.heap.size w v (.cells (HC ⟨a,b,c,d⟩ tl n) 116) (.cells (B8 (List.replicate 32 0)) 49) (.cells (B8 ls) 48) (.cells #[.int .u64 a7, .int .u64 b7, .int .u64 c7, .int .u64 d7] 113)) (F4.setS _ _ _ _) ?_;have H7':=Xba (H7.out.trans (Av (mix ⟨a,b,c,d⟩) H6.out));clear n1 q0 q1 q2 q3 qf F4 F3 F2 H7 H6;intro v5 F5;have F6:=S5.setL (L':=B8 (List.replicate 32 0)) F5;have HIz:Hid ((prog.info? 48).map (·.size)=some (B8 (List.replicate 32 0)).size):=(by unfold Hid;rw[B8_size];kernel_rfl);have HSz:Hid ((B8 ls).size=(B8 (List.replicate 32 0)).size):=(by unfold Hid;rw[B8_size,B8_size,Hls.out,Bj]);go_wp2_with (first|refine A4 rfl 48 _ _ rfl _ (B8 (List.replicate 32 0)) rfl rfl 48 _ F5.h1 HIz.out HSz.out (B8_one _) ?_|refine EA rfl 48 _ rfl _ rfl 48 _ _ _ F6.h1 underlying48 rfl HIz.out ?_);refine(Gv (List.replicate 32 0) Bj Kz _).mono ?_;rintro e w6⟨⟨ma,mb,mc,md,rfl,H6⟩,hb6⟩;have F7:=F6.call hb6;clear hb6 F5 F6;obtain⟨c0,c1,c2,c3,c36,cf⟩:=Ft F7.hg hl'.out;obtain⟨p0,p1,p2,p3,pf⟩:=CS F7.h2;obtain⟨z0,z1,z2,z3⟩:=F7.sizes;go_wp2_with fail;refine(Jv _ _ _ _ _ _ _ _ _).mono ?_;rintro e w8⟨⟨a8,b8,c8,d8,rfl,H8⟩,hb8⟩;have F8:=(F7.alloc _).call hb8;clear hb8 F7 c0 c1 c2 c3 c36 cf p0 p1 p2 p3 pf;go_wp2_with fail;refine(No _ _ _ _ _).mono ?_;rintro e w9⟨rfl,hb9⟩;have F9:=F8.call hb9;clear hb9 F8;have HX:=Xba (TV HF.out hge HW.out H7'.out H6.out H8.out);rw[HX.out];have HI2:Hid ((prog.info? 49).map (·.size)=some (B8 (dig (finS ⟨a,b,c,d⟩ tl n))).size):=(by unfold Hid;rw[B8_size];kernel_rfl);have hdl:(dig (finS ⟨a,b,c,d⟩ tl n)).length=32:=(by simp[dig]);generalize hds:dig (finS ⟨a,b,c,d⟩ tl n)=ds at HI2 hdl⊢;have HD:=Xba hds;clear hds;go_wp2_with (first|refine A4 rfl 49 _ _ rfl _ (B8 ds) rfl rfl 49 _ F9.h0 HI2.out (by rw[B8_size,B8_size,hdl,Bj]) (B8_one _) ?_);refine Ap (Ba results58 _ _ w.heap.size 49 (B8 ds) (0,0) _ rfl (AA _ _ _ _ _ _ F9.h0) underlying49 rfl HI2.out) rfl ?_;exact⟨by rw[HD.out],Below.setRow F9.bel (by omega) _⟩
end Go.Proofs.YtalhnnjpjaeakaaGreat.Di
namespace Go.Proofs.YtalhnnjpjaeakaaGreat.Di
theorem Ye(x k:Int)(w:World)(hk0:0<=k)(hk1:k<64):
 Calls prog 68 #[.int .u64 x, .int .i64 k] w λe w'=>e= .returned (.int .u64 (rotl x k))/\∃n,w'=w.drewN n:=by
 go_enter func68,ntmps68;go_wp2_with fail
 go_quiet (fail)
 go_wp2;go_ret;exact⟨rfl,_,rfl⟩
def wd(bs:List Int)(at_:Nat):Nat->Int
 |0=>0
 |k+1=>or8 (wd bs at_ k) (bs.getD (at_+k) 0)
theorem Yf(m b:Int):IntKind.u64.wrap (IntKind.u64.wrap (m*256)+b)=or8 m b:=by
 unfold or8 wr;simp only[C0];omega
theorem Wc(g len cap at_:Nat)(bs:List Int)(w:World)(hlen:at_+8<=len)(hm:len<=maxLen)
 (hc:∀k,k<8->w.cell? ⟨g,at_+k,none⟩=some (.int .u8 (bs.getD (at_+k) 0))) (hb:∀k,k<8->0<=bs.getD (at_+k) 0/\bs.getD (at_+k) 0<256):
 Calls prog 67 #[.slice (some ⟨g,0,none⟩) len cap, .int .i64 at_] w λe w'=>e= .returned (.int .u64 (wd bs at_ 8))/\w'=w:=by
 unfold maxLen at hm;have HC:=Xba hc;have HB:=Xba hb;clear hc hb;go_enter func67,ntmps67;go_wp2_with fail
 go_loop [5,6] (λv i=>∃k:Nat,k<=8/\i= .int .i64 k/\v= .int .u64 (wd bs at_ k)) (λ_ i=>8-(intOf i).toNat)
 case atStart=>exact⟨0,by omega,rfl,rfl⟩
 case round=>
  obtain⟨k,hk,rfl,rfl⟩:=hrel;by_cases hlt:k<8
  ·have hcell:=HC.out k hlt;have hbd:=HB.out k hlt;have HS:Hid (wd bs at_ (k+1)=or8 (wd bs at_ k) (bs.getD (at_+k) 0)):=rfl;generalize bs.getD (at_+k) 0=b at hcell hbd HS;obtain⟨hb0,hb1⟩:=hbd;generalize wd bs at_ k=m at HS;have hidx:(at_:Int)+k<len:=(by omega);have hfit:((at_:Int)+k).toNat=at_+k:=(by omega);go_wp2
   go_round
   case rel=>exact⟨k+1,by omega,by go_num,by rw[HS.out,Yf]⟩
   case measure=>simp[intOf];omega
  ·have hk2:k=8:=(by omega);subst hk2;go_wp2;go_ret;exact⟨rfl,rfl⟩
theorem B8_one2(bs:List Int):∀v∈bs.map (Value.int .u8),v.oneCell'=true:=by
 intro v hv;obtain⟨x,_,rfl⟩:=BE.1 hv;rfl
def OwnB(w:World)(base:Nat)(v:Value)(bs:List Int):Prop:=w.ownsRow base 5 1 v bs.length (bs.map (Value.int .u8))
theorem info5:∃i,prog.info? 5=some i/\i.zero=some (.int .u8 0)/\i.size=1/\i.bytes=1:=by
 have h:(prog.info? 5).map (λi=>(i.zero,i.size,i.bytes))=some (some (.int .u8 0),1,1):=by kernel_rfl
 cases hq:prog.info? 5 with
 |none=>rw[hq]at h;simp at h
 |some i=>rw[hq]at h;simp at h;exact⟨i,rfl,h.1,h.2.1,h.2.2⟩
theorem app_own{w:World}{ops:Array Oper}{rest:List Oper}{o:Oper}{a:Act}{Q:Exit->Act->World->Prop}(hgd:o.guard=none)(s x:Operand)
 (ho:o.op= .call {callee:= .builtin .append,args:=#[s,x],argTypes:=#[27,27]}) (base:Nat) (v:Value) (bs:List Int) (hs:a.eval s=v) (hown:OwnB w base v bs)
 (ad:Addr) (m c:Nat) (news:List Int) (hx:a.eval x= .slice (some ad) m c) (hl:news.length=m) (hnews:∀j u,(news.map (Value.int .u8))[j]?=some u->w.cell? (ad.add j)=some u)
 (hbytes:bs.length+m<=140737488355328) (hbase:base<=w.heap.size)
 (h:∀v' w',OwnB w' base v' (bs++news)->w.grownBy w' v.ownBlock->(v'= .slice none 0 0↔v= .slice none 0 0/\m=0)->wpList prog ops Q rest (a.put o.dst v') w'):wpList prog ops Q (o::rest) a w:=by
 obtain⟨i,hi,hz,hsz,hby⟩:=info5;refine wpList_append_own w hgd s x 27 ho base 5 i (.int .u8 0) 1 1 underlying27 hi hz hsz hby rfl (by decide) v bs.length (bs.map (Value.int .u8)) hs hown ad m c (news.map (Value.int .u8)) hx (by simpa using hl) hnews (B8_one2 _) (by unfold maxLen;omega) (by omega) hbase ?_;intro v' w' h1 h2 h3;refine h v' w' ?_ h2 h3;unfold OwnB;rw[Ab,hl,BA];exact h1
theorem app_none{w:World}{ops:Array Oper}{rest:List Oper}{o:Oper}{a:Act}{Q:Exit->Act->World->Prop}(hgd:o.guard=none)(s x:Operand)
 (ho:o.op= .call {callee:= .builtin .append,args:=#[s,x],argTypes:=#[27,27]}) (base:Nat) (v:Value) (bs:List Int) (hs:a.eval s=v) (hown:OwnB w base v bs)
 (hx:a.eval x= .slice none 0 0) (h:wpList prog ops Q rest (a.put o.dst v) w):wpList prog ops Q (o::rest) a w:=by
 obtain⟨i,hi,_,_,_⟩:=info5;exact wpList_append_own_none hgd s x 27 ho base 5 i 1 underlying27 hi v bs.length _ hs hown hx h
def InB(w:World)(a:Option Addr)(len cap:Nat)(bs:List Int):Prop:=
 (a=none/\len=0/\cap=0/\bs=[])∨∃ad,a=some ad/\bs.length=len/\∀j u,(bs.map (Value.int .u8))[j]?=some u->w.cell? (ad.add j)=some u
def zc(n:Nat):Nat:=(55-n%32)%32
def len8(n:Nat)(k:Nat):List Int:=(List.range k).map λi=>(n:Int)/2^(56-8*i)%256
def padded(bs:List Int):List Int:=bs++[128]++List.replicate (zc bs.length) 0++len8 bs.length 8
theorem GV(n k:Nat):(len8 n k).length=k:=by simp[len8]
theorem Np(n k:Nat):len8 n k++[(n:Int)/2^(56-8*k)%256]=len8 n (k+1):=by simp[len8,CF]
def lenOf:Value->Nat| .slice _ n _=>n|_=>0
theorem OwnB.slice{w:World}{base:Nat}{v:Value}{bs:List Int}(h:OwnB w base v bs)(hne:0<bs.length):
 ∃g cap,v= .slice (some ⟨g,0,none⟩) bs.length cap/\base<=g/\g<w.heap.size/\bs.length<=cap/\cap<=maxLen/\∀j,j<bs.length->w.cell? ⟨g,j,none⟩=some (.int .u8 (bs.getD j 0)):=by
 obtain⟨_,h2⟩:=h;rcases h2 with⟨_,h2⟩|⟨g,cap,cur,hv,hg,hh,hn,hcap,hsz,ht⟩
 ·omega
 ·refine⟨g,cap,hv,hg,lt_of_get hh,hn,hcap,?_⟩;intro j hj;rw[Ae w g j _ _ _ hh];have e:(cur.toList.take (bs.length*1))[j]?=(bs.map (Value.int .u8))[j]?:=by rw[ht]
  rw[AP (by omega)]at e;simp at e;rw[e];simp[Ac hj]
theorem OwnB.alloc{w:World}{base:Nat}{v:Value}{bs:List Int}(h:OwnB w base v bs)(o:Obj):OwnB (w.alloc o) base v bs:=World.ownsRow.alloc h o
theorem OwnB.new(w:World):OwnB (w.alloc (.cells #[] 5)) w.heap.size (.slice (some ⟨w.heap.size,0,none⟩) 0 0) []:=
 ⟨rfl, .inr ⟨w.heap.size,0,#[],rfl,Aa _,Ai _ _,Aa _,by unfold maxLen;omega,rfl,rfl⟩⟩
theorem OwnB.lt{w:World}{base:Nat}{v:Value}{bs:List Int}(h:OwnB w base v bs):∀k,v.ownBlock=some k->base<=k:=λk hk=>(World.ownsRow.lt h k hk).1
theorem one_new(w:World)(x:Int):∀j u,([x].map (Value.int .u8))[j]?=some u->(w.alloc (.cells #[.int .u8 x] 5)).cell? ((⟨w.heap.size,0,none⟩:Addr).add j)=some u:=by
 intro j u h;cases j with
 |zero=>
  simp at h;subst h;rw[show(⟨w.heap.size,0,none⟩:Addr).add 0=⟨w.heap.size,0,none⟩from rfl,Ae _ _ _ _ _ _ (Ai w _)];rfl
 |succ j=>simp at h
theorem OwnB.len{w:World}{base:Nat}{v:Value}{bs:List Int}(h:OwnB w base v bs):lenOf v=bs.length:=by
 obtain⟨_,h2⟩:=h;rcases h2 with⟨hv,h2⟩|⟨g,cap,cur,hv,_⟩
 ·rw[hv,h2];rfl
 ·rw[hv];rfl
theorem SD(n k:Nat)(hk:k<=zc n):((n+1+k)%32=24↔k=zc n):=by
 unfold zc at*;omega
theorem QE(a:Option Addr)(len cap:Nat)(bs:List Int)(w:World)(hin:InB w a len cap bs)(hlen:bs.length<=140737488351232):
 Calls prog 66 #[.slice a len cap] w λe w'=>∃v',e= .returned v'/\OwnB w' w.heap.size v' (padded bs)/\Below w.heap.size w w':=by
 rcases hin with⟨rfl,rfl,rfl,rfl⟩|⟨ad,rfl,rfl,hc⟩
 ·have hm:Hid ((0:Nat)<=140737488351232):=Ay _;go_enter func66,ntmps66
  go_wp2_with (first
   |(at_builtin;refine app_none rfl (.tmp 6) (.tmp 7) rfl w.heap.size _ [] rfl (OwnB.new w) rfl ?_)
   |(at_builtin;refine app_own rfl (.tmp 9) (.tmp 10) rfl w.heap.size _ [] rfl (OwnB.alloc (OwnB.new w) _) ⟨w.heap.size+1,0,none⟩ 1 1 [128] rfl rfl (by have:=one_new (w.alloc (.cells #[] 5)) 128;simpa using this) (by simp) (by simp;omega) ?_;intro v2 w2 o2 g2 n2))
  have b2:Below w.heap.size w w2:=(((Ak _ _).alloc (Aa _) _).alloc (by simp) _).grown g2 (by simp;omega) (OwnB.new w).lt;clear g2 n2;clear hm;obtain⟨bs,hbs⟩:∃bs:List Int,[]=bs:=⟨_,rfl⟩;have o3:OwnB w2 w.heap.size v2 (bs++[128]):=by rw[<-hbs];exact o2
  have hm:Hid (bs.length<=140737488351232):=by unfold Hid;rw[<-hbs];exact Ay _
  have hbb:=Xba hbs;clear hbs o2;have o2:=o3;clear o3;obtain⟨z,hz⟩:∃z,zc bs.length=z:=⟨_,rfl⟩;have hz31:z<=31:=by unfold zc at hz;omega
  have HZ:=Xba hz;clear hz;have hli:(bs.length:Int)<=140737488351232:=by have:=hm.out;omega
  go_loopw [3] (λs v=>∃k:Nat,k<=z/\OwnB v w.heap.size s (bs++[128]++List.replicate k 0)/\Below w.heap.size w v) (λs _=>bs.length+1+z-lenOf s)
  case atStart=>exact⟨0,by omega,by simpa using o2,b2⟩
  case round=>
   clear o2 b2;obtain⟨k,hk,ow,bw⟩:=hrel;have hL:(bs++[128]++List.replicate k 0).length=bs.length+1+k:=(by rw[Ab,Ab,Bj];rfl);obtain⟨g,c,hv,hg0,hg1,hg2,hg3,_⟩:=ow.slice (by omega);rw[hL]at hv;have hz:=SD bs.length k (by rw[HZ.out];exact hk);rw[HZ.out]at hz;subst hv;by_cases hlt:k=z
   ·have ht:((bs.length:Int)+1+(k:Int))%32=24:=(by have:=hz.2 hlt;omega);have ht2:(((bs.length:Int)+1+(k:Int))%32 !=24)=false:=(by rw[ht];rfl);clear hz hL hg0 hg1 hg2 hg3 ht;subst hlt;go_wp2_with fail
    go_loopw [3,5] (λs i v=>∃j:Nat,j<=8/\i= .int .i64 j/\OwnB v w.heap.size s (bs++[128]++List.replicate k 0++len8 bs.length j)/\Below w.heap.size w v) (λ_ i _=>8-(intOf i).toNat)
    case atStart=>exact⟨0,by omega,rfl,by simpa[len8]using ow,bw⟩
    case round=>
     clear ow bw;obtain⟨j,hj,rfl,ow,bw⟩:=hrel;have hL:(bs++[128]++List.replicate k 0++len8 bs.length j).length=bs.length+1+k+j:=(by rw[Ab,Ab,Ab,Bj,GV];rfl);by_cases hlt:j<8
     ·have hbs:=bw.size
      go_wp2_with (first
       |(at_builtin;refine app_own rfl (.tmp 26) (.tmp 33) rfl w.heap.size _ (bs++[128]++List.replicate k 0++len8 bs.length j) rfl (ow.alloc _) ⟨wr.heap.size,0,none⟩ 1 1 [0] rfl rfl (one_new wr _) (by rw[hL];have:=hm.out;omega) (by simp;omega) ?_;intro v5 w5 o5 g5 n5))
      refine⟨⟨j+1,by omega,by go_num,?_,(bw.alloc (by omega) _).grown g5 (by simp;omega) (ow.lt)⟩,by simp[intOf];omega⟩;rw[<-Np,<-AE,show((bs.length:Int)/2^(56-8*j)%256)=0 from by rw[<-hbb.out];simp];exact o5
     ·have hj8:j=8:=(by omega);subst hj8;go_wp2;go_ret;refine⟨_,rfl,?_,bw⟩;rw[hbb.out];unfold padded;rw[HZ.out];exact ow
   ·have ht:(((bs.length:Int)+1+(k:Int))%32 !=24)=true:=by
     rw[BL];intro h;exact hlt (hz.1 (by omega))
    have hkz:k<z:=(by omega);clear hz hlt;have hbs:=bw.size
    go_wp2_with (first
     |(at_builtin;refine app_own rfl (.tmp 16) (.tmp 17) rfl w.heap.size _ (bs++[128]++List.replicate k 0) rfl (ow.alloc _) ⟨wr.heap.size,0,none⟩ 1 1 [0] rfl rfl (one_new wr 0) (by rw[hL];have:=hm.out;omega) (by simp;omega) ?_;intro v4 w4 o4 g4 n4))
    have e:bs++[128]++List.replicate k 0++[0]=bs++[128]++List.replicate (k+1) (0:Int):=(by rw[AE,<-List.replicate_succ']);rw[e]at o4;refine⟨⟨k+1,by omega,o4,(bw.alloc (by omega) _).grown g4 (by simp;omega) (ow.lt)⟩,?_⟩;rw[o4.len];simp[lenOf];omega
 ·have hc':∀j u,(bs.map (Value.int .u8))[j]?=some u->(w.alloc (.cells #[] 5)).cell? (ad.add j)=some u:=λj u h=>by
   exact(Aq (w:=w) (Au w _ _ (Aj (hc j u h)))).trans (hc j u h)
  have HC:=Xba hc';have hm:=Xba hlen;clear hc hc' hlen;go_enter func66,ntmps66
  go_wp2_with (first
   |(at_builtin;refine app_own rfl (.tmp 6) (.tmp 7) rfl w.heap.size _ [] rfl (OwnB.new w) ad bs.length cap bs rfl rfl HC.out (by have:=hm.out;simp;omega) (by simp) ?_;intro v1 w1 o1 g1 n1;rw[A6]at o1)
   |(at_builtin;refine app_own rfl (.tmp 9) (.tmp 10) rfl w.heap.size _ bs rfl (OwnB.alloc o1 _) ⟨w1.heap.size,0,none⟩ 1 1 [128] rfl rfl (one_new w1 128) (by have:=hm.out;omega) (by have:=g1.size;simp at this;simp;omega) ?_;intro v2 w2 o2 g2 n2))
  have b2:Below w.heap.size w w2:=((((Ak _ _).alloc (Aa _) _).grown g1 (by simp) (OwnB.new w).lt).alloc (by have:=g1.size;simp at this;omega) _).grown g2 (by have:=g1.size;simp at this;simp;omega) (o1.lt);clear g1 g2 n1 n2 o1;obtain⟨z,hz⟩:∃z,zc bs.length=z:=⟨_,rfl⟩;have hz31:z<=31:=by unfold zc at hz;omega
  have HZ:=Xba hz;clear hz;have hli:(bs.length:Int)<=140737488351232:=by have:=hm.out;omega
  go_loopw [3] (λs v=>∃k:Nat,k<=z/\OwnB v w.heap.size s (bs++[128]++List.replicate k 0)/\Below w.heap.size w v) (λs _=>bs.length+1+z-lenOf s)
  case atStart=>exact⟨0,by omega,by simpa using o2,b2⟩
  case round=>
   clear o2 b2;obtain⟨k,hk,ow,bw⟩:=hrel;have hL:(bs++[128]++List.replicate k 0).length=bs.length+1+k:=(by rw[Ab,Ab,Bj];rfl);obtain⟨g,c,hv,hg0,hg1,hg2,hg3,_⟩:=ow.slice (by omega);rw[hL]at hv;have hz:=SD bs.length k (by rw[HZ.out];exact hk);rw[HZ.out]at hz;subst hv;by_cases hlt:k=z
   ·have ht:((bs.length:Int)+1+(k:Int))%32=24:=(by have:=hz.2 hlt;omega);have ht2:(((bs.length:Int)+1+(k:Int))%32 !=24)=false:=(by rw[ht];rfl);clear hz hL hg0 hg1 hg2 hg3 ht;subst hlt;go_wp2_with fail
    go_loopw [3,5] (λs i v=>∃j:Nat,j<=8/\i= .int .i64 j/\OwnB v w.heap.size s (bs++[128]++List.replicate k 0++len8 bs.length j)/\Below w.heap.size w v) (λ_ i _=>8-(intOf i).toNat)
    case atStart=>exact⟨0,by omega,rfl,by simpa[len8]using ow,bw⟩
    case round=>
     clear ow bw;obtain⟨j,hj,rfl,ow,bw⟩:=hrel;have hL:(bs++[128]++List.replicate k 0++len8 bs.length j).length=bs.length+1+k+j:=(by rw[Ab,Ab,Ab,Bj,GV];rfl);by_cases hlt:j<8
     ·have hbs:=bw.size
      go_wp2_with (first
       |(at_builtin;refine app_own rfl (.tmp 26) (.tmp 33) rfl w.heap.size _ (bs++[128]++List.replicate k 0++len8 bs.length j) rfl (ow.alloc _) ⟨wr.heap.size,0,none⟩ 1 1 [(bs.length:Int)/2^(56-8*j)%256] rfl rfl (one_new wr _) (by rw[hL];have:=hm.out;omega) (by simp;omega) ?_;intro v5 w5 o5 g5 n5))
      refine⟨⟨j+1,by omega,by go_num,?_,(bw.alloc (by omega) _).grown g5 (by simp;omega) (ow.lt)⟩,by simp[intOf];omega⟩;rw[<-Np,<-AE];exact o5
     ·have hj8:j=8:=(by omega);subst hj8;go_wp2;go_ret;refine⟨_,rfl,?_,bw⟩;unfold padded;rw[HZ.out];exact ow
   ·have ht:(((bs.length:Int)+1+(k:Int))%32 !=24)=true:=by
     rw[BL];intro h;exact hlt (hz.1 (by omega))
    have hkz:k<z:=(by omega);clear hz hlt;have hbs:=bw.size
    go_wp2_with (first
     |(at_builtin;refine app_own rfl (.tmp 16) (.tmp 17) rfl w.heap.size _ (bs++[128]++List.replicate k 0) rfl (ow.alloc _) ⟨wr.heap.size,0,none⟩ 1 1 [0] rfl rfl (one_new wr 0) (by rw[hL];have:=hm.out;omega) (by simp;omega) ?_;intro v4 w4 o4 g4 n4))
    have e:bs++[128]++List.replicate k 0++[0]=bs++[128]++List.replicate (k+1) (0:Int):=(by rw[AE,<-List.replicate_succ']);rw[e]at o4;refine⟨⟨k+1,by omega,o4,(bw.alloc (by omega) _).grown g4 (by simp;omega) (ow.lt)⟩,?_⟩;rw[o4.len];simp[lenOf];omega
end Go.Proofs.YtalhnnjpjaeakaaGreat.Di
