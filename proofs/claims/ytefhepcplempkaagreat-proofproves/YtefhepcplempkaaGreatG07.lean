/- References and nodes in memory. -/
import Derived.Test.YtefhepcplempkaaGreatAK
import Derived.Test.YtefhepcplempkaaGreatG06
import Derived.Deep.MidRow
import Derived.Test.YtefhepcplempkaaGreatRows
import Derived.WalkKit
import Derived.WalkSpells
import Derived.WalkLawsBesides
import Derived.BigQuiet
import Derived.Deep.QuietTactic
import Derived.Handy
import Derived.Deep.RegionHeld3
set_option linter.unusedVariables false
set_option maxRecDepth 100000
set_option maxHeartbeats 4000000
open Go.Proofs.Tryz Go.RowKit
namespace Go.Proofs.YtefhepcplempkaaGreat
variable {w w' v' : World} {g o n c : Nat} {K L : Nat → Prop} {a : Option Addr} {r : PR} {cs : List Value}
structure RV where
 k:Int
 d:List Int
 a:Option Addr
 n:Nat
 c:Nat
def RV.cells(x:RV):List Value:= .int .i64 x.k::(x.d.map (Value.int .u8)++[.slice x.a x.n x.c])
structure NV where
 k:Int
 pa:Option Addr
 pn:Nat
 pc:Nat
 va:Option Addr
 vn:Nat
 vc:Nat
 c:RV
 ka:Option Addr
 kn:Nat
 kc:Nat
def NV.cells(x:NV):List Value:= .int .i64 x.k:: .slice x.pa x.pn x.pc:: .slice x.va x.vn x.vc::(x.c.cells++[.slice x.ka x.kn x.kc])
def AgK(K:Nat->Prop)(w:World)(a:Option Addr)(n c:Nat)(bs:List Int):Prop:=Ag w a n c bs/\n<=140737488351232/\∀g off,a=some ⟨g,off,none⟩->0<n->K g
def RefAt(K:Nat->Prop)(w:World)(x:RV)(r:PR):Prop:=x.k=r.k/\x.d=r.d/\isB r.d/\r.d.length=32/\AgK K w x.a x.n x.c r.i
def KidsAt(K:Nat->Prop)(w:World)(a:Option Addr)(ks:List PR):Prop:=∀j r,ks[j]?=some r->∃g off y,a=some ⟨g,off,none⟩/\K g/\w.rangeAt g (off+j*34) y.cells/\RefAt K w y r
structure NodeAt(K:Nat->Prop)(w:World)(x:NV)(n:PN):Prop where
 k:x.k=n.k
 p:AgK K w x.pa x.pn x.pc n.p
 v:AgK K w x.va x.vn x.vc n.v
 c:RefAt K w x.c n.c
 m:x.kn=n.ks.length/\x.kn<=x.kc/\x.kc<=maxLen/\x.kn<=2199023255488/\(x.ka=none->x.kn=0/\x.kc=0)
 ks:KidsAt K w x.ka n.ks
theorem RV.len{x:RV}(h:x.d.length=32):x.cells.length=34:=by simp[RV.cells,h]
theorem NV.len{x:NV}(h:x.c.d.length=32):x.cells.length=38:=by simp[NV.cells,RV.len h]
theorem RV.one(x:RV):∀u∈x.cells,u.oneCell'=true:=by
 intro u hu;simp only[RV.cells,AP,Bc,BD,Cj,Et]at hu;rcases hu with rfl|⟨y,_,rfl⟩|rfl<;>rfl
theorem NV.one(x:NV):∀u∈x.cells,u.oneCell'=true:=by
 intro u hu;simp only[NV.cells,AP,Bc,Cj,Et]at hu;rcases hu with rfl|rfl|rfl|hu|rfl
 ·rfl
 ·rfl
 ·rfl
 ·exact x.c.one u hu
 ·rfl
theorem Tg{v:Value}(h:w.cell? ⟨g,o,none⟩=some v)(hk:g<w.heap.size->w'.heap[g]?=w.heap[g]?):w'.cell? ⟨g,o,none⟩=some v:=(Ay (w:=w) (hk (Af h))).trans h
def Keep(K L:Nat->Prop)(w w':World):Prop:=∀g,K g->g<w.heap.size->w'.heap[g]?=w.heap[g]?/\L g
theorem AgK.go(hk:Keep K L w w'){bs:List Int}(h:AgK K w a n c bs):AgK L w' a n c bs:=by
 refine⟨KY h.1 (λg off e h0 hl=>(hk g (h.2.2 g off e h0) hl).1),h.2.1,λg off e h0=>?_⟩;obtain⟨g',off',e',_,_,hc⟩:=ag_head h.1 h0;rw[e]at e';cases e';exact(hk g (h.2.2 g off e h0) (Af (hc 0 h0))).2
theorem RefAt.go(hk:Keep K L w w'){x:RV}(h:RefAt K w x r):RefAt L w' x r:=⟨h.1,h.2.1,h.2.2.1,h.2.2.2.1,h.2.2.2.2.go hk⟩
theorem RefAt.len{x:RV}(h:RefAt K w x r):x.d.length=32:=by rw[h.2.1];exact h.2.2.2.1
theorem EV(h:w.rangeAt g o cs)(hk:g<w.heap.size->w'.heap[g]?=w.heap[g]?):w'.rangeAt g o cs:=λj v hv=>Tg (h j v hv) hk
theorem UZ(h:w.rangeAt g o cs)(h0:0<cs.length):g<w.heap.size:=Af (h 0 _ (Ac h0))
theorem KidsAt.go(hk:Keep K L w w'){ks:List PR}(h:KidsAt K w a ks):KidsAt L w' a ks:=λj r hr=>by
 obtain⟨g,off,y,e,hg,hc,hy⟩:=h j r hr;have hl:=UZ hc (by rw[RV.len hy.len];omega);exact⟨g,off,y,e,(hk g hg hl).2,EV hc (λhl=>(hk g hg hl).1),hy.go hk⟩
theorem NodeAt.go(hk:Keep K L w w'){x:NV}{n:PN}(h:NodeAt K w x n):NodeAt L w' x n:=⟨h.k,h.p.go hk,h.v.go hk,h.c.go hk,h.m,h.ks.go hk⟩
theorem Keep.below(h:Below w.heap.size w w'):Keep K K w w':=λg hK hg=>⟨h.block g hg,hK⟩
theorem Keep.any(h:Below w.heap.size w w'):Keep K (λ_=>True) w w':=λg hK hg=>⟨h.block g hg,trivial⟩
def Own(base:Nat)(w:World)(g:Nat):Prop:=base<=g/\∀o,w.frozen? ⟨g,o,none⟩=false
theorem Keep.own{base base':Nat}(h:Below w.heap.size w w')(hb:base'<=base):Keep (Own base w) (Own base' w') w w':=λg hK hg=>⟨h.block g hg,Ar hb hK.1,λo=>(BM (w:=w) (h.block g hg)).trans (hK.2 o)⟩
theorem AgK.l{bs:List Int}(h:AgK K w a n c bs):bs.length=n:=h.1.l
theorem NodeAt.okN{x:NV}{n:PN}(h:NodeAt K w x n):okN n:=by
 refine⟨h.p.1.b,h.v.1.b,⟨h.c.2.2.1,h.c.2.2.2.1,h.c.2.2.2.2.1.b⟩,λr hr=>?_⟩;obtain⟨j,hj⟩:=List.getElem?_of_mem hr;obtain⟨_,_,y,_,_,_,hy⟩:=h.ks j r hj;exact⟨hy.2.2.1,hy.2.2.2.1,hy.2.2.2.2.1.b⟩
structure NBx(g:Nat)(v:World)(x:NV):Prop where
 row:v.heap[g]?=some (.cells x.cells.toArray 68)
 l:x.c.d.length=32
structure RBx(g:Nat)(v:World)(x:RV):Prop where
 row:v.heap[g]?=some (.cells x.cells.toArray 65)
 l:x.d.length=32
theorem NBx.at{v:World}{x:NV}(h:NBx g v x)(j:Nat):v.cell? ⟨g,j,none⟩=x.cells[j]?:=by rw[Ad _ _ _ _ _ _ h.row];simp
theorem RBx.at{v:World}{x:RV}(h:RBx g v x)(j:Nat):v.cell? ⟨g,j,none⟩=x.cells[j]?:=by rw[Ad _ _ _ _ _ _ h.row];simp
theorem NBx.c0{v:World}{x:NV}(h:NBx g v x):v.cell? ⟨g,0,none⟩=some (.int .i64 x.k):=h.at 0
theorem NBx.c1{v:World}{x:NV}(h:NBx g v x):v.cell? ⟨g,1,none⟩=some (.slice x.pa x.pn x.pc):=h.at 1
theorem NBx.c2{v:World}{x:NV}(h:NBx g v x):v.cell? ⟨g,2,none⟩=some (.slice x.va x.vn x.vc):=h.at 2
theorem NBx.c3{v:World}{x:NV}(h:NBx g v x):v.cell? ⟨g,3,none⟩=some (.int .i64 x.c.k):=h.at 3
theorem RV.last{x:RV}(h:x.d.length=32):x.cells[33]?=some (.slice x.a x.n x.c):=by
 rw[RV.cells,BC,AS (by simp[h])];simp[h]
theorem NBx.c37{v:World}{x:NV}(h:NBx g v x):v.cell? ⟨g,37,none⟩=some (.slice x.ka x.kn x.kc):=by
 rw[h.at 37,NV.cells,BC,BC,BC,AS (by rw[RV.len h.l];omega),RV.len h.l];rfl
theorem NBx.fz{v:World}{x:NV}(h:NBx g v x)(o:Nat):v.frozen? ⟨g,o,none⟩=false:=AY _ _ _ _ _ h.row
theorem NBx.child{v:World}{x:NV}(h:NBx g v x):v.rangeAt g 3 x.c.cells:=λj u hu=>by
 rw[h.at,NV.cells,Nat.add_comm 3 j,BC,BC,BC,AV (Aw.1 hu).1];exact hu
theorem NBx.all{v:World}{x:NV}(h:NBx g v x):v.rangeAt g 0 x.cells:=λj u hu=>by rw[h.at,AM];exact hu
theorem RBx.all{v:World}{x:RV}(h:RBx g v x):v.rangeAt g 0 x.cells:=λj u hu=>by rw[h.at,AM];exact hu
theorem RBx.c0{v:World}{x:RV}(h:RBx g v x):v.cell? ⟨g,0,none⟩=some (.int .i64 x.k):=h.at 0
theorem RBx.c33{v:World}{x:RV}(h:RBx g v x):v.cell? ⟨g,33,none⟩=some (.slice x.a x.n x.c):=by rw[h.at];exact RV.last h.l
theorem RBx.fz{v:World}{x:RV}(h:RBx g v x)(o:Nat):v.frozen? ⟨g,o,none⟩=false:=AY _ _ _ _ _ h.row
theorem RBx.digest{v:World}{x:RV}(h:RBx g v x):v.rangeAt g 1 (x.d.map (Value.int .u8)):=λj u hu=>by
 rw[h.at,RV.cells,Nat.add_comm 1 j,BC,AV (Aw.1 hu).1];exact hu
theorem NBx.go{v:World}{x:NV}(h:NBx g v x)(hb:Below v.heap.size v v'):NBx g v' x:=⟨Below.row hb h.row,h.l⟩
theorem RBx.go{v:World}{x:RV}(h:RBx g v x)(hb:Below v.heap.size v v'):RBx g v' x:=⟨Below.row hb h.row,h.l⟩
theorem ER(w:World)(x:NV)(h:x.c.d.length=32):NBx w.heap.size (w.alloc (.cells x.cells.toArray 68)) x:=⟨Aj _ _,h⟩
theorem J4(w:World)(x:RV)(h:x.d.length=32):RBx w.heap.size (w.alloc (.cells x.cells.toArray 65)) x:=⟨Aj _ _,h⟩
theorem E7:(prog.info? 68).map (·.size)=some 38:=by kernel_rfl
theorem DF:(prog.info? 65).map (·.size)=some 34:=by kernel_rfl
theorem Va:(prog.info? 35).map (·.size)=some 32:=by kernel_rfl
def rz:RV:=⟨0,z32,none,0,0⟩
def nz:NV:=⟨0,none,0,0,none,0,0,rz,none,0,0⟩
def DPost(w:World)(o:Option PN):Ending->World->Prop:=λe w'=>Below w.heap.size w w'/\
 match o with
 |none=>e= .returned (.tuple #[.agg nz.cells.toArray, .int .i64 50])
 |some n=>∃y:NV,e= .returned (.tuple #[.agg y.cells.toArray, .int .i64 0])/\NodeAt (Own w.heap.size w') w' y n
def DecSaid(b:List Int):Prop:=∀(a:Option Addr)(n c:Nat)(w:World),Ag w a n c b->n<=140737488351232->Calls prog 94 #[.slice a n c] w (DPost w (ND b))
theorem Xb{o:Option PN}{e:Ending}(h:DPost w o e w'):Below w.heap.size w w'/\∃y:NV,∃er:Int,e= .returned (.tuple #[.agg y.cells.toArray, .int .i64 er])/\y.k=kd o/\y.c.d.length=32:=by
 obtain⟨hb,hm⟩:=h;refine⟨hb,?_⟩;cases o with
 |none=>exact⟨nz,50,hm,rfl,rfl⟩
 |some n=>
  obtain⟨y,e1,hy⟩:=hm;exact⟨y,0,e1,hy.k,hy.c.len⟩
theorem Below.setRow{B:Nat}{w0:World}(h:Below B w0 w)(hg:B<=g)(cs:Array Value):Below B w0 (w.setRow g cs):=
 h.trans ⟨rfl,rfl,rfl,by simp,λk hk=>Bf w g k cs (by omega)⟩
theorem Vc:(nz.cells.toArray:Array Value).size=38:=rfl
theorem Ie(K:Nat->Prop)(x:RV)(r:PR)(w:World)(h:RefAt K w x r)(hd:DecSaid r.i):
 Calls prog 141 #[.agg x.cells.toArray] w λe w'=>e= .returned (.int .i64 (KD r.i))/\Below w.heap.size w w':=by
 have B:=J4 w x h.len;have HB:=ZQ (below_new w (.cells x.cells.toArray 65));have HD:=ZQ (show∀v,Below w.heap.size w v->Calls prog 94 #[.slice x.a x.n x.c] v (DPost v (ND r.i))from λv hv=>hd _ _ _ v (h.2.2.2.2.1.at hv) h.2.2.2.2.2.1);obtain⟨kr,hkr⟩:∃kr,KD r.i=kr:=⟨_,rfl⟩;have HK:=ZQ (show kd (ND r.i)=kr from hkr);rw[hkr];clear h hd hkr;go_enter func141,ntmps141;go_upto_region 1 with fail;refine gen_w (p:=λv=>Code.wp _ _ _ _ v) (q:=λv=>RBx w.heap.size v x/\Below w.heap.size w v) ⟨B,HB.out⟩ ?_;clear B HB;rintro v⟨B,hb⟩;have HB:=ZQ hb;have c0:=B.c33;clear hb B;go_wp2_with fail;refine(HD.out v HB.out).mono ?_;intro e w1 hp;obtain⟨hb1,y,er,rfl,hyk,hyl⟩:=Xb hp;rw[HK.out]at hyk;have HB1:=ZQ (below_go HB.out hb1);have HS:=ZQ (show(nz.cells.toArray:Array Value).size=y.cells.toArray.size from by rw[Vc,Bd,NV.len hyl]);have HI:=ZQ (show(prog.info? 68).map (·.size)=some y.cells.toArray.size from by rw[E7,Bd,NV.len hyl]);have HO:=ZQ (Al y.one);have HYK:=ZQ hyk;have HYL:=ZQ hyl;clear hp hb1 hyk hyl HD HK HB c0;go_upto_region 2 with(first|refine A7 rfl 68 _ _ rfl _ y.cells.toArray rfl rfl 68 _ (Aj w1 _) HI.out HS.out HO.out ?_);refine gen_w (p:=λv=>Code.wp _ _ _ _ v) (q:=λv=>NBx w1.heap.size v y/\Below w.heap.size w v) ⟨⟨AE _ _ _ _ _ _ (Aj w1 _),HYL.out⟩,Below.setRow (HB1.out.alloc HB1.out.size _) HB1.out.size _⟩ ?_;rintro v2⟨B,hb⟩;have c0:=B.c0;rw[HYK.out]at c0;have HB2:=ZQ hb;clear B hb;go_wp2_with fail;go_ret;exact⟨rfl,HB2.out⟩
def B8(bs:List Int):Array Value:=(bs.map (Value.int .u8)).toArray
theorem B8_size(bs:List Int):(B8 bs).size=bs.length:=by simp[B8]
theorem B8_get(bs:List Int)(k:Nat)(h:k<bs.length):(B8 bs)[k]?=some (.int .u8 (bs.getD k 0)):=by simp[B8,h]
theorem Sa(xs ys:List Int)(hx:xs.length=32)(hy:ys.length=32)(d:Nat):∀(n k:Nat)(w:World),k+n=32->
 (forIn (m:=Sem) (List.range' k n) ((none:Option Bool),()) λi _=>do
   let a <-part 5 (B8 xs) (i*1)
   let b <-part 5 (B8 ys) (i*1)
   let r <-Op.equalIn (d+1) 5 a b
   if(!r)=true then pure (ForInStep.done (some false,()))else pure (ForInStep.yield (none,()))).run prog w=
   .ok (if xs.drop k==ys.drop k then(none,())else(some false,())) w
 |0,k,w,hk=>by
  have e1:xs.drop k=[]:=BJ (by omega);have e2:ys.drop k=[]:=BJ (by omega);rw[e1,e2];simp
 |n+1,k,w,hk=>by
  have ih:=Sa xs ys hx hy d n (k+1) w (by omega);have hlx:k<xs.length:=by omega
  have hly:k<ys.length:=by omega
  have px:(part 5 (B8 xs) (k*1)).run prog w= .ok (.int .u8 (xs.getD k 0)) w:=by
   simp only[part,B9,isAgg,BE underlying5,Ba,BA,Cd,Er,BS,B8_get xs k hlx]
  have py:(part 5 (B8 ys) (k*1)).run prog w= .ok (.int .u8 (ys.getD k 0)) w:=by
   simp only[part,B9,isAgg,BE underlying5,Ba,BA,Cd,Er,BS,B8_get ys k hly]
  have pe:=run_equalIn_int w d 5 .u8 .u8 (xs.getD k 0) (ys.getD k 0) (P:=prog) underlying5;have dx:xs.drop k=xs.getD k 0::xs.drop (k+1):=by rw[Bz hlx];simp[List.getD,Ac hlx]
  have dy:ys.drop k=ys.getD k 0::ys.drop (k+1):=by rw[Bz hly];simp[List.getD,Ac hly]
  rw[List.range'_succ,List.forIn_cons];simp only[B9,px,py,pe,Ba];rw[dx,dy,List.cons_beq_cons];cases hc:(xs.getD k 0==ys.getD k 0)with
  |false=>simp
  |true=>
   simp only[Bool.not_true,Cd,Er,BA,Ba,EQ];exact ih
theorem YH(xs ys:List Int)(hx:xs.length=32)(hy:ys.length=32)(d:Nat)(w:World):
 (Op.equalIn (d+1+1) 35 (.agg (B8 xs)) (.agg (B8 ys))).run prog w= .ok (xs==ys) w:=by
 have hs:(prog.info? 5).map (·.size)=some 1:=by kernel_rfl
 cases hq:prog.info? 5 with
 |none=>simp[hq]at hs
 |some y=>
  have hy1:y.size=1:=by simpa[hq]using hs
  rw[Op.equalIn];simp only[B9,BE underlying35,Ba,sizeOf,typeInfo,run_program,hq,hy1,BA];have e:=Sa xs ys hx hy d 32 0 w (by omega);rw[Std.Legacy.Range.forIn_eq_forIn_range'];simp only[Std.Legacy.Range.size,Cw]at e⊢;rw[show(32-0+1-1)/1=32 from rfl];rw[e];cases xs==ys<;>simp
theorem ZB(xs ys:List Int)(hx:xs.length=32)(hy:ys.length=32)(w:World):(Op.equalIn 10000 35 (.agg (B8 xs)) (.agg (B8 ys))).run prog w= .ok (xs==ys) w:=YH xs ys hx hy 9998 w
section
variable {w : World} {ops : Array Oper} {rest : List Oper} {o : Oper} {a : Act} {Q : Exit → Act → World → Prop}
theorem LN(hw:Region.wanted o (yielded ops a.tmps)=true)(h:∀K:Act->World->Prop,(∀a w,wpList prog ops Q rest a w->K a w)->o.wp prog a w K Q):wpList prog ops Q (o::rest) a w:=
 wpList_step λK hK=>by rw[Ai hw];exact h K hK
theorem GR(hw:Region.wanted o (yielded ops a.tmps)=true)(x y:Operand)(ho:o.op= .binOp .eql 35 x y 35)(xs ys:List Int)(hx:a.eval x= .agg (B8 xs))(hy:a.eval y= .agg (B8 ys))(lx:xs.length=32)(ly:ys.length=32)(q:Bool)(hq:(xs==ys)=q)
 (h:wpList prog ops Q rest (a.put o.dst (.bool q)) w):wpList prog ops Q (o::rest) a w:=by
 subst hq;refine LN hw λK hK=>?_;have e:=ZB xs ys lx ly;unfold Oper.wp execOp;simp only[ho,hx,hy];go_simp;exact hK _ _ h
theorem GS(hw:Region.wanted o (yielded ops a.tmps)=true)(x y:Operand)(ho:o.op= .binOp .neq 35 x y 35)(xs ys:List Int)(hx:a.eval x= .agg (B8 xs))(hy:a.eval y= .agg (B8 ys))(lx:xs.length=32)(ly:ys.length=32)(q:Bool)(hq:(!(xs==ys))=q)
 (h:wpList prog ops Q rest (a.put o.dst (.bool q)) w):wpList prog ops Q (o::rest) a w:=by
 subst hq;refine LN hw λK hK=>?_;have e:=ZB xs ys lx ly;unfold Oper.wp execOp;simp only[ho,hx,hy];go_simp;exact hK _ _ h
theorem LO(hw:Region.wanted o (yielded ops a.tmps)=true)(ty:TypeId)(x:Operand)(ho:o.op= .load ty x)(b off:Nat)(hx:a.eval x= .pointer (some ⟨b,off,none⟩))(cs:List Value)(d:TypeDesc)(hc:w.rangeAt b off cs)
 (hu:prog.underlying ty=some d) (hd:d.isRow=true) (hi:(prog.info? ty).map (·.size)=some cs.length) (h:wpList prog ops Q rest (a.put o.dst (.agg cs.toArray)) w):wpList prog ops Q (o::rest) a w:=
 LN hw λ_ hK=>wp_load_mid ty x ho b off hx cs d hc hu hd hi (hK _ _ h)
theorem CC(hw:Region.wanted o (yielded ops a.tmps)=true)(x:Operand)(ho:o.op= .load 68 x)(b:Nat)(hx:a.eval x= .pointer (some ⟨b,0,none⟩))(y:NV)(hc:NBx b w y)
 (h:wpList prog ops Q rest (a.put o.dst (.agg y.cells.toArray)) w):wpList prog ops Q (o::rest) a w:=
 LO hw 68 x ho b 0 hx y.cells _ hc.all underlying68 rfl (by rw[E7,NV.len hc.l]) h
theorem Cy(hw:Region.wanted o (yielded ops a.tmps)=true)(x:Operand)(ho:o.op= .load 65 x)(b off:Nat)(hx:a.eval x= .pointer (some ⟨b,off,none⟩))(y:RV)(hl:y.d.length=32)(hc:w.rangeAt b off y.cells)
 (h:wpList prog ops Q rest (a.put o.dst (.agg y.cells.toArray)) w):wpList prog ops Q (o::rest) a w:=
 LO hw 65 x ho b off hx y.cells _ hc underlying65 rfl (by rw[DF,RV.len hl]) h
theorem EJ(hw:Region.wanted o (yielded ops a.tmps)=true)(x:Operand)(ho:o.op= .load 35 x)(b off:Nat)(hx:a.eval x= .pointer (some ⟨b,off,none⟩))(ds:List Int)(hl:ds.length=32)(hc:w.rangeAt b off (ds.map (Value.int .u8)))
 (h:wpList prog ops Q rest (a.put o.dst (.agg (B8 ds))) w):wpList prog ops Q (o::rest) a w:=
 LO hw 35 x ho b off hx (ds.map (Value.int .u8)) _ hc underlying35 rfl (by rw[Va,AZ,hl]) h
end
theorem Th:(λ(a:Option Addr)(n c:Nat)=>prog.built 65 [(0, .int .i64 1),(2, .slice a n c)])=λa n c=>some (RV.cells ⟨1,z32,a,n,c⟩).toArray:=by kernel_rfl
theorem Vd(a:Option Addr)(n c:Nat):prog.built 65 [(0, .int .i64 1),(2, .slice a n c)]=some (RV.cells ⟨1,z32,a,n,c⟩).toArray:=AH (AH (AH Th a) n) c
theorem Ti:(λ(pa:Option Addr)(pn pc:Nat)(va:Option Addr)(vn vc:Nat)=>prog.built 68 [(0, .int .i64 1),(1, .slice pa pn pc),(2, .slice va vn vc)])=λpa pn pc va vn vc=>some (NV.cells ⟨1,pa,pn,pc,va,vn,vc,rz,none,0,0⟩).toArray:=by kernel_rfl
theorem Ig(pa:Option Addr)(pn pc:Nat)(va:Option Addr)(vn vc:Nat):prog.built 68 [(0, .int .i64 1),(1, .slice pa pn pc),(2, .slice va vn vc)]=some (NV.cells ⟨1,pa,pn,pc,va,vn,vc,rz,none,0,0⟩).toArray:=AH (AH (AH (AH (AH (AH Ti pa) pn) pc) va) vn) vc
theorem Tj:(λ(va:Option Addr)(vn vc:Nat)(ka:Option Addr)(kn kc:Nat)=>prog.built 68 [(0, .int .i64 3),(2, .slice va vn vc),(4, .slice ka kn kc)])=λva vn vc ka kn kc=>some (NV.cells ⟨3,none,0,0,va,vn,vc,rz,ka,kn,kc⟩).toArray:=by kernel_rfl
theorem OT(va:Option Addr)(vn vc:Nat)(ka:Option Addr)(kn kc:Nat):prog.built 68 [(0, .int .i64 3),(2, .slice va vn vc),(4, .slice ka kn kc)]=some (NV.cells ⟨3,none,0,0,va,vn,vc,rz,ka,kn,kc⟩).toArray:=AH (AH (AH (AH (AH (AH Tj va) vn) vc) ka) kn) kc
theorem Tk:(λ(pa:Option Addr)(pn pc:Nat)(k:Int)(a:Option Addr)(n c:Nat)(d0 d1 d2 d3 d4 d5 d6 d7 d8 d9 d10 d11 d12 d13 d14 d15 d16 d17 d18 d19 d20 d21 d22 d23 d24 d25 d26 d27 d28 d29 d30 d31:Int)=>prog.built 68 [(0, .int .i64 2),(1, .slice pa pn pc),(3, .agg (RV.cells ⟨k,[d0,d1,d2,d3,d4,d5,d6,d7,d8,d9,d10,d11,d12,d13,d14,d15,d16,d17,d18,d19,d20,d21,d22,d23,d24,d25,d26,d27,d28,d29,d30,d31],a,n,c⟩).toArray)])=
 λpa pn pc k a n c d0 d1 d2 d3 d4 d5 d6 d7 d8 d9 d10 d11 d12 d13 d14 d15 d16 d17 d18 d19 d20 d21 d22 d23 d24 d25 d26 d27 d28 d29 d30 d31=>some (NV.cells ⟨2,pa,pn,pc,none,0,0,⟨k,[d0,d1,d2,d3,d4,d5,d6,d7,d8,d9,d10,d11,d12,d13,d14,d15,d16,d17,d18,d19,d20,d21,d22,d23,d24,d25,d26,d27,d28,d29,d30,d31],a,n,c⟩,none,0,0⟩).toArray:=by kernel_rfl
theorem G8(pa:Option Addr)(pn pc:Nat)(r:RV)(h:r.d.length=32):prog.built 68 [(0, .int .i64 2),(1, .slice pa pn pc),(3, .agg r.cells.toArray)]=some (NV.cells ⟨2,pa,pn,pc,none,0,0,r,none,0,0⟩).toArray:=by
 obtain⟨k,d,a,n,c⟩:=r
 match d,h with
 |[d0,d1,d2,d3,d4,d5,d6,d7,d8,d9,d10,d11,d12,d13,d14,d15,d16,d17,d18,d19,d20,d21,d22,d23,d24,d25,d26,d27,d28,d29,d30,d31],_=>
  have e:=Tk;have e:=AH e pa;have e:=AH e pn;have e:=AH e pc;have e:=AH e k;have e:=AH e a;have e:=AH e n;have e:=AH e c;have e:=AH e d0;have e:=AH e d1;have e:=AH e d2;have e:=AH e d3;have e:=AH e d4;have e:=AH e d5;have e:=AH e d6;have e:=AH e d7;have e:=AH e d8;have e:=AH e d9;have e:=AH e d10;have e:=AH e d11;have e:=AH e d12;have e:=AH e d13;have e:=AH e d14;have e:=AH e d15;have e:=AH e d16;have e:=AH e d17;have e:=AH e d18;have e:=AH e d19;have e:=AH e d20;have e:=AH e d21;have e:=AH e d22;have e:=AH e d23;have e:=AH e d24;have e:=AH e d25;have e:=AH e d26;have e:=AH e d27;have e:=AH e d28;have e:=AH e d29;have e:=AH e d30;have e:=AH e d31;exact e
section
variable {md : Region.Mode} {ops : Array Oper} {Q : Exit → Act → World → Prop} {S : World → Prop} {fuel : Nat} {listed : Array Bool} {a : Act} {w : World}
theorem DO(i:Nat){rs:List Nat}{w':World}{o:Oper}(ho:ops[i]?=some o)(hd:o.dst=none)(hg:Region.wanted o (yielded ops a.tmps)=true)(hrun:(execOp a.eval o).run prog w= .ok .skip w')(hS:S w')
 (h:wpAnyH prog md ops Q S fuel (listed.setIfInBounds i true) a w') (hs:AllReadyH prog md ops Q S fuel listed a w rs):AllReadyH prog md ops Q S fuel listed a w (i::rs):=
 CL ho (λK hK=>by
  rw[Ai hg];unfold Oper.wp;rw[hrun,Fl];exact hK _ _ hS (λ_=>by rw[hd];exact h)) hs
end
section
variable {ops : Array Oper} {Q : Exit → Act → World → Prop} {a : Act} {w w' : World} {rest : List Oper} {o : Oper}
theorem NQ(d:Nat)(v:Value)(hd:o.dst=some d)(hw:Region.wanted o (yielded ops a.tmps)=true)(hrun:(execOp a.eval o).run prog w= .ok (.value v) w')(h:wpList prog ops Q rest (a.put (some d) v) w'):wpList prog ops Q (o::rest) a w:=
 LN hw λK hK=>by
  unfold Oper.wp;rw[hrun,ES,hd];exact hK _ _ h
theorem Bv(d:Nat)(v:Value)(hd:o.dst=some d)(hw:Region.wanted o (yielded ops a.tmps)=true)(hrun:(execOp a.eval o).run prog w= .ok (.value v) w)(h:wpList prog ops Q rest (a.put (some d) v) w):wpList prog ops Q (o::rest) a w:=NQ d v hd hw hrun h
theorem FO(hd:o.dst=none)(hw:Region.wanted o (yielded ops a.tmps)=true)(hrun:(execOp a.eval o).run prog w= .ok .skip w')(h:wpList prog ops Q rest a w'):wpList prog ops Q (o::rest) a w:=
 LN hw λK hK=>by
  unfold Oper.wp;rw[hrun,Fl,hd];exact hK _ _ h
theorem Lb(d:Nat)(hd:o.dst=some d)(hw:Region.wanted o (yielded ops a.tmps)=true)(f:FuncId)(args:Array Value)(hrun:(execOp a.eval o).run prog w= .ok (.enter f args) w)
 {R:Value->World->Prop} (hc:Calls prog f args w λe w'=>∃v,e= .returned v/\R v w') (h:∀v w',R v w'->wpList prog ops Q rest (a.put (some d) v) w'):wpList prog ops Q (o::rest) a w:=
 LN hw λK hK=>by
  unfold Oper.wp;rw[hrun,ET];refine hc.mono ?_;rintro e w'⟨v,rfl,hR⟩;rw[hd];exact hK _ _ (h v w' hR)
end
section
variable {a : Act} {w : World}
theorem Eo(t:TypeId)(parts:Array (Nat×Operand)){o:Oper}(ho:o.op= .build t parts)(vals:List (Nat×Value))(hv:(parts.map λ(i,x)=>(i,a.eval x)).toList=vals)(cells:Array Value)(hf:prog.built t vals=some cells):
 (execOp a.eval o).run prog w= .ok (.value (.agg cells)) w:=by
 subst hv;have hr:=run_build w t (parts.map λ(i,x)=>(i,a.eval x)) cells (P:=prog) hf;unfold execOp;rw[ho];simp only[B9,hr,Ba,BA]
theorem DG(ty:TypeId)(x y:Operand){o:Oper}(ho:o.op= .store ty x y)(g:Nat)(cells:Array Value)(hx:a.eval x= .pointer (some ⟨g,0,none⟩))(hy:a.eval y= .agg cells)(t:TypeId)(old:Array Value)
 (hg:w.heap[g]?=some (.cells old t (0,0))) (hi:(prog.info? ty).map (·.size)=some cells.size) (hold:old.size=cells.size) (h1:cells.all (·.oneCell')=true):
 (execOp a.eval o).run prog w= .ok .skip (w.setRow g cells):=by
 unfold execOp;rw[ho];simp only[hx,hy,Instr.storeAt,Instr.sureAddr,B9,BA,Ba,run_storeVar_row w g t ty old cells hg hi hold h1]
theorem LP(ty:TypeId)(x:Operand){o:Oper}(ho:o.op= .load ty x)(b off:Nat)(hx:a.eval x= .pointer (some ⟨b,off,none⟩))(cs:List Value)(d:TypeDesc)(hc:w.rangeAt b off cs)(hu:prog.underlying ty=some d)(hd:d.isRow=true)(hi:(prog.info? ty).map (·.size)=some cs.length):
 (execOp a.eval o).run prog w= .ok (.value (.agg cs.toArray)) w:=by
 unfold execOp;simp only[ho,hx,Instr.loadAt,Instr.sureAddr,B9,BA,Ba,run_loadVar_mid w b off ty cs d hc hu hd hi]
theorem Tl{x:Operand}{o:Oper}(ho:o.op= .load 68 x){b:Nat}(hx:a.eval x= .pointer (some ⟨b,0,none⟩)){y:NV}(hc:NBx b w y):(execOp a.eval o).run prog w= .ok (.value (.agg y.cells.toArray)) w:=
 LP 68 x ho b 0 hx y.cells _ hc.all underlying68 rfl (by rw[E7,NV.len hc.l])
theorem G9{x:Operand}{o:Oper}(ho:o.op= .load 65 x){b off:Nat}(hx:a.eval x= .pointer (some ⟨b,off,none⟩)){y:RV}(hl:y.d.length=32)(hc:w.rangeAt b off y.cells):(execOp a.eval o).run prog w= .ok (.value (.agg y.cells.toArray)) w:=
 LP 65 x ho b off hx y.cells _ hc underlying65 rfl (by rw[DF,RV.len hl])
end
end Go.Proofs.YtefhepcplempkaaGreat
namespace Go.Proofs.YtefhepcplempkaaGreat.Di
structure S4 where
 a:Int
 b:Int
 c:Int
 d:Int
def wr(x:Int):Int:=IntKind.u64.wrap x
def rotl(x k:Int):Int:=bits BinOp.or IntKind.u64 (IntKind.u64.wrap (x*2^k.toNat)) (x/2^(64-k).toNat)
def xr(x y:Int):Int:=bits BinOp.xor IntKind.u64 x y
def rnd(s:S4)(x:Int):S4:=
 let a:=wr (s.a+wr (s.b+x))
 let d:=rotl (xr s.d a) 32
 let c:=wr (s.c+d)
 let b:=rotl (xr s.b c) 24
 let a:=wr (a+b)
 let d:=rotl (xr d a) 16
 let c:=wr (c+d)
 let b:=rotl (xr b c) 63
 ⟨b,c,d,a⟩
def xor4(s m:S4):S4:=⟨xr s.a m.a,xr s.b m.b,xr s.c m.c,xr s.d m.d⟩
def kk:Int:=11400714819323198485
def stir(s m:S4):S4:=
 let s:=rnd s (wr (m.a+wr (1*kk)))
 let s:=rnd s (wr (m.b+wr (2*kk)))
 let s:=rnd s (wr (m.c+wr (3*kk)))
 let s:=rnd s (wr (m.d+wr (4*kk)))
 let s:=rnd s (wr (m.a+wr (5*kk)))
 let s:=rnd s (wr (m.b+wr (6*kk)))
 let s:=rnd s (wr (m.c+wr (7*kk)))
 rnd s (wr (m.d+wr (8*kk)))
def mix(s m:S4):S4:=xor4 (stir (xor4 s m) m) s
theorem ZL:bits BinOp.and IntKind.u64 32 63=32:=by decide
theorem ZN:bits BinOp.and IntKind.u64 24 63=24:=by decide
theorem ZO:bits BinOp.and IntKind.u64 16 63=16:=by decide
theorem ZP:bits BinOp.and IntKind.u64 63 63=63:=by decide
theorem ZC(x:Int)(w:World)(k:Int)(hk0:0<=k)(hk1:k<64)(hkk:bits BinOp.and IntKind.u64 k 63=k):
 Calls prog 152 #[.int .u64 x, .int .i64 k] w λe w'=>e= .returned (.int .u64 (rotl x k))/\w'=w:=by
 go_enter func152,ntmps152;go_wp2;go_ret;exact⟨rfl,rfl⟩
theorem round_any(a b c d x:Int)(w:World):
 Calls prog 146 #[.agg #[.int .u64 a, .int .u64 b, .int .u64 c, .int .u64 d], .int .u64 x] w λe w'=>(∃a' b' c' d',e= .returned (.agg #[.int .u64 a', .int .u64 b', .int .u64 c', .int .u64 d'])/\Hid (S4.mk a' b' c' d'=rnd ⟨a,b,c,d⟩ x))/\Below w.heap.size w w':=by
 go_enter func146,ntmps146;go_wp2_with fail
 go_quiet (fail)
 go_wp2_with (first|(go_at_call 152;refine(ZC _ _ _ (by omega) (by omega) (by first|exact ZL|exact ZN|exact ZO|exact ZP)).mono ?_;rintro e w'⟨rfl,rfl⟩))
 go_returns
 refine⟨⟨_,_,_,_,rfl,rfl⟩,?_⟩
 repeat' (first|refine Below.setCell ?_ (by simp<;>omega) _|refine below_drewN ?_ _|refine Below.alloc ?_ (by simp<;>omega) _|exact Ak _ _)
theorem Sb(a b c d x y z u:Int)(w:World):
 Calls prog 131 #[.agg #[.int .u64 a, .int .u64 b, .int .u64 c, .int .u64 d], .agg #[.int .u64 x, .int .u64 y, .int .u64 z, .int .u64 u]] w λe w'=>(∃a' b' c' d',e= .returned (.agg #[.int .u64 a', .int .u64 b', .int .u64 c', .int .u64 d'])/\Hid (S4.mk a' b' c' d'=xor4 ⟨a,b,c,d⟩ ⟨x,y,z,u⟩))/\Below w.heap.size w w':=by
 have i0:∀(w:World)(x0 x1 x2 x3:Value),(Instr.index 112 (.agg #[x0,x1,x2,x3]) (.int .i64 0)).run prog w= .ok x0 w:=λ_ _ _ _ _=>by kernel_rfl
 have i1:∀(w:World)(x0 x1 x2 x3:Value),(Instr.index 112 (.agg #[x0,x1,x2,x3]) (.int .i64 1)).run prog w= .ok x1 w:=λ_ _ _ _ _=>by kernel_rfl
 have i2:∀(w:World)(x0 x1 x2 x3:Value),(Instr.index 112 (.agg #[x0,x1,x2,x3]) (.int .i64 2)).run prog w= .ok x2 w:=λ_ _ _ _ _=>by kernel_rfl
 have i3:∀(w:World)(x0 x1 x2 x3:Value),(Instr.index 112 (.agg #[x0,x1,x2,x3]) (.int .i64 3)).run prog w= .ok x3 w:=λ_ _ _ _ _=>by kernel_rfl
 go_enter func131,ntmps131;go_wp2
 go_rounds 5
 go_returns
 refine⟨⟨_,_,_,_,rfl,rfl⟩,?_⟩
 repeat' (first|refine Below.setCell ?_ (by simp<;>omega) _|refine below_drewN ?_ _|refine Below.alloc ?_ (by simp<;>omega) _|exact Ak _ _)
structure Rows3(n:Nat)(w0 w:World)(r2 r3 r4:Array Value):Prop where
 h2:w.heap[n]?=some (.cells r2 112)
 h3:w.heap[n+1]?=some (.cells r3 112)
 h4:w.heap[n+1+1]?=some (.cells r4 112)
 bel:Below n w0 w
theorem ZQ{p:Prop}(h:p):Hid p:=h
theorem lt_of_get{α:Type}{xs:Array α}{i:Nat}{x:α}(h:xs[i]?=some x):i<xs.size:=(BV.1 h).1
theorem Rows3.call{n:Nat}{w0 v w1:World}{r2 r3 r4:Array Value}(h:Rows3 n w0 v r2 r3 r4)(hb:Below v.heap.size v w1):Rows3 n w0 w1 r2 r3 r4:=by
 have l:=lt_of_get h.h4;exact⟨(hb.block _ (by omega)).trans h.h2,(hb.block _ (by omega)).trans h.h3,(hb.block _ (by omega)).trans h.h4,h.bel.trans (hb.mono (by omega))⟩
theorem Da{w:World}{g t:Nat}{x0 x1 x2 x3:Value}(h:w.heap[g]?=some (.cells #[x0,x1,x2,x3] t)):
 w.cell? ⟨g,0,none⟩=some x0/\w.cell? ⟨g,1,none⟩=some x1/\w.cell? ⟨g,2,none⟩=some x2/\w.cell? ⟨g,3,none⟩=some x3/\∀o,w.frozen? ⟨g,o,none⟩=false:=
 ⟨by simp[World.cell?,h],by simp[World.cell?,h],by simp[World.cell?,h],by simp[World.cell?,h],λo=>AY w g o _ t h⟩
theorem Ve{w:World}{g t:Nat}{x0 x1 x2 x3:Value}(h:w.heap[g]?=some (.cells #[x0,x1,x2,x3] t))(a b c d:Value):
 ((((w.setCell ⟨g,0,none⟩ a).setCell ⟨g,1,none⟩ b).setCell ⟨g,2,none⟩ c).setCell ⟨g,3,none⟩ d).heap[g]?=some (.cells #[a,b,c,d] t):=by
 have h1:=AX w g 0 _ t a h;have h2:=AX _ g 1 _ t b h1;have h3:=AX _ g 2 _ t c h2;have h4:=AX _ g 3 _ t d h3;simpa using h4
theorem GT{w:World}{g k:Nat}(hk:k≠g)(a b c d:Value):
 ((((w.setCell ⟨g,0,none⟩ a).setCell ⟨g,1,none⟩ b).setCell ⟨g,2,none⟩ c).setCell ⟨g,3,none⟩ d).heap[k]?=w.heap[k]?:=by
 rw[AC _ _ _ _ hk,AC _ _ _ _ hk,AC _ _ _ _ hk,AC _ _ _ _ hk]
theorem JW{B:Nat}{w0 w:World}{g:Nat}(h:Below B w0 w)(hg:B<=g)(a b c d:Value):
 Below B w0 ((((w.setCell ⟨g,0,none⟩ a).setCell ⟨g,1,none⟩ b).setCell ⟨g,2,none⟩ c).setCell ⟨g,3,none⟩ d):=
 (((h.setCell hg a).setCell hg b).setCell hg c).setCell hg d
theorem Rows3.put{n:Nat}{w0 w:World}{x0 x1 x2 x3:Value}{r3 r4:Array Value}(h:Rows3 n w0 w #[x0,x1,x2,x3] r3 r4)(a b c d:Value):
 Rows3 n w0 ((((w.setCell ⟨n,0,none⟩ a).setCell ⟨n,1,none⟩ b).setCell ⟨n,2,none⟩ c).setCell ⟨n,3,none⟩ d) #[a,b,c,d] r3 r4:=
 ⟨Ve h.h2 a b c d,(GT (by omega) a b c d).trans h.h3,(GT (by omega) a b c d).trans h.h4,JW h.bel (Aa _) a b c d⟩
theorem MQ(w:World)(A B C:Array Value):Rows3 w.heap.size w (((w.alloc (.cells A 112)).alloc (.cells B 112)).alloc (.cells C 112)) A B C:=by
 have s1:(w.alloc (.cells A 112)).heap.size=w.heap.size+1:=by simp
 have s2:((w.alloc (.cells A 112)).alloc (.cells B 112)).heap.size=w.heap.size+1+1:=by simp
 have h1:=Aj w (.cells A 112);have h2:=Aj (w.alloc (.cells A 112)) (.cells B 112);have h3:=Aj ((w.alloc (.cells A 112)).alloc (.cells B 112)) (.cells C 112);rw[s1]at h2;rw[s2]at h3
 exact⟨by rw[Az _ _ _ (by omega),Az _ _ _ (by omega)];exact h1,by rw[Az _ _ _ (by omega)];exact h2,h3,
  (((Ak _ _).alloc (Aa _) _).alloc (by omega) _).alloc (by omega) _⟩
theorem Rows3.drew{n:Nat}{w0 w:World}{r2 r3 r4:Array Value}(h:Rows3 n w0 w r2 r3 r4):Rows3 n w0 w.drew r2 r3 r4:=⟨h.h2,h.h3,h.h4,h.bel.drew⟩
theorem Rows3.alloc{n:Nat}{w0 w:World}{r2 r3 r4:Array Value}(h:Rows3 n w0 w r2 r3 r4)(o:Obj):Rows3 n w0 (w.alloc o) r2 r3 r4:=by
 have l:=lt_of_get h.h4;exact⟨(Az _ _ _ (by omega)).trans h.h2,(Az _ _ _ (by omega)).trans h.h3,(Az _ _ _ (by omega)).trans h.h4,h.bel.alloc (by omega) _⟩
theorem Rows3.size{n:Nat}{w0 w:World}{r2 r3 r4:Array Value}(h:Rows3 n w0 w r2 r3 r4):n+1+1<w.heap.size:=lt_of_get h.h4
theorem Rows3.putAt{n:Nat}{w0 w:World}{r2 r3 r4:Array Value}(h:Rows3 n w0 w r2 r3 r4){g:Nat}(hg:n+1+1<g)(a b c d:Value):
 Rows3 n w0 ((((w.setCell ⟨g,0,none⟩ a).setCell ⟨g,1,none⟩ b).setCell ⟨g,2,none⟩ c).setCell ⟨g,3,none⟩ d) r2 r3 r4:=
 ⟨(GT (by omega) a b c d).trans h.h2,(GT (by omega) a b c d).trans h.h3,(GT (by omega) a b c d).trans h.h4,JW h.bel (by omega) a b c d⟩
theorem Below.row{W w1:World}(hb:Below W.heap.size W w1){g:Nat}{o:Obj}(h:W.heap[g]?=some o):w1.heap[g]?=some o:=(hb.block g (lt_of_get h)).trans h
theorem NS(w:World)(A B C D:Obj):Hid ((((((w.alloc A).alloc B).alloc C).alloc D).heap[w.heap.size+1+1+1]?)=some D):=by
 have s3:(((w.alloc A).alloc B).alloc C).heap.size=w.heap.size+1+1+1:=by simp
 have h:=Aj (((w.alloc A).alloc B).alloc C) D;rw[s3]at h;exact h
theorem Xc{a b c d x y z u:Int}{s1 s2 s3 s4 s5 s6 s7 s8:S4}
 (h1:s1=rnd ⟨a,b,c,d⟩ (IntKind.u64.wrap (x+11400714819323198485)))
 (h2:s2=rnd s1 (IntKind.u64.wrap (y+IntKind.u64.wrap 22801429638646396970)))
 (h3:s3=rnd s2 (IntKind.u64.wrap (z+IntKind.u64.wrap 34202144457969595455)))
 (h4:s4=rnd s3 (IntKind.u64.wrap (u+IntKind.u64.wrap 45602859277292793940)))
 (h5:s5=rnd s4 (IntKind.u64.wrap (x+IntKind.u64.wrap 57003574096615992425)))
 (h6:s6=rnd s5 (IntKind.u64.wrap (y+IntKind.u64.wrap 68404288915939190910)))
 (h7:s7=rnd s6 (IntKind.u64.wrap (z+IntKind.u64.wrap 79805003735262389395)))
 (h8:s8=rnd s7 (IntKind.u64.wrap (u+IntKind.u64.wrap 91205718554585587880))):s8=stir ⟨a,b,c,d⟩ ⟨x,y,z,u⟩:=by
 rw[h8,h7,h6,h5,h4,h3,h2,h1];have e1:wr (1*kk)=11400714819323198485:=by unfold wr kk;rw[C0];rfl
 unfold stir;rw[e1];rfl
theorem Vf(a b c d x y z u:Int)(w:World):
 Calls prog 130 #[.agg #[.int .u64 a, .int .u64 b, .int .u64 c, .int .u64 d], .agg #[.int .u64 x, .int .u64 y, .int .u64 z, .int .u64 u]] w λe w'=>(∃a' b' c' d',e= .returned (.agg #[.int .u64 a', .int .u64 b', .int .u64 c', .int .u64 d'])/\Hid (S4.mk a' b' c' d'=stir ⟨a,b,c,d⟩ ⟨x,y,z,u⟩))/\Below w.heap.size w w':=by
 have i0:∀(w:World)(x0 x1 x2 x3:Value),(Instr.index 112 (.agg #[x0,x1,x2,x3]) (.int .i64 0)).run prog w= .ok x0 w:=λ_ _ _ _ _=>by kernel_rfl
 have i1:∀(w:World)(x0 x1 x2 x3:Value),(Instr.index 112 (.agg #[x0,x1,x2,x3]) (.int .i64 1)).run prog w= .ok x1 w:=λ_ _ _ _ _=>by kernel_rfl
 have i2:∀(w:World)(x0 x1 x2 x3:Value),(Instr.index 112 (.agg #[x0,x1,x2,x3]) (.int .i64 2)).run prog w= .ok x2 w:=λ_ _ _ _ _=>by kernel_rfl
 have i3:∀(w:World)(x0 x1 x2 x3:Value),(Instr.index 112 (.agg #[x0,x1,x2,x3]) (.int .i64 3)).run prog w= .ok x3 w:=λ_ _ _ _ _=>by kernel_rfl
 have R0:=MQ w #[.int .u64 a, .int .u64 b, .int .u64 c, .int .u64 d] #[.int .u64 x, .int .u64 y, .int .u64 z, .int .u64 u] #[.int .u64 0, .int .u64 0, .int .u64 0, .int .u64 0];go_enter func130,ntmps130;go_wp2
 go_step3
 go_wp2
 go_step3
 go_wp2;refine wp_loop_rounds 2 ?_;rw[Ds];go_wp2;refine wp_loop_rounds 5 ?_;rw[Ds];go_wp2_with fail;refine(round_any _ _ _ _ _ _).mono ?_;rintro e w1⟨⟨a1,b1,c1,d1,rfl,H1⟩,hb1⟩;have S1:=Rows3.call R0 hb1;obtain⟨p1,q1,r1,s1,f1⟩:=Da S1.h2;clear hb1;go_wp2_with fail;have R1:=Rows3.put S1 (.int .u64 a1) (.int .u64 b1) (.int .u64 c1) (.int .u64 d1);rw[Ds];go_wp2_with fail;refine(round_any _ _ _ _ _ _).mono ?_;rintro e w2⟨⟨a2,b2,c2,d2,rfl,H2⟩,hb2⟩;clear p1 q1 r1 s1 f1;have S2:=Rows3.call R1 hb2;obtain⟨p2,q2,r2,s2,f2⟩:=Da S2.h2;clear hb2;go_wp2_with fail;have R2:=Rows3.put S2 (.int .u64 a2) (.int .u64 b2) (.int .u64 c2) (.int .u64 d2);rw[Ds];go_wp2_with fail;refine(round_any _ _ _ _ _ _).mono ?_;rintro e w3⟨⟨a3,b3,c3,d3,rfl,H3⟩,hb3⟩;clear p2 q2 r2 s2 f2;have S3:=Rows3.call R2 hb3;obtain⟨p3,q3,r3,s3,f3⟩:=Da S3.h2;clear hb3;go_wp2_with fail;have R3:=Rows3.put S3 (.int .u64 a3) (.int .u64 b3) (.int .u64 c3) (.int .u64 d3);rw[Ds];go_wp2_with fail;refine(round_any _ _ _ _ _ _).mono ?_;rintro e w4⟨⟨a4,b4,c4,d4,rfl,H4⟩,hb4⟩;clear p3 q3 r3 s3 f3;have S4:=Rows3.call R3 hb4;obtain⟨p4,q4,r4,s4,f4⟩:=Da S4.h2;clear hb4;go_wp2_with fail;have R4:=Rows3.put S4 (.int .u64 a4) (.int .u64 b4) (.int .u64 c4) (.int .u64 d4);rw[Ds];go_wp2_with fail;rw[Ds];obtain⟨p0,q0,r0,s0,_⟩:=Da R4.h3;go_wp2_with fail;refine wp_loop_rounds 5 ?_;rw[Ds];go_wp2_with fail;refine(round_any _ _ _ _ _ _).mono ?_;rintro e w5⟨⟨a5,b5,c5,d5,rfl,H5⟩,hb5⟩;clear p4 q4 r4 s4 f4;clear p0 q0 r0 s0;have S5:=Rows3.call R4 hb5;obtain⟨p5,q5,r5,s5,f5⟩:=Da S5.h2;clear hb5;go_wp2_with fail;have R5:=Rows3.put S5 (.int .u64 a5) (.int .u64 b5) (.int .u64 c5) (.int .u64 d5);rw[Ds];go_wp2_with fail;refine(round_any _ _ _ _ _ _).mono ?_;rintro e w6⟨⟨a6,b6,c6,d6,rfl,H6⟩,hb6⟩;clear p5 q5 r5 s5 f5;have S6:=Rows3.call R5 hb6;obtain⟨p6,q6,r6,s6,f6⟩:=Da S6.h2;clear hb6;go_wp2_with fail;have R6:=Rows3.put S6 (.int .u64 a6) (.int .u64 b6) (.int .u64 c6) (.int .u64 d6);rw[Ds];go_wp2_with fail;refine(round_any _ _ _ _ _ _).mono ?_;rintro e w7⟨⟨a7,b7,c7,d7,rfl,H7⟩,hb7⟩;clear p6 q6 r6 s6 f6;have S7:=Rows3.call R6 hb7;obtain⟨p7,q7,r7,s7,f7⟩:=Da S7.h2;clear hb7;go_wp2_with fail;have R7:=Rows3.put S7 (.int .u64 a7) (.int .u64 b7) (.int .u64 c7) (.int .u64 d7);rw[Ds];go_wp2_with fail;refine(round_any _ _ _ _ _ _).mono ?_;rintro e w8⟨⟨a8,b8,c8,d8,rfl,H8⟩,hb8⟩;clear p7 q7 r7 s7 f7;have S8:=Rows3.call R7 hb8;obtain⟨p8,q8,r8,s8,f8⟩:=Da S8.h2;clear hb8;obtain⟨p9,q9,r9,s9,f9⟩:=Da S8.h4;go_wp2_with fail;rw[Exit.noGoto_ret];have T8:=Rows3.put S8 (.int .u64 a8) (.int .u64 b8) (.int .u64 c8) (.int .u64 d8);have hrow:=Ve T8.h4 (.int .u64 a8) (.int .u64 b8) (.int .u64 c8) (.int .u64 d8);refine Aq (Bg results130 _ _ (w.heap.size+1+1) 112 #[.int .u64 a8, .int .u64 b8, .int .u64 c8, .int .u64 d8] (0,0) _ rfl hrow underlying112 rfl (by kernel_rfl)) rfl ?_;exact⟨⟨_,_,_,_,rfl,Xc H1.out H2.out H3.out H4.out H5.out H6.out H7.out H8.out⟩,JW T8.bel (by omega) _ _ _ _⟩
end Go.Proofs.YtefhepcplempkaaGreat.Di
namespace Go.Proofs.YtefhepcplempkaaGreat.Di
theorem YI{s m s1 s2 s3:S4}(h1:s1=xor4 s m)(h2:s2=stir s1 m)(h3:s3=xor4 s2 s):s3=mix s m:=by
 rw[h3,h2,h1];rfl
theorem ZD{n:Nat}{w0 v:World}{a b c d x y z u:Value}{r4:Array Value}(h:Rows3 n w0 v #[a,b,c,d] #[x,y,z,u] r4):
 (v.cell? ⟨n,0,none⟩=some a/\v.cell? ⟨n,1,none⟩=some b/\v.cell? ⟨n,2,none⟩=some c/\v.cell? ⟨n,3,none⟩=some d/\v.cell? ⟨n+1,0,none⟩=some x/\v.cell? ⟨n+1,1,none⟩=some y/\v.cell? ⟨n+1,2,none⟩=some z/\v.cell? ⟨n+1,3,none⟩=some u)/\Rows3 n w0 v #[a,b,c,d] #[x,y,z,u] r4:=by
 obtain⟨p,q,r,s,_⟩:=Da h.h2;obtain⟨p',q',r',s',_⟩:=Da h.h3;exact⟨⟨p,q,r,s,p',q',r',s'⟩,h⟩
theorem J5(a b c d x y z u:Int)(w:World):
 Calls prog 91 #[.agg #[.int .u64 a, .int .u64 b, .int .u64 c, .int .u64 d], .agg #[.int .u64 x, .int .u64 y, .int .u64 z, .int .u64 u]] w λe w'=>(∃a' b' c' d',e= .returned (.agg #[.int .u64 a', .int .u64 b', .int .u64 c', .int .u64 d'])/\Hid (S4.mk a' b' c' d'=mix ⟨a,b,c,d⟩ ⟨x,y,z,u⟩))/\Below w.heap.size w w':=by
 have R0:=MQ w #[.int .u64 a, .int .u64 b, .int .u64 c, .int .u64 d] #[.int .u64 x, .int .u64 y, .int .u64 z, .int .u64 u] #[.int .u64 0, .int .u64 0, .int .u64 0, .int .u64 0];have A0:=NS w (.cells #[.int .u64 a, .int .u64 b, .int .u64 c, .int .u64 d] 112) (.cells #[.int .u64 x, .int .u64 y, .int .u64 z, .int .u64 u] 112) (.cells #[.int .u64 0, .int .u64 0, .int .u64 0, .int .u64 0] 112) (.cells #[.int .u64 0, .int .u64 0, .int .u64 0, .int .u64 0] 112);go_enter func91,ntmps91;go_wp2_with fail
 go_region_held3 (λv=>(v.cell? ⟨w.heap.size,0,none⟩=some (.int .u64 a)/\v.cell? ⟨w.heap.size,1,none⟩=some (.int .u64 b)/\v.cell? ⟨w.heap.size,2,none⟩=some (.int .u64 c)/\v.cell? ⟨w.heap.size,3,none⟩=some (.int .u64 d)/\v.cell? ⟨w.heap.size+1,0,none⟩=some (.int .u64 x)/\v.cell? ⟨w.heap.size+1,1,none⟩=some (.int .u64 y)/\v.cell? ⟨w.heap.size+1,2,none⟩=some (.int .u64 z)/\v.cell? ⟨w.heap.size+1,3,none⟩=some (.int .u64 u))/\Rows3 w.heap.size w v #[.int .u64 a, .int .u64 b, .int .u64 c, .int .u64 d] #[.int .u64 x, .int .u64 y, .int .u64 z, .int .u64 u] #[.int .u64 0, .int .u64 0, .int .u64 0, .int .u64 0])
  ((refine ZD ?_;first|exact R0.drew|(with_reducible assumption)|exact Rows3.alloc (And.right (by assumption)) _|exact Rows3.alloc (by assumption) _|exact(R0.alloc _).drew|exact Rows3.putAt (And.right (by assumption)) (by omega) _ _ _ _|exact Rows3.putAt (by assumption) (by omega) _ _ _ _))
  (first
  |(go_at_call 131;refine(Sb _ _ _ _ _ _ _ _ _).mono ?_;rintro e w1⟨⟨a1,b1,c1,d1,rfl,H1⟩,hb1⟩;have S1:=Rows3.call (And.right (by assumption)) hb1;have z1:=S1.size;first|(have h5:=Below.row hb1 A0.out;clear hb1)|(clear hb1))
  |(go_at_call 130;refine(Vf _ _ _ _ _ _ _ _ _).mono ?_;rintro e w2⟨⟨a2,b2,c2,d2,rfl,H2⟩,hb2⟩;have S2:=Rows3.call (And.right (by assumption)) hb2;have z2:=S2.size;first|(have h6:=Below.row hb2 h5;obtain⟨p2,q2,r2,s2,f2⟩:=Da h6;clear hb2)|(have h6:=Below.row hb2 (Aj w1 _);obtain⟨p2,q2,r2,s2,f2⟩:=Da h6;clear hb2)|(clear hb2)))
 all_goals
  go_wp2_with fail;refine(Sb _ _ _ _ _ _ _ _ _).mono ?_;rintro e w3⟨⟨a3,b3,c3,d3,rfl,H3⟩,hb3⟩;have S3:=Rows3.call (And.right (by assumption)) hb3;obtain⟨p3,q3,r3,s3,f3⟩:=Da S3.h4;clear hb3;go_wp2_with fail;have hrow:=Ve S3.h4 (.int .u64 a3) (.int .u64 b3) (.int .u64 c3) (.int .u64 d3);refine Aq (Bg results91 _ _ (w.heap.size+1+1) 112 #[.int .u64 a3, .int .u64 b3, .int .u64 c3, .int .u64 d3] (0,0) _ rfl hrow underlying112 rfl (by kernel_rfl)) rfl ?_;exact⟨⟨_,_,_,_,rfl,YI H1.out H2.out H3.out⟩,JW S3.bel (by omega) _ _ _ _⟩
end Go.Proofs.YtefhepcplempkaaGreat.Di
namespace Go.Proofs.YtefhepcplempkaaGreat.Di
def B8(bs:List Int):Array Value:=(bs.map (Value.int .u8)).toArray
theorem B8_size(bs:List Int):(B8 bs).size=bs.length:=by simp[B8]
theorem B8_get(bs:List Int)(k:Nat)(h:k<bs.length):(B8 bs)[k]?=some (.int .u8 (bs.getD k 0)):=by simp[B8,h]
theorem Mx{P:Program}(t e n:Nat)(k:IntKind)(hu:P.underlying t=some (.array n e))(hs:(P.info? e).map (·.size)=some 1)(ha:P.underlying e=some (.int k))(cs:Array Value)(i:Int)(v:Value)(h0:0<=i)(hn:i<n)(hv:cs[i.toNat]?=some v)(w:World):
 (Instr.index t (.agg cs) (.int .i64 i)).run P w= .ok v w:=by
 cases hq:P.info? e with
 |none=>simp[hq]at hs
 |some y=>
  have hy:y.size=1:=by simpa[hq]using hs
  simp[Instr.index,asIntOf,BE hu,BE ha,h0,hn,sizeOf,typeInfo,hq,hy,part,isAgg,hv]
def or8(m b:Int):Int:=wr (m*256+b)
def wstep(m:S4)(k:Nat)(b:Int):S4:=
 if k<8 then{m with a:=or8 m.a b}else if k<16 then{m with b:=or8 m.b b}else if k<24 then{m with c:=or8 m.c b}else{m with d:=or8 m.d b}
def wfold(bs:List Int):Nat->S4
 |0=>⟨0,0,0,0⟩
 |k+1=>wstep (wfold bs k) k (bs.getD k 0)
def words(bs:List Int):S4:=wfold bs 32
def V4(s:S4):Array Value:=#[.int .u64 s.a, .int .u64 s.b, .int .u64 s.c, .int .u64 s.d]
theorem Lc(m b:Int)(h0:0<=b)(h1:b<256):bits BinOp.or IntKind.u64 (IntKind.u64.wrap (m*256)) b=or8 m b:=by
 have hw:∀n:Int,0<=n->n<2^64->IntKind.u64.wrap n=n:=λn a b=>by rw[C0];omega
 rw[C0];have e:=bits_join .u64 64 (by decide) hw 8 (m*256%18446744073709551616) b (by omega) (by omega) (by omega) h0 (by omega) (by omega);rw[e];unfold or8 wr;rw[C0];omega
structure Rows2(n:Nat)(w0 w:World)(r3 r4:Array Value):Prop where
 h3:w.heap[n+1]?=some (.cells r3 112)
 h4:w.heap[n+1+1]?=some (.cells r4 112)
 bel:Below n w0 w
theorem Rows2.put0{n:Nat}{w0 w:World}{x0 x1 x2 x3:Value}{r3:Array Value}(h:Rows2 n w0 w r3 #[x0,x1,x2,x3])(v:Value):Rows2 n w0 (w.setCell ⟨n+1+1,0,none⟩ v) r3 #[v,x1,x2,x3]:=
 ⟨(AC _ _ _ _ (by simp)).trans h.h3,by simpa using AX w (n+1+1) 0 _ 112 v h.h4,h.bel.setCell (by simp;omega) _⟩
theorem Rows2.put1{n:Nat}{w0 w:World}{x0 x1 x2 x3:Value}{r3:Array Value}(h:Rows2 n w0 w r3 #[x0,x1,x2,x3])(v:Value):Rows2 n w0 (w.setCell ⟨n+1+1,1,none⟩ v) r3 #[x0,v,x2,x3]:=
 ⟨(AC _ _ _ _ (by simp)).trans h.h3,by simpa using AX w (n+1+1) 1 _ 112 v h.h4,h.bel.setCell (by simp;omega) _⟩
theorem Rows2.put2{n:Nat}{w0 w:World}{x0 x1 x2 x3:Value}{r3:Array Value}(h:Rows2 n w0 w r3 #[x0,x1,x2,x3])(v:Value):Rows2 n w0 (w.setCell ⟨n+1+1,2,none⟩ v) r3 #[x0,x1,v,x3]:=
 ⟨(AC _ _ _ _ (by simp)).trans h.h3,by simpa using AX w (n+1+1) 2 _ 112 v h.h4,h.bel.setCell (by simp;omega) _⟩
theorem Rows2.put3{n:Nat}{w0 w:World}{x0 x1 x2 x3:Value}{r3:Array Value}(h:Rows2 n w0 w r3 #[x0,x1,x2,x3])(v:Value):Rows2 n w0 (w.setCell ⟨n+1+1,3,none⟩ v) r3 #[x0,x1,x2,v]:=
 ⟨(AC _ _ _ _ (by simp)).trans h.h3,by simpa using AX w (n+1+1) 3 _ 112 v h.h4,h.bel.setCell (by simp;omega) _⟩
theorem Tm(w:World)(o:Obj)(B C:Array Value):Rows2 w.heap.size w (((w.alloc o).alloc (.cells B 112)).alloc (.cells C 112)) B C:=by
 have s1:(w.alloc o).heap.size=w.heap.size+1:=by simp
 have s2:((w.alloc o).alloc (.cells B 112)).heap.size=w.heap.size+1+1:=by simp
 have h2:=Aj (w.alloc o) (.cells B 112);have h3:=Aj ((w.alloc o).alloc (.cells B 112)) (.cells C 112);rw[s1]at h2;rw[s2]at h3;exact⟨by rw[Az _ _ _ (by omega)];exact h2,h3,(((Ak _ _).alloc (Aa _) _).alloc (by omega) _).alloc (by omega) _⟩
theorem getD_mem(bs:List Int)(k:Nat)(h:k<bs.length):bs.getD k 0∈bs:=by simp[List.getD,Ac h]
theorem Ql(bs:List Int)(k:Nat)(m:S4)(b:Int)(h:wfold bs k=m)(hb:bs.getD k 0=b):wfold bs (k+1)=wstep m k b:=by rw[<-h,<-hb];rfl
theorem GA(bs:List Int)(hn:bs.length=32)(hb:∀b∈bs,0<=b/\b<256)(w:World):
 Calls prog 92 #[.agg (B8 bs)] w λe w'=>(∃a' b' c' d',e= .returned (.agg #[.int .u64 a', .int .u64 b', .int .u64 c', .int .u64 d'])/\Hid (S4.mk a' b' c' d'=words bs))/\Below w.heap.size w w':=by
 have hrow:((((w.alloc (.cells (B8 bs) 34)).alloc (.cells #[.int .u64 0, .int .u64 0, .int .u64 0, .int .u64 0] 112)).alloc (.cells #[.int .u64 0, .int .u64 0, .int .u64 0, .int .u64 0] 112)).heap[w.heap.size]?)=some (.cells (B8 bs) 34 (0,0)):=by
  rw[Az _ _ _ (by simp;omega),Az _ _ _ (by simp)];exact Aj _ _
 have hin:(prog.info? 34).map (·.size)=some (B8 bs).size:=by rw[B8_size,hn];kernel_rfl
 have HR:=ZQ hrow;clear hrow;have HI:=ZQ hin;clear hin;go_enter func92,ntmps92;go_wp2_with (first|refine EU rfl 34 _ rfl _ rfl 34 _ _ _ HR.out underlying34 rfl HI.out ?_)
 go_loopw [7] (λi v=>∃k:Nat,k<=32/\i= .int .i64 k/\Rows2 w.heap.size w v #[.int .u64 0, .int .u64 0, .int .u64 0, .int .u64 0] (V4 (wfold bs k))) (λi _=>32-(intOf i).toNat)
 case atStart=>
  exact⟨0,by omega,rfl,Tm w _ _ _⟩
 case round=>
  obtain⟨k,hk,rfl,R⟩:=hrel;by_cases hlt:k<32
  ·obtain⟨hb0,hb1⟩:0<=bs.getD k 0/\bs.getD k 0<256:=hb _ (getD_mem bs k (by omega));have hix:=λv=>Mx (P:=prog) 34 5 32 .u8 underlying34 (by kernel_rfl) underlying5 (B8 bs) (k:Int) _ (by omega) (by omega) (B8_get bs k (by omega)) v;have HB:Hid (bs.getD k 0=bs.getD k 0):=rfl;generalize hbk:bs.getD k 0=b at hb0 hb1 hix;generalize hm:wfold bs k=m at R;obtain⟨ma,mb,mc,md⟩:=m;have W1:=ZQ (Ql bs k _ b hm hbk);clear hm hbk HB;have R':Rows2 w.heap.size w _ _ #[.int .u64 ma, .int .u64 mb, .int .u64 mc, .int .u64 md]:=R;obtain⟨p,q,r,s,f⟩:=Da R'.h4;have hc:k<8∨(8<=k/\k<16)∨(16<=k/\k<24)∨24<=k:=(by omega);rcases hc with hc|hc|hc|hc
   ·have hq:(k:Int)/8=0:=(by omega);go_wp2;refine⟨⟨k+1,by omega,by go_num,?_⟩,by simp[intOf];omega⟩;rw[W1.out,Lc _ _ hb0 hb1];simpa[wstep,hc,V4]using R'.put0 (.int .u64 (or8 ma b))
   ·have hq:(k:Int)/8=1:=(by omega);go_wp2;refine⟨⟨k+1,by omega,by go_num,?_⟩,by simp[intOf];omega⟩;rw[W1.out,Lc _ _ hb0 hb1];simpa[wstep,show¬k<8 from by omega,show k<16 from by omega,V4]using R'.put1 (.int .u64 (or8 mb b))
   ·have hq:(k:Int)/8=2:=(by omega);go_wp2;refine⟨⟨k+1,by omega,by go_num,?_⟩,by simp[intOf];omega⟩;rw[W1.out,Lc _ _ hb0 hb1];simpa[wstep,show¬k<8 from by omega,show¬k<16 from by omega,show k<24 from by omega,V4]using R'.put2 (.int .u64 (or8 mc b))
   ·have hq:(k:Int)/8=3:=(by omega);go_wp2;refine⟨⟨k+1,by omega,by go_num,?_⟩,by simp[intOf];omega⟩;rw[W1.out,Lc _ _ hb0 hb1];simpa[wstep,show¬k<8 from by omega,show¬k<16 from by omega,show¬k<24 from by omega,V4]using R'.put3 (.int .u64 (or8 md b))
  ·have hk2:k=32:=(by omega);subst hk2;generalize hm:wfold bs 32=m at R;obtain⟨ma,mb,mc,md⟩:=m;have W1:=ZQ hm;clear hm;have R':Rows2 w.heap.size w _ _ #[.int .u64 ma, .int .u64 mb, .int .u64 mc, .int .u64 md]:=R;obtain⟨p,q,r,s,f⟩:=Da R'.h4;obtain⟨p3,q3,r3,s3,f3⟩:=Da R'.h3;go_wp2;have hrow:=Ve R'.h3 (.int .u64 ma) (.int .u64 mb) (.int .u64 mc) (.int .u64 md);refine Aq (Bg results92 _ _ (w.heap.size+1) 112 #[.int .u64 ma, .int .u64 mb, .int .u64 mc, .int .u64 md] (0,0) _ rfl hrow underlying112 rfl (by kernel_rfl)) rfl ?_;exact⟨⟨_,_,_,_,rfl,W1.out.symm⟩,JW R'.bel (by omega) _ _ _ _⟩
end Go.Proofs.YtefhepcplempkaaGreat.Di
namespace Go.Proofs.YtefhepcplempkaaGreat.Di
structure Tri(n:Nat)(w0 w:World)(A B C:Obj):Prop where
 hA:w.heap[n]?=some A
 hB:w.heap[n+1]?=some B
 hC:w.heap[n+1+1]?=some C
 bel:Below n w0 w
theorem Xd(w:World)(A B C:Obj):Tri w.heap.size w (((w.alloc A).alloc B).alloc C) A B C:=by
 have s1:(w.alloc A).heap.size=w.heap.size+1:=by simp
 have s2:((w.alloc A).alloc B).heap.size=w.heap.size+1+1:=by simp
 have h1:=Aj w A;have h2:=Aj (w.alloc A) B;have h3:=Aj ((w.alloc A).alloc B) C;rw[s1]at h2;rw[s2]at h3
 exact⟨by rw[Az _ _ _ (by omega),Az _ _ _ (by omega)];exact h1,by rw[Az _ _ _ (by omega)];exact h2,h3,
  (((Ak _ _).alloc (Aa _) _).alloc (by omega) _).alloc (by omega) _⟩
theorem Qm(ds:List Int)(k:Nat)(x:Int):(B8 ds).setIfInBounds k (.int .u8 x)=B8 (ds.set k x):=by
 unfold B8;simp[List.map_set]
theorem Tri.setC{n:Nat}{w0 w:World}{A B:Obj}{ds:List Int}{t:Nat}(h:Tri n w0 w A B (.cells (B8 ds) t))(k:Nat)(x:Int):Tri n w0 (w.setCell ⟨n+1+1,k,none⟩ (.int .u8 x)) A B (.cells (B8 (ds.set k x)) t):=
 ⟨(AC _ _ _ _ (by simp;omega)).trans h.hA,(AC _ _ _ _ (by simp)).trans h.hB,by rw[AX w (n+1+1) k _ t _ h.hC,Qm],h.bel.setCell (by simp;omega) _⟩
theorem NT{w:World}{g t:Nat}{ds:List Int}(h:w.heap[g]?=some (.cells (B8 ds) t))(k:Nat)(hk:k<ds.length):w.cell? ⟨g,k,none⟩=some (.int .u8 (ds.getD k 0)):=by
 rw[Ad w g k _ _ _ h,B8_get ds k hk]
def sel(s:S4)(k:Nat):Int:=if k<8 then s.a else if k<16 then s.b else if k<24 then s.c else s.d
def bt(x:Int)(k:Nat):Int:=x/2^(56-8*(k%8))%256
def digk(s:S4)(k:Nat):List Int:=(List.range 32).map (λi=>if i<k then bt (sel s i) i else 0)
def dig(s:S4):List Int:=(List.range 32).map (λi=>bt (sel s i) i)
theorem OU(s:S4):digk s 32=dig s:=by
 unfold digk dig;refine List.map_congr_left λi hi=>?_;rw[Ai (by simpa using hi)]
theorem Ky(s:S4)(k:Nat):(digk s k).length=32:=by simp[digk]
theorem Fc(s:S4)(k:Nat):(digk s k).set k (bt (sel s k) k)=digk s (k+1):=by
 apply List.ext_getElem
 ·simp[digk]
 ·intro i h1 h2;simp[digk,List.getElem_set];by_cases e:k=i
  ·subst e;simp
  ·simp[e];by_cases e2:i<k
   ·simp[e2,Nat.lt_succ_of_lt e2]
   ·rw[Ae e2,Ae (by omega)]
theorem B8_one(bs:List Int):(B8 bs).all (·.oneCell')=true:=by
 simp[B8,Value.oneCell']
theorem Below.setRow{B:Nat}{w0 w:World}{g:Nat}(h:Below B w0 w)(hg:B<=g)(cs:Array Value):Below B w0 (w.setRow g cs):=
 h.trans ⟨rfl,rfl,rfl,by simp,λk hk=>Bf w g k cs (by omega)⟩
theorem MR(a b c d:Int)(w:World):
 Calls prog 93 #[.agg #[.int .u64 a, .int .u64 b, .int .u64 c, .int .u64 d]] w λe w'=>e= .returned (.agg (B8 (dig ⟨a,b,c,d⟩)))/\Below w.heap.size w w':=by
 go_enter func93,ntmps93;go_wp2_with fail
 go_loopw [5] (λi v=>∃k:Nat,k<=32/\i= .int .i64 k/\Tri w.heap.size w v (.cells #[.int .u64 a, .int .u64 b, .int .u64 c, .int .u64 d] 112) (.cells (B8 (List.replicate 32 0)) 35) (.cells (B8 (digk ⟨a,b,c,d⟩ k)) 35)) (λi _=>32-(intOf i).toNat)
 case atStart=>
  exact⟨0,by omega,rfl,Xd w _ _ _⟩
 case round=>
  obtain⟨k,hk,rfl,R⟩:=hrel;by_cases hlt:k<32
  ·obtain⟨p,q,r,s,f⟩:=Da R.hA;have hcell:=NT R.hC k (by rw[Ky];omega);have hfr:=AY _ _ k _ _ R.hC;have hc:k<8∨(8<=k/\k<16)∨(16<=k/\k<24)∨24<=k:=(by omega);generalize (digk ⟨a,b,c,d⟩ k).getD k 0=y at hcell;rcases hc with hc|hc|hc|hc
   ·have hq:(k:Int)/8=0:=(by omega);go_wp2;refine⟨⟨k+1,by omega,by go_num,?_⟩,by simp[intOf];omega⟩;have e:sel ⟨a,b,c,d⟩ k=a:=(by simp[sel,hc]);have T:=R.setC k (bt (sel ⟨a,b,c,d⟩ k) k);rw[Fc,e]at T;exact T
   ·have hq:(k:Int)/8=1:=(by omega);go_wp2;refine⟨⟨k+1,by omega,by go_num,?_⟩,by simp[intOf];omega⟩;have e:sel ⟨a,b,c,d⟩ k=b:=(by simp[sel,show¬k<8 from by omega,show k<16 from by omega]);have T:=R.setC k (bt (sel ⟨a,b,c,d⟩ k) k);rw[Fc,e]at T;exact T
   ·have hq:(k:Int)/8=2:=(by omega);go_wp2;refine⟨⟨k+1,by omega,by go_num,?_⟩,by simp[intOf];omega⟩;have e:sel ⟨a,b,c,d⟩ k=c:=(by simp[sel,show¬k<8 from by omega,show¬k<16 from by omega,show k<24 from by omega]);have T:=R.setC k (bt (sel ⟨a,b,c,d⟩ k) k);rw[Fc,e]at T;exact T
   ·have hq:(k:Int)/8=3:=(by omega);go_wp2;refine⟨⟨k+1,by omega,by go_num,?_⟩,by simp[intOf];omega⟩;have e:sel ⟨a,b,c,d⟩ k=d:=(by simp[sel,show¬k<8 from by omega,show¬k<16 from by omega,show¬k<24 from by omega]);have T:=R.setC k (bt (sel ⟨a,b,c,d⟩ k) k);rw[Fc,e]at T;exact T
  ·have hk2:k=32:=(by omega);subst hk2;rw[OU]at R;have hin:(prog.info? 35).map (·.size)=some (B8 (dig ⟨a,b,c,d⟩)).size:=(by rw[B8_size];kernel_rfl);have HI:=ZQ hin;clear hin;have HC:=ZQ R.hC;have HBr:=ZQ R.hB;go_wp2_with (first|refine EU rfl 35 _ rfl _ rfl 35 _ _ _ HC.out underlying35 rfl HI.out ?_|refine A7 rfl 35 _ _ rfl _ (B8 (dig ⟨a,b,c,d⟩)) rfl rfl 35 _ HBr.out HI.out (by simp[B8_size,dig]) (B8_one _) ?_);refine Aq (Bg results93 _ _ (w.heap.size+1) 35 (B8 (dig ⟨a,b,c,d⟩)) (0,0) _ rfl (AE _ _ _ _ _ _ HBr.out) underlying35 rfl HI.out) rfl ?_;exact⟨rfl,Below.setRow R.bel (by omega) _⟩
end Go.Proofs.YtefhepcplempkaaGreat.Di
