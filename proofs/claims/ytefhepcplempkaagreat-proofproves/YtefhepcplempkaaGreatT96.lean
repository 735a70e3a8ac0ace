/- Proved: the statement ProofProves, for every input (Rows.ProofProvesSaid), with no condition. -/
import Derived.Test.YtefhepcplempkaaGreatAL
import Derived.Test.YtefhepcplempkaaGreatG25
set_option linter.unusedVariables false
open Go.Proofs.Tryz
namespace Go.Proofs.YtefhepcplempkaaGreat
open Go.ChangeShapes Go.WideShapes Go.ChangeAt Go.RowKit
open Go.ChangeMaps (open_string shut_string)
set_option maxRecDepth 100000 in
theorem Jd(os:Os)(started:os.Started)(H:Type)(enc:TypeId×Value->H):
 ReturnsInHanded {} checked os 3 .any (Rows.proofProvesSpec.pre6 enc prog f3 Rows.proofProvesRow.domain false) (Rows.proofProvesSpec.post enc prog f3 false true false false):=by
 refine returnsInHanded_of_change_sized (C:=checked) own started (by kernel_rfl) func3
  (ChangeSpec.witness6 (enc:=enc) (C:=checked) false ⟨#[],#[.slice none 0 0, .slice none 0 0],[]⟩ 8 (by kernel_rfl) (by kernel_rfl) (by kernel_rfl) (by kernel_rfl)) ?_
 intro W base args ds gs before hval0 hW hcnd hsz0 _;have hval:∀(j:Nat) t v,f3.params[j]?=some t->args[j]?=some v->Value.okWide prog W .any base t v:=hval0;have hsz:(DataW.weightsEach prog (f3.params.toList++Rows.proofProvesSpec.plain.varTypes prog) (ds++gs)).all (·<=reachBytes)=true:=hsz0;have hW':=hW;obtain⟨p,q,hA0,hV,rfl,hfz,hnd⟩:=hW;have hA:DataW.TrodAll enc prog W 0 (λ_=>true) true f3.params.toList args.toList ds p:=hA0;rw[params3]at hA hval hsz;obtain⟨v0,vs0,d0,ds0,p0,q0,hargs,rfl,rfl,h0,r0⟩:=trodAll_cons hA;obtain⟨v1,vs1,d1,ds1,p1,q1,rfl,rfl,rfl,h1,r1⟩:=trodAll_cons r0;obtain⟨rfl,rfl,rfl⟩:=trodAll_nil r1;obtain rfl:args=#[v0,v1]:=by cases args;simp_all
 obtain⟨rfl,rfl⟩:=trodVars_none hV;have k0:=h0;have lt0:∀x∈p0,x.block<W.heap.size:=by obtain⟨m,hm⟩:=k0;exact DataW.trod_lt m _ _ _ hm
 have k1:=h1;have lt1:∀x∈p1,x.block<W.heap.size:=by obtain⟨m,hm⟩:=k1;exact DataW.trod_lt m _ _ _ hm
 obtain⟨a0,len0,cap0,xs0,ls0,rfl,cs0,le0⟩:=Rq (hval 0 22 v0 rfl rfl) h0 (WB hsz (j:=0) rfl rfl);obtain⟨a1,len1,cap1,bs1,rfl,ag1,le1⟩:=XX (hval 1 23 v1 rfl rfl) h1 (λelems spare hd=>by subst hd;exact sized_slice hsz (j:=1) (t:=23) (e:=5) rfl rfl underlying23);clear hA0 hval0;refine(PH (K1:=λ_=>True) a0 len0 cap0 xs0 ls0 a1 len1 cap1 bs1 W cs0 le0 ⟨ag1,λ_ _ _=>trivial⟩).mono λe W'⟨he,bel⟩=>?_;subst he;exact⟨_,rfl,_,_,_,[],_,[],hW',trodAll_mk1 (shut_bool underlying4 _),(trodAll_cons_mk (Below.trod SF (by kernel_rfl) (DQ (by kernel_rfl)) k0 bel lt0) (trodAll_cons_mk (Below.trod SF (by kernel_rfl) (DQ (by kernel_rfl)) k1 bel lt1) trodAll_mk0)),rfl,bel.frame _,λh=>by cases h⟩
theorem Ko:Rows.proofProvesRow.holds Tryz.pinned (OpenSpec.ofChange Rows.proofProvesSpec):=
 OpenClaim.holds_of_wide 3 Tryz.f3 rfl rfl rfl rfl rfl rfl rfl ⟨rfl,rfl,rfl,rfl,rfl⟩ rfl rfl rfl rfl rfl (by kernel_rfl) Tryz.func3 (by kernel_rfl)
  (of_decide_eq_true (by kernel_rfl)) (by unfold Func.isWrapper;first|(rw[if_pos (by decide+kernel)];kernel_rfl)|(rw[if_neg (by decide+kernel)];exact⟨rfl,rfl⟩))
  (λos started H enc _=>Jd os started H enc)
theorem proofProves_holds : Rows.ProofProvesSaid := Ko
#print axioms proofProves_holds
end Go.Proofs.YtefhepcplempkaaGreat
