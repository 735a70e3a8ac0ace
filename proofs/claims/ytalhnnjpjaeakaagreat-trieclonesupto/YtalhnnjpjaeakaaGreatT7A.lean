/- Proved: the statement TrieClones where what is read is of bulk at most 1048576 (Rows.TrieClonesUptoSaid). -/
import Derived.Test.YtalhnnjpjaeakaaGreatAL
import Derived.Test.YtalhnnjpjaeakaaGreatG25
set_option linter.unusedVariables false
set_option maxRecDepth 100000
open Go.Proofs.Tryz
namespace Go.Proofs.YtalhnnjpjaeakaaGreat
open Go.ChangeShapes Go.WideShapes Go.ChangeAt Go.RowKit
open Go.ChangeMaps (open_string shut_string)
theorem I0(H:Type)(enc:TypeId×Value->H)(W:World)(base:Nat)(args:Array Value)(ds gs:List (DataW H))(before:List MemPlace)
 (hval0:∀(j:Nat) t v,f4.params[j]?=some t->args[j]?=some v->Value.okWide prog W .any base t v)
 (hW:DataW.Whole enc prog f4.params.toList Rows.trieClonesSpec.vars false W args.toList ds gs before) (hk:Rows.uptoSmall H (ds++gs)=true):
 Calls prog 4 args W λe W'=>∃v,e= .returned v/\Rows.trieClonesSpec.post enc prog f4 false true false false W args v W':=by
 have hval:∀(j:Nat) t v,f4.params[j]?=some t->args[j]?=some v->Value.okWide prog W .any base t v:=hval0;have hW':=hW;obtain⟨p,q,hA0,hV,rfl,hfz,hnd⟩:=hW;have hA:DataW.TrodAll enc prog W 0 (λ_=>true) true f4.params.toList args.toList ds p:=hA0;rw[params4]at hA hval;obtain⟨v0,vs0,d0,ds0,p0,q0,hargs,rfl,rfl,h0,r0⟩:=trodAll_cons hA;obtain⟨v1,vs1,d1,ds1,p1,q1,rfl,rfl,rfl,h1,r1⟩:=trodAll_cons r0;obtain⟨rfl,rfl,rfl⟩:=trodAll_nil r1;obtain rfl:args=#[v0,v1]:=by cases args;simp_all
 obtain⟨rfl,rfl⟩:=trodVars_none hV;have hbk:Rows.uptoBulkAll [d0,d1]<=1048576:=by
  simp only[Az]at hk;exact CQ hk
 simp only[Rows.uptoBulkAll]at hbk;have k0:=h0;have lt0:∀x∈p0,x.block<W.heap.size:=by obtain⟨m,hm⟩:=k0;exact DataW.trod_lt m _ _ _ hm
 have k1:=h1;have lt1:∀x∈p1,x.block<W.heap.size:=by obtain⟨m,hm⟩:=k1;exact DataW.trod_lt m _ _ _ hm
 obtain⟨a0,len0,cap0,xs0,rfl,cs0,le0,sm0⟩:=NC (hval 0 22 v0 rfl rfl) h0 (by omega);obtain⟨a1,len1,cap1,xs1,rfl,cs1,le1,sm1⟩:=NC (hval 1 22 v1 rfl rfl) h1 (by omega);clear hA0 hval0;refine(RG a0 len0 cap0 xs0 a1 len1 cap1 xs1 W cs0 le0 sm0 cs1 le1 sm1).mono λe W'⟨he,bel⟩=>?_;subst he;exact⟨_,rfl,_,_,_,[],_,[],hW',trodAll_mk1 (shut_bool underlying4 _),(trodAll_cons_mk (Below.trod Tf (by kernel_rfl) (CQ (by kernel_rfl)) k0 bel lt0) (trodAll_cons_mk (Below.trod Tf (by kernel_rfl) (CQ (by kernel_rfl)) k1 bel lt1) trodAll_mk0)),rfl,bel.frame _,λh=>by cases h⟩
set_option maxRecDepth 100000 in
theorem JD(os:Os)(started:os.Started)(H:Type)(enc:TypeId×Value->H)(F:Stop.Interp):
 ReturnsInHanded {} checked os 4 .any ((Rows.OpenSpec.upto Rows.trieClonesSpec).pre6 enc prog f4 Rows.trieClonesUptoRow.domain false) (((Rows.OpenSpec.upto Rows.trieClonesSpec).at F).post enc prog f4 false true false false):=by
 refine returnsInHanded_of_cond (C:=checked) (s:=Rows.OpenSpec.upto Rows.trieClonesSpec) (k:=Rows.uptoSmall) rfl own started (by kernel_rfl) func4
  (OpenSpec.witness (enc:=enc) (C:=checked) (s:=Rows.OpenSpec.upto Rows.trieClonesSpec) (k:=Rows.uptoSmall) rfl false ⟨#[],#[.slice none 0 0, .slice none 0 0],[]⟩ 8 (by kernel_rfl) (by kernel_rfl) (by kernel_rfl)
    (x:=([.nil, .nil],[],[])) (by kernel_rfl) rfl (by kernel_rfl)) ?_
 intro W base args ds gs before hval hW _ hk _;exact I0 H enc W base args ds gs before hval hW hk
theorem trieClones_holds:Rows.TrieClonesUptoSaid:=
 OpenClaim.holds_of_cond 4 f4 rfl rfl rfl rfl rfl rfl rfl ⟨rfl,rfl,rfl,rfl,rfl⟩ rfl rfl rfl rfl rfl (by kernel_rfl) func4 (by kernel_rfl)
  (CQ (by kernel_rfl)) (by unfold Func.isWrapper;first|(rw[Af (by decide+kernel)];kernel_rfl)|(rw[Ad (by decide+kernel)];exact⟨rfl,rfl⟩))
  (λos started H enc _ F=>JD os started H enc F)
#print axioms trieClones_holds
end Go.Proofs.YtalhnnjpjaeakaaGreat
