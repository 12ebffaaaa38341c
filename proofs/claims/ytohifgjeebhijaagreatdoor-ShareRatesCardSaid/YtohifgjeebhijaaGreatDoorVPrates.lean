/-
  Proved: for every case (acts that make a forest, a root, how many cores are on, leaves) the Go function roundel/roundellaw09.ShareRates returns true: what the program says of the rates of the leaves below the root is what the document says, rate by rate, or both say that the input is wrong; and its argument reads afterwards as before.
  Conditions: those of the given card alone (the listed tables lie as the program's own text lays them; the card ties them).
-/
import Derived.ProofKit
import Derived.Test.YtohifgjeebhijaaGreatDoorVHr
import Derived.Test.YtohifgjeebhijaaGreatDoorVHz
import Derived.Test.YtohifgjeebhijaaGreatDoorCards
import Derived.Test.YtohifgjeebhijaaGreatDoorTie
namespace Go.Proofs.YtohifgjeebhijaaGreatDoor
set_option maxRecDepth 100000
open Go.ChangeShapes Go.WideShapes Go.ChangeAt Go.RowKit
theorem nu (os:Os) (started:os.Started) (H:Type) (enc:TypeId×Value→H):
  ReturnsInHanded {} Tryz.checked os 3 .any (fun w args=>(Rows.shareRatesSpec.pre enc Tryz.prog Tryz.f3 [] false w args∧laidMetH Tryz.prog j6 w)∧sizedMet enc Tryz.prog Tryz.f3 (OpenSpec.ofChange Rows.shareRatesSpec) false w args)
   (Rows.shareRatesSpec.post enc Tryz.prog Tryz.f3 false true false false):=by
 refine returnsInHanded_of_change_and (C:=Tryz.checked) (X:=fun w _=>laidMetH Tryz.prog j6 w) (fun _ _ _ hh h=>h.of_heap hh) own started Ct Tryz.func3
  (ChangeSpec.witness_shaped (enc:=enc) (C:=Tryz.checked) (os:=os) (X:=fun w _=>laidMetH Tryz.prog j6 w) false (World.laidAll Tryz.prog os j6) #[.agg #[.slice none 0 0,.int .i64 0,.int .i64 0,.slice none 0 0]] 8 (World.laidAll_os _ _ _)
   (qu os) Ct Ct Ct (xC os _)) ?_
 intro W base args ds gs before hval0 hW _ _ _ _;have hval: ∀(j:Nat) t v,Tryz.f3.params[j]? =some t→args[j]? =some v→Value.okWide Tryz.prog W .any base t v:=hval0;have hW':=hW;obtain⟨p,q,hA0,hV,rfl,hfz,hnd⟩:=hW;have hA:DataW.TrodAll enc Tryz.prog W 0 (fun _=>true) true Tryz.f3.params.toList args.toList ds p:=hA0;rw[Tryz.params3] at hA hval;obtain⟨v0,d0,rfl,rfl,h0⟩:=trodAll_one hA;obtain⟨rfl,rfl⟩:=trodVars_none hV;have k0:=h0;have lt0: ∀x∈p,x.block<W.heap.size:=by obtain⟨m,hm⟩:=k0;exact DataW.trod_lt m _ _ _ hm
 obtain⟨va,vl,root,online,xs,ls,rfl,hx,hl,hr,ho⟩:=tR (hval 0 25 v0 rfl rfl) h0;clear hA0 hval0;refine(sG va vl root online xs ls W hx hl hr ho).mono fun e W' ⟨he,hb⟩=>?_
 subst he;exact⟨_,rfl,_,_,_,[],_,[],hW',trodAll_mk1 (shut_bool Tryz.underlying4 _),trodAll_mk1 (Below.trod yc Ct (of_decide_eq_true Ct) k0 hb lt0),rfl,hb.frame _,fun h=>by cases h⟩
theorem sW:Rows.ShareRatesSaid:=
 OpenClaim.holds_of_wide 3 Tryz.f3 rfl rfl rfl rfl rfl rfl rfl ⟨rfl,rfl,rfl,rfl,rfl⟩ rfl rfl rfl rfl rfl Ct Tryz.func3 Ct
  (of_decide_eq_true Ct) (by unfold Func.isWrapper;first | (rw[if_pos B2];kernel_rfl) | (rw[if_neg B2];exact⟨rfl,rfl⟩))
  (fun os started H enc _=>nu os started H enc)
theorem rates_holds:Rows.ShareRatesCardSaid:=
 Claim7.holds_tied_plain_at .later [] [.data,.pinned] true (true,"3db946573246875e08a9d0d0453211a3bd1929700d920e6da6340c8e724ff7a9") false
  sW (fun _ h=>by cases h) Ct (fun _ h=>by cases h) shareRates_row_tie rfl ⟨rfl,rfl⟩ Ct rfl
  (fun f fn hf hfn=>by
   obtain rfl:f=3:=Option.some.inj ((show Tryz.prog.funcNamed "roundel/roundellaw09.ShareRates"=some 3 by kernel_rfl).symm.trans hf) |>.symm;obtain rfl:fn=Tryz.f3:=(Option.some.inj (Tryz.func3.symm.trans hfn)).symm;exact⟨Ct,fun j t ht=>by
    rw[Tryz.params3] at ht;have hm:t∈[25]:=by simpa using Array.mem_of_getElem? ht
    have hall:([25].all fun u=> !Tryz.prog.wantsStandIn u)=true:=Ct
    exact(show Tryz.prog.wantsStandIn t=false by simpa using List.all_eq_true.1 hall t hm)⟩)
  Ct
#print axioms rates_holds
end Go.Proofs.YtohifgjeebhijaaGreatDoor
