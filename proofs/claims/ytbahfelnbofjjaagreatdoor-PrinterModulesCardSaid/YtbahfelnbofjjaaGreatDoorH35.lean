/- A module that can be printed is read back. -/
import Derived.Test.YtbahfelnbofjjaaGreatDoorH34
set_option maxRecDepth 100000
set_option maxHeartbeats 16000000
namespace Go.Proofs.YtbahfelnbofjjaaGreatDoor
namespace printerModules
open Go.ChangeShapes Go.WideShapes Go.ChangeAt Go.RowKit Go.Joins ch
open Go.ChangeMaps (open_string shut_string)
theorem lifted (os:Os) (started:os.Started) (H:Type) (enc:TypeId × Value→H) :
    ReturnsInHanded {} Tryz.checked os 6 .any (fun w args=>(Rows.printerModulesSpec.pre enc Tryz.prog Tryz.f6 [] false w args∧laidMetH Tryz.prog vX w)∧sizedMet enc Tryz.prog Tryz.f6 (OpenSpec.ofChange Rows.printerModulesSpec) false w args)
      (Rows.printerModulesSpec.post enc Tryz.prog Tryz.f6 false true false false):=by
 refine returnsInHanded_of_change_and (C:=Tryz.checked) (X:=fun w _=>laidMetH Tryz.prog vX w) (fun _ _ _ hh h=>h.of_heap hh) own started (by kernel_rfl) Tryz.func6
   (ChangeSpec.witness_shaped (enc:=enc) (C:=Tryz.checked) (os:=os) (X:=fun w _=>laidMetH Tryz.prog vX w) false (World.doorLaid Tryz.prog 93 os) #[.agg #[.slice none 0 0,.slice none 0 0]] 8 rfl (World.shaped_of_RefB (by kernel_rfl) (by kernel_rfl)) (by kernel_rfl) (by kernel_rfl) (by kernel_rfl) (KS os _)) ?_
 intro Z base args ds gs before hval0 hW hcnd hsz hL _;have hval:∀ (j:Nat) t v,Tryz.f6.params[j]? = some t→args[j]? = some v→Value.okWide Tryz.prog Z .any base t v:=hval0;have hW':=hW;obtain ⟨p,q,hA0,hV,rfl,hfz,hnd⟩:=hW;have hA:DataW.TrodAll enc Tryz.prog Z 0 (fun _=>true) true Tryz.f6.params.toList args.toList ds p:=hA0;rw [Tryz.params6] at hA hval hsz;obtain ⟨v0,vs0,d0,ds0,p0,q0,hargs,rfl,rfl,h0,r0⟩:=trodAll_cons hA;obtain ⟨rfl,rfl,rfl⟩:=trodAll_nil r0;obtain rfl:args=#[v0]:=by cases args;simp_all
 obtain ⟨rfl,rfl⟩:=trodVars_none hV;have k0':=h0;have lt0:∀ x ∈ p0,x.block<Z.heap.size:=by obtain ⟨m,hm⟩:=k0';exact DataW.trod_lt m _ _ _ hm
 obtain ⟨ts0,gs0,ta0,tc0,ga0,gc0,rfl,S0,F0,Q0,y0⟩:=Qd (hval 0 43 v0 rfl rfl) h0 (Vn hsz (j:=0) (t:=43) rfl rfl);clear hA0 hval0;simp only [L_n] at hW';refine (Bz ts0 gs0 ta0 ga0 tc0 gc0 Z S0 F0 Q0 y0 (qJ hL).1 (qJ hL).2).mono fun e Z' ⟨he,bel⟩=>?_;subst he;exact ⟨_,rfl,_,_,_,[],_,[],hW',trodAll_mk1 (shut_bool Tryz.underlying4 _),(trodAll_cons_mk (Below.trod laidOut (by kernel_rfl) (of_decide_eq_true (by kernel_rfl)) k0' bel lt0) trodAll_mk0),rfl,bel.frame _,fun h=>by cases h⟩
end printerModules
end Go.Proofs.YtbahfelnbofjjaaGreatDoor
