/-
  What is printed of what has been read is read as the same, and printed as the same.
-/
import Derived.Test.YtbahfelnbofjjaaGreatDoorX28
set_option maxRecDepth 100000
set_option maxHeartbeats 16000000
namespace Go.Proofs.YtbahfelnbofjjaaGreatDoor
namespace printerFixed
open Go.ChangeShapes Go.WideShapes Go.ChangeAt Go.RowKit Go.Joins ch
open Go.ChangeMaps (open_string shut_string)
theorem lifted (os:Os) (started:os.Started) (H:Type) (enc:TypeId × Value→H) :
    ReturnsInHanded {} Tryz.checked os 9 .any (fun w args=>(Rows.printerFixedSpec.pre enc Tryz.prog Tryz.f9 [] false w args∧laidMetH Tryz.prog sH w)∧sizedMet enc Tryz.prog Tryz.f9 (OpenSpec.ofChange Rows.printerFixedSpec) false w args)
      (Rows.printerFixedSpec.post enc Tryz.prog Tryz.f9 false true false false):=by
 refine returnsInHanded_of_change_and (C:=Tryz.checked) (X:=fun w _=>laidMetH Tryz.prog sH w) (fun _ _ _ hh h=>h.of_heap hh) own started (by kernel_rfl) Tryz.func9
   (ChangeSpec.witness_shaped (enc:=enc) (C:=Tryz.checked) (os:=os) (X:=fun w _=>laidMetH Tryz.prog sH w) false (World.doorLaid Tryz.prog 93 os) #[.slice none 0 0] 8 rfl (World.shaped_of_RefB (by kernel_rfl) (by kernel_rfl)) (by kernel_rfl) (by kernel_rfl) (by kernel_rfl) (Hg os _)) ?_
 intro Z base args ds gs before hval0 hW hcnd hsz hL _;have hval:∀ (j:Nat) t v,Tryz.f9.params[j]? = some t→args[j]? = some v→Value.okWide Tryz.prog Z .any base t v:=hval0;have hW':=hW;obtain ⟨p,q,hA0,hV,rfl,hfz,hnd⟩:=hW;have hA:DataW.TrodAll enc Tryz.prog Z 0 (fun _=>true) true Tryz.f9.params.toList args.toList ds p:=hA0;rw [Tryz.params9] at hA hval hsz;obtain ⟨v0,vs0,d0,ds0,p0,q0,hargs,rfl,rfl,h0,r0⟩:=trodAll_cons hA;obtain ⟨rfl,rfl,rfl⟩:=trodAll_nil r0;obtain rfl:args=#[v0]:=by cases args;simp_all
 obtain ⟨rfl,rfl⟩:=trodVars_none hV;have k0':=h0;have lt0:∀ x ∈ p0,x.block<Z.heap.size:=by obtain ⟨m,hm⟩:=k0';exact DataW.trod_lt m _ _ _ hm
 obtain ⟨a0,len0,cap0,rfl⟩:=okWide_slice Tryz.underlying56 (hval 0 56 v0 rfl rfl);have hL0:∃ s,Bs Z a0 len0 cap0 s:=by
  obtain ⟨fuel,hf⟩:=h0;refine QH (by simpa [Value.cells] using hf) (fun elems spare he=>?_);subst he;exact sized_slice hsz (j:=0) (t:=56) rfl rfl Tryz.underlying56
 obtain ⟨s0,hL0⟩:=hL0;clear hA0 hval0;simp only [List.append_nil] at hW';refine (DK a0 len0 cap0 s0 Z hL0 (nY hL).1 (nY hL).2).mono fun e Z' ⟨he,bel⟩=>?_;subst he;exact ⟨_,rfl,_,_,_,[],_,[],hW',trodAll_mk1 (shut_bool Tryz.underlying4 _),(trodAll_cons_mk (Below.trod laidOut (by kernel_rfl) (of_decide_eq_true (by kernel_rfl)) k0' bel lt0) trodAll_mk0),rfl,bel.frame _,fun h=>by cases h⟩
end printerFixed
end Go.Proofs.YtbahfelnbofjjaaGreatDoor
