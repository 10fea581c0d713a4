/-
  For every number and every catalog of at most 22 definitions, 200 columns and 6 joins: SchemaAhead answers true, its arguments read as before. No condition beyond the row's own.
-/
import Derived.Test.YthjjpdjdnhjdbaaGreatDoorH18
namespace Go.Proofs.YthjjpdjdnhjdbaaGreatDoor
open Go Go.RowKit Go.ChangeShapes Go.WideShapes Go.ChangeAt Go.Joins Go.Deep
set_option maxRecDepth 100000
namespace schemaAhead
abbrev I0:Input:=⟨#[],#[.slice none 0 0,.int .i64 0],[]⟩
noncomputable abbrev W0(os:Os):=World.laidAll Tryz.prog os Rows.schemaAheadRow.laid
noncomputable abbrev V0(os:Os):=(W0 os).forCall (fun _ _=>0) I0
theorem contract (H:Type)(enc:TypeId×Value→H)(W:World)(base:Nat)(args:Array Value)(ds gs:List (DataW H))(before:List MemPlace)
 (hval:∀ (j:Nat) t v,Tryz.f3.params[j]?=some t→args[j]?=some v→Value.okWide Tryz.prog W .any base t v)
 (hW:DataW.Whole enc Tryz.prog Tryz.f3.params.toList Rows.schemaAheadSpec.vars false W args.toList ds gs before)(hL:laidMetH Tryz.prog Rows.schemaAheadRow.laid W)(hsh:W.ShapedOpen Tryz.prog)
 (hwt:(DataW.weightsEach Tryz.prog (Tryz.f3.params.toList++(OpenSpec.ofChange Rows.schemaAheadSpec).bare.plain.varTypes Tryz.prog) (ds++gs)).all (· ≤ reachBytes)=true):
 Calls Tryz.prog 3 args W fun e W'=>∃ v,e= .returned v∧Rows.schemaAheadSpec.post enc Tryz.prog Tryz.f3 false true false false W args v W':=by
 have hG:=zeV hL hsh
 have hW':=hW
 obtain⟨p,q,hA0,hV,rfl,hfz,hnd⟩:=hW
 have hA:DataW.TrodAll enc Tryz.prog W 0 (fun _=>true) true Tryz.f3.params.toList args.toList ds p:=hA0
 rw [Tryz.params3] at hA hval hwt
 obtain⟨v0,vs0,d0,ds0,p0,q0,hargs,rfl,rfl,h0,r0⟩:=trodAll_cons hA
 obtain⟨v1,vs1,d1,ds1,p1,q1,rfl,rfl,rfl,h1,r1⟩:=trodAll_cons r0
 obtain⟨rfl,rfl,rfl⟩:=trodAll_nil r1
 obtain rfl:args=#[v0,v1]:=by cases args;simp_all
 obtain⟨rfl,rfl⟩:=trodVars_none hV
 obtain⟨A0,n0,c0,xs0,rfl,hc0⟩:=zeO (hval 0 23 v0 rfl rfl) h0 (Lg hwt)
 obtain⟨x1,rfl,rfl,rfl,wx1⟩:=open_int Tryz.underlying3 (hval 1 3 v1 rfl rfl) h1
 refine (zdN A0 n0 c0 xs0 x1 W hc0 hG).mono fun e W' ⟨he,hb⟩=>?_
 subst he
 exact⟨_,rfl,zdO hW' hb rfl (by kernel_rfl) (by kernel_rfl) rfl⟩
theorem laid_met (os:Os):laidMet Tryz.prog Rows.schemaAheadRow.laid (V0 os).memory:=
 laidMet_laidAll _ (by kernel_rfl) (by kernel_rfl)
theorem shaped (os:Os):(V0 os).Shaped Tryz.prog:=
 World.shaped_of_ZipB (by kernel_rfl) (by kernel_rfl)
theorem lifted (os:Os)(started:os.Started)(H:Type)(enc:TypeId×Value→H)(F:Stop.Interp):
 ReturnsInHanded {} Tryz.checked os 3 .any ((OpenSpec.ofChange Rows.schemaAheadSpec).preRow enc Tryz.prog Tryz.f3 Rows.schemaAheadRow.domain false Rows.schemaAheadRow.laid) (((OpenSpec.ofChange Rows.schemaAheadSpec).at F).post enc Tryz.prog Tryz.f3 false true false false):=by
 have hok:Input.okWideB Tryz.prog (V0 os) 3 I0=true:=by kernel_rfl
 refine returnsInHanded_of_row (C:=Tryz.checked) (s:=OpenSpec.ofChange Rows.schemaAheadSpec) own started (by kernel_rfl) Tryz.func3
  ⟨W0 os,fun _ _=>0,I0,World.laidAll_os _ _ _,shaped os,(Input.okWide_of_okWideB (base:=0) hok).1,(Input.okWide_of_okWideB hok).2,?_,by
   simp only [Assume.holds];exact⟨by simp,by simp,fun _=>Modest.zero,by simp,by simp⟩⟩ ?_
 · exact OpenSpec.preRow_of_cond 8 (x:=([.nil,.lit (.int .i64 0)],[],[])) (by kernel_rfl) (by kernel_rfl) (fun k hk=>by cases hk) (by kernel_rfl) (laid_met os)
 intro W base args ds gs before hval hW _ _ hwt hL hsh _
 exact contract H enc W base args ds gs before hval hW hL hsh hwt
theorem said:Rows.SchemaAheadSaid:=
 OpenClaim.holds_of_cond 3 Tryz.f3 rfl rfl rfl rfl rfl rfl rfl ⟨rfl,rfl,rfl,rfl,rfl⟩ rfl rfl rfl rfl rfl (by kernel_rfl) Tryz.func3 (by kernel_rfl)
 (of_decide_eq_true (by kernel_rfl)) (by unfold Func.isWrapper;first|(rw[if_pos (by decide +kernel)];kernel_rfl)|(rw[if_neg (by decide +kernel)];exact⟨rfl,rfl⟩))
 (fun os started H enc _ F=>by rw [OpenClaim.pre_eq_preRow];exact lifted os started H enc F)
theorem plain (f:FuncId)(fn:Func)(hf:Tryz.pinned.checked.prog.funcNamed "levee/leveelaw09.SchemaAhead"=some f)(hfn:Tryz.pinned.checked.prog.funcs[f]?=some fn):
 true=Tryz.pinned.checked.prog.looks []∧∀ (j:Nat) t,fn.params[j]?=some t→Tryz.pinned.checked.prog.wantsStandIn t=false:=by
 obtain rfl:f=3:=Option.some.inj ((show Tryz.prog.funcNamed "levee/leveelaw09.SchemaAhead"=some 3 by kernel_rfl).symm.trans hf) |>.symm
 obtain rfl:fn=Tryz.f3:=(Option.some.inj (Tryz.func3.symm.trans hfn)).symm
 refine⟨by kernel_rfl,fun j t ht=>?_⟩
 have hall:(Tryz.f3.params.toList.all fun u=>!Tryz.prog.wantsStandIn u)=true:=by kernel_rfl
 have hmem:t∈Tryz.f3.params.toList:=by simpa using Array.mem_of_getElem? ht
 exact (show Tryz.prog.wantsStandIn t=false by simpa using List.all_eq_true.1 hall t hmem)
theorem card:Rows.SchemaAheadCardSaid:=
 Claim7.holds_tied_plain_at .later [] _ _ _ _ said (fun _ h=>by cases h) (by kernel_rfl) (fun _ h=>by cases h) schemaAhead_row_tie rfl ⟨rfl,rfl⟩ (by kernel_rfl) rfl plain (by kernel_rfl)
end schemaAhead
theorem schemaAhead_holds:Rows.SchemaAheadCardSaid:=schemaAhead.card
end Go.Proofs.YthjjpdjdnhjdbaaGreatDoor
