import PyProof.Rows.All
import Wide.All
import OpenK.AllK
import Wide.FinOn
import Lean
import PyProof.EqAt
import PyProof.EqKinds
import PyProof.TupleCall
import KE.KSortAsk
import PyProof.NeKinds
import PyProof.StationsW
import PyProof.ExcClass3
import PyProof.Rows.Own
import PyProof.NsDelKeeps
import KE.KIsAll
import PyProof.ExcAttrAll.ValueError
import PyProof.IsiH_list
import PyProof.Rows.FStr
import PyProof.FString4
import PyProof.StrLawsRepr
import PyProof.Rows.StrMeet
import KE.KEqDict
import PyProof.Draws
import KE.KDictOf
import PyProof.ExcInit
import PyProof.InstStoreFacts
import PyProof.ExcBaseAll.ValueError
import PySem.Challenge.RW_putback_k45_beside
theorem Zr {α:Sort _}{A B:α->Prop}{x:α}(a:A x)(b:B x):∃y,A y/\B y:=⟨x,a,b⟩
abbrev XA:List PySem.Str:=["_law_script","_law_at","_law_m","_law_many","_law_deep","_law_kind_here","_law_pool_here","_law_begin","_law_source","_law_twin","_law_other","_law_numbers","_law_field","_law_names_here","_law_spot","_law_view","_law_parts","_law_shown","_law_told","_law_seen_here","_law_way_here","_law_due","_law_old"]
abbrev XB:List PySem.Str:=["_law_script","_law_at","_law_deep","_law_m","_law_kind_here","_law_names_here","_law_fields_here"]
abbrev XD:List PySem.Str:=["_law_script","_law_at"]
abbrev XE:List PySem.Str:=["_law_a","_law_b","_law_kind_here","_law_found","_law_due","_law_name","_law_inner"]
abbrev XF:List PySem.Str:=["_law_kind_here","_law_found","_law_due"]
abbrev XG:List PySem.Str:=["_law_kind_here","_law_found","_law_due","_law_name","_law_inner"]
abbrev XH:List PySem.Str:=["_law_script","_law_at","_law_many","_law_deep"]
abbrev XI:List PySem.Str:=["_law_script","_law_at","_law_kind_here","_law_names_here","_law_spot","_law_field","_law_other"]
abbrev XJ:List PySem.Str:=["_law_script","_law_at","_law_kind_here","_law_names_here","_law_spot","_law_field","_law_other","_law_m","_law_rows_here","_law_wrong","_law_total","_law_way_here","_law_seen_here"]
abbrev XM:List PySem.Str:=["_law_script","_law_at","_law_kind_here","_law_room"]
abbrev XN:List PySem.Str:=["_law_view","_law_kind_here","_law_source","_law_seen_here"]
abbrev XO:List PySem.Str:=["_law_script","_law_at","_law_kind_here","_law_pool_here","_law_room","_law_rows_here","_law_one","_law_m","_law_row"]
abbrev XQ:List PySem.Str:=["_law_script","_law_at","_law_kind_here","_law_rows_here"]
abbrev XR:List PySem.Str:=["fields","record"]
abbrev XS:List PySem.Str:=["_law_script","_law_at","_law_kind_here","_law_room","_law_made","_law_name","_law_inner","_law_top","_law_many"]
abbrev XT:List PySem.Str:=["_law_pair","_law_script","_law_at","_law_deep","_law_m","_law_kind_here","_law_names_here","_law_fields_here"]
abbrev XU:List PySem.Str:=["_law_script","_law_at","_law_deep"]
abbrev XV:List PySem.Str:=["_law_script","_law_at","_law_kind_here","_law_many"]
abbrev XW:List PySem.Str:=["_law_script","_law_at","_law_kind_here","_law_room","_law_rows_here","_law_seen_here","_law_k","_law_row"]
abbrev XX:List PySem.Str:=["_law_script","_law_at","_law_kind_here","_law_many","_law_lead","_law_pool_here","_law_k","_law_one"]
abbrev XY:List PySem.Str:=["_law_found","_law_due"]
abbrev XZ:List PySem.Str:=["self","field","rows","total"]
abbrev Xa:List PySem.Str:=["self","kind","source","seen"]
abbrev Xb:List PySem.Str:=["_law_kind_here","_law_row"]
abbrev Xc:List PySem.Str:=["_law_script","_law_at","_law_names_here"]
abbrev Xd:List PySem.Str:=["_law_script","_law_at","_law_many"]
abbrev Xe:List PySem.Str:=["self","kind","source"]
abbrev Xf:List PySem.Str:=["_law_script","_law_at","_law_names_here","_law_some_here","_law_free"]
abbrev Xg:List PySem.Str:=["_law_script","_law_at","_law_kind_here","_law_pool_here","_law_room"]
abbrev Xh:List PySem.Str:=["_law_script","_law_at","_law_many","_law_deep","_law_names_here"]
abbrev Xi:List PySem.Str:=["self","rows"]
abbrev Xj:List PySem.Str:=["_law_rows","_law_some","sorted_fields","_law_number_kind"]
abbrev Xk:List PySem.Str:=["self","kind"]
abbrev Xl:List PySem.Str:=["self","name"]
abbrev Xm:List PySem.Str:=["_law_a","_law_b","_law_found","_law_due"]
theorem zzx {α:Sort _}{β:α->Sort _}{γ:∀a,β a->Sort _}{δ:∀a b,γ a b->Sort _}{p:∀a b c,δ a b c->Prop}{G:Prop}(h:∃a b c d,p a b c d)(k:∀a b c d,p a b c d->G):G:=let⟨a,b,c,d,e⟩:=h;k a b c d e
theorem zza {A B C D E G:Prop}(h:A/\B/\C/\D/\E)(k:A->B->C->D->E->G):G:=k h.1 h.2.1 h.2.2.1 h.2.2.2.1 h.2.2.2.2
local macro_rules|`(tactic|obtain⟨$s,*⟩:=$t)=>do
 let a:=s.getElems;if a.size<6 then Lean.Macro.throwUnsupported
 let b:=a.extract 4 a.size;let q←(a.extract 0 4).mapM λp=>`(rintroPat|($p:rcasesPatLo));let c←match t with|`($x:ident)=>`(tactic|try clear $x)|_=>`(tactic|skip)
 `(tactic|((first|refine zzx $t ?_|refine zza $t ?_);$c;rintro $q* e;obtain⟨$b,*⟩:=e))
open PySem renaming wpAny_bind→Q0,wpAny_pure→Q0d,wpAny_mono→Q0m
open Nat renaming le_refl→Q00,zero_le→Q07,lt_of_lt_of_le→Q0b,ne_of_lt→Q0c,le_trans→Q0h,lt_irrefl→Q0l,le_of_lt→Q0p,ne_of_gt→Q0v,lt_succ_self→Q1,le_of_not_lt→Q12,mul_le_mul_right→Q14,le_succ→Q18,lt_of_le_of_lt→Q1h,le_add_right→Q1j,not_lt_zero→Q1k,succ_mul→Q1m,le_of_eq→Q1r,le_max_left→Q2,le_max_right→Q20,sub_succ_lt_self→Q24,add_le_add_left→Q2d,succ_le_succ→Q2k,le_antisymm→Q2l,sub_self→Q2o,add_sub_cancel→Q2p,mul_left_comm→Q37,add_le_add_right→Q3a,mul_le_mul_left→Q3b,le_mul_of_pos_right→Q3c,le_succ_of_le→Q3d,eq_zero_or_pos→Q3h,add_sub_cancel_left→Q3r
open PySem.Heap renaming lt_size→Q01,get?_push_of_some→Q0a,get?_push_size→Q0n,get?_update_other→Q16,get?_update_self→Q1f,size_push→Q1q,get?_none_of_le→Q27,size_update→Q2f,get?_update_ne→Q2g,get?_push_at→Q2m,get?_push_ne→Q32
open List renaming getElem?_eq_getElem→Q02,length_map→Q03,mem_cons_self→Q04,size_toArray→Q05,getD_eq_getElem?_getD→Q06,mem_append_right→Q08,length_append→Q09,mem_cons_of_mem→Q0e,map_append→Q0f,length_cons→Q0g,getElem?_map→Q0j,length_take→Q0o,take_succ→Q0q,mem_of_getElem?→Q0r,mem_append_left→Q0s,nodup_nil→Q0t,append_assoc→Q0u,take_of_length_le→Q0w,map_cons→Q0x,getElem_mem→Q0y,take_length→Q0z,append_nil→Q10,length_drop→Q11,all_eq_true→Q13,getElem?_append_right→Q15,lookup_cons→Q17,any_cons→Q19,find?_cons→Q1a,getElem_of_mem→Q1b,mem_map_of_mem→Q1c,getElem_take→Q1d,take_sublist→Q1e,length_singleton→Q1g,pairwise_map→Q1l,replicate_succ→Q1n,getElem?_append_left→Q1s,length_replicate→Q1t,map_nil→Q1v,all_cons→Q1w,length_nil→Q1x,filter_cons→Q1y,pairwise_singleton→Q1z,any_map→Q23,filterMap_cons→Q26,getElem_inj→Q28,getElem?_set_self→Q29,getElem?_set_ne→Q2a,of_mem_zip→Q2b,length_range→Q2e,flatten_append→Q2h,any_eq_true→Q2j,length_pos_of_mem→Q2n,mem_cons→Q2q,not_mem_nil→Q2r,getElem?_replicate→Q2u,length_filter_le→Q2w,map_congr_left→Q2x,forIn_cons→Q2y,ext_getElem→Q30,lt_irrefl→Q34,zip_cons_cons→Q35,perm_cons→Q36,foldl_cons→Q38,take_zero→Q3e,filter_append→Q3f,drop_of_length_le→Q3g,take_nil→Q3j,drop_nil→Q3k,getElem?_take→Q3l,map_take→Q3m,map_drop→Q3n,take_append_of_le_length→Q3o,mem_of_mem_take→Q3p,mem_of_mem_drop→Q3q,take_append_drop→Q3s
open Int renaming emod_nonneg→Q0i,emod_lt_of_pos→Q0k,mul_le_mul_of_nonneg_right→Q1o,toNat_natCast→Q1u,natCast_add→Q21,add_mul→Q22,le_refl→Q2i,lt_of_lt_of_le→Q39,mul_le_mul→Q3i
open Array renaming getD_eq_getD_getElem?→Q1i,length_toList→Q1p,append_empty→Q25,empty_append→Q2s,find?_toList→Q2t,getElem?_eq_getElem→Q3,size_append→Q31,forIn_toList→Q33
open Option renaming isSome_map→Q2c,getD_none→Q2v,getD_some→Q2z
set_option genSizeOf false
set_option Elab.async false
set_option linter.all false
set_option maxRecDepth 100000
set_option maxHeartbeats 4000000
open PySem
theorem xv:2<=PySem.sizeLine:=by decide
namespace L2
open Spec PyProof.Rows
noncomputable def iJ (s:Stmt):Arguments:=match s with
 | .FunctionDef _ a _ _ _ _ _ _ _ _=>a
 |_=>{ posonlyargs:=[],args:=[],vararg:=none,kwonlyargs:=[],kw_defaults:=[],kwarg:=none,defaults:=[] }
noncomputable def h8 (s:Stmt):List Stmt:=match s with
 | .FunctionDef _ _ b _ _ _ _ _ _ _=>b
 |_=>[]
noncomputable def fo (s:Stmt):Scope:=match s with
 | .FunctionDef _ _ _ _ _ _ sc _ _ _=>sc
 |_=>{ kind:=.function,names:=[],isGenerator:=false,isCoroutine:=false }
end L2
namespace Pb
open L2
noncomputable def top (i:Nat):Stmt:=PySem.Challenge.pw_putback_k45_beside.main.body.getD i (.Pass ⟨0,0,0,0⟩)
noncomputable def fF (i j:Nat):Stmt:=match top i with
 | .ClassDef _ _ _ body _ _ _ _ _ _ _=>body.getD j (.Pass ⟨0,0,0,0⟩)
 |_=>.Pass ⟨0,0,0,0⟩
end Pb
namespace Pb
open W
noncomputable def treeOf:List Obj->Nat->BT->Option BT
 |[],_,t=>some t
 |o::l,n,t=>match((t.ins n o).get n).isSome with
  |true=>treeOf l (n+1) (t.ins n o)
  |false=>none
theorem xw {life:Life}:∀(l:List Obj) (n:Nat) (t t':BT),treeOf l n t=some t'->absHeap t' (n+l.length) life=⟨(absHeap t n life).objs++l.toArray,life⟩
 |[],n,t,t',h=>by
  cases h;show absHeap t n life=_;have:(absHeap t n life).objs++#[]=(absHeap t n life).objs:=Q25;rw[this];rfl
 |o::l,n,t,t',h=>by
  unfold treeOf at h
  cases e:((t.ins n o).get n).isSome with
  |false=>rw[e] at h;cases h
  |true=>
   rw[e] at h;have:=xw (life:=life) l (n+1) _ t' h;rw[absHeap_ins e] at this;have I:n+(o::l).length=n+1+l.length:=by rw[Q0g];omega
   rw[I,this];show Heap.mk ((absHeap t n life).objs.push o++l.toArray) life=_;congr 1;apply Array.ext';simp
noncomputable def oQ (tb:String->Option Builtin) (p:Program) (w:World) (I:Nat) (J:Option Value):Nat->SharedT->Thread->Option SharedT
 |0,_,_=>none
 |n+1,s,t=>match through t with
  |true=>some s
  |false=>match stepOk I J t with
   |false=>none
   |true=>match stepT (denote tb) p w s t with
    |some (s',t')=>oQ tb p w I J n s' t'
    |none=>none
theorem xx {tb:String->Option Builtin}{p:Program}{w:World}{I:Nat}{J:Option Value}:∀{n:Nat}{s s':SharedT}{t:Thread},oQ tb p w I J n s t=some s'->topRun tb p w I J n s.abs t=some s'.abs
 |0,_,_,_,h=>by cases h
 |n+1,s,s',t,h=>by
  unfold oQ at h;unfold topRun
  cases U:through t with
  |true=>rw[U] at h;cases h;rfl
  |false=>
   rw[U] at h
   cases Y:stepOk I J t with
   |false=>rw[Y] at h;cases h
   |true=>
    rw[Y] at h
    cases L:stepT (denote tb) p w s t with
    |none=>rw[L] at h;cases h
    |some r=>obtain⟨aa,ab⟩:=r;rw[L] at h;rw[stepT_spec L];exact xx h
noncomputable abbrev mi:=@W.Fast.tw10156331382660048174
noncomputable abbrev j7:=@W.Fast.tw11892475500146522536
noncomputable abbrev j8:=@W.Fast.tw14364793385576792824
noncomputable abbrev oR:=@W.Fast.tw6613529449190102663
noncomputable abbrev seenQ:=@W.Fast.tw4187177175401517315
noncomputable def mj (p:Program) (w:World) (I:Nat) (J:Option Value):Nat->SharedT->Thread->Option SharedT
 |0,_,_=>none
 |n+1,s,t=>match through t with
  |true=>some s
  |false=>match oR I J t with
   |false=>none
   |true=>match mi (j7 j8) p w s t with
    |some (s',t')=>mj p w I J n s' t'
    |none=>none
theorem xy {p:Program}{w:World}{I:Nat}{J:Option Value}:∀(n:Nat) (s:SharedT) (t:Thread),mj p w I J n s t=oQ treeTable p w I J n s t
 |0,_,_=>rfl
 |n+1,s,t=>by
  unfold mj oQ;have L:oR I J t=stepOk I J t:=congrFun (congrFun (congrFun W.Fast.te6613529449190102663.symm _) _) _;have U:mi (j7 j8) p w s t=stepT (denote treeTable) p w s t:=by rw[show @mi=@stepT from W.Fast.te10156331382660048174.symm,show @j7=@denote from W.Fast.te11892475500146522536.symm,show @j8=@treeTable from W.Fast.te14364793385576792824.symm]
  rw[L,U];simp only[xy n]
noncomputable def looksAt (p q:Program) (loose:List Str) (Xt:Shared->Bool) {α:Type}(Yf:Shared->α) (g0:Bool) (h₀:Heap) (s:Shared):=
 ((staticsOk (importedModules p.main.body) h₀ s.heap && namesBound p s.heap && gensDone s && laidKept h₀ s.heap),seenQ q loose (importedModules p.main.body) Xt g0 s,Yf s)
noncomputable def xA:List (Nat × Obj)->BT->BT
 |[],t=>t
 |(a,o)::l,t=>xA l (t.ins a o)
noncomputable def tm:Nat->List Obj->BT->BT
 |_,[],t=>t
 |n,o::l,t=>tm (n+1) l (t.ins n o)
noncomputable def oS (p:Program) (w:World) (I:Nat) (J:Option Value):Nat->SharedT->Thread->Option (Flow × SharedT × Code × Pos)
 |0,_,_=>none
 |n+1,s,t=>match endAt 1 t with
  |some f=>some (f,s,t.code,t.pos)
  |none=>match oR I J t with
   |false=>none
   |true=>match mi (j7 j8) p w s t with
    |some (s',t')=>oS p w I J n s' t'
    |none=>none
theorem xB (I:Nat)(J:Option Value)(t:Thread):oR I J t=stepOk I J t:=congrFun (congrFun (congrFun W.Fast.te6613529449190102663.symm _) _) _
theorem xC:@j7 j8=denote treeTable:=by rw[show @j7=@denote from W.Fast.te11892475500146522536.symm,show @j8=@treeTable from W.Fast.te14364793385576792824.symm]
theorem xD (p:Program)(w:World)(s:SharedT)(t:Thread):mi (j7 j8) p w s t=stepT (denote treeTable) p w s t:=by rw[show @mi=@stepT from W.Fast.te10156331382660048174.symm,xC]
theorem xE {p:Program}{w:World}{I:Nat}{J:Option Value}:∀(n:Nat) (s:SharedT) (t:Thread),oS p w I J n s t=segRunT treeTable p w I J 1 n s t
 |0,_,_=>rfl
 |n+1,s,t=>by
  unfold oS segRunT;rw[xB,xD]
  cases endAt 1 t with
  |some f=>rfl
  |none=>
   cases stepOk I J t with
   |false=>rfl
   |true=>
    cases stepT (denote treeTable) p w s t with
    |none=>rfl
    |some r=>obtain⟨s',t'⟩:=r;exact xE n s' t'
noncomputable def oU (tb:String->Option Builtin) (p:Program) (w:World) (I:Nat) (J:Option Value):Nat->SharedT->Thread->Option (SharedT × Thread)
 |0,s,t=>some (s,t)
 |n+1,s,t=>match through t with
  |true=>none
  |false=>match stepOk I J t with
   |false=>none
   |true=>match stepT (denote tb) p w s t with
    |some (s',t')=>oU tb p w I J n s' t'
    |none=>none
theorem xF {tb:String->Option Builtin}{p:Program}{w:World}{I:Nat}{J:Option Value}:∀{n:Nat}{s s':SharedT}{t t':Thread},oU tb p w I J n s t=some (s',t')->topGo tb p w I J n s.abs t=some (s'.abs,t')
 |0,s,s',t,t',h=>by
  have h:some (s,t)=some (s',t'):=h
  cases h;rfl
 |n+1,s,s',t,t',h=>by
  unfold oU at h;unfold topGo
  cases U:through t with
  |true=>rw[U] at h;cases h
  |false=>
   rw[U] at h
   cases Y:stepOk I J t with
   |false=>rw[Y] at h;cases h
   |true=>
    rw[Y] at h
    cases L:stepT (denote tb) p w s t with
    |none=>rw[L] at h;cases h
    |some r=>obtain⟨aa,ab⟩:=r;rw[L] at h;rw[stepT_spec L];exact xF h
noncomputable def qr (p:Program) (w:World) (I:Nat) (J:Option Value):Nat->SharedT->Thread->Option (SharedT × Thread)
 |0,s,t=>some (s,t)
 |n+1,s,t=>match through t with
  |true=>none
  |false=>match oR I J t with
   |false=>none
   |true=>match mi (j7 j8) p w s t with
    |some (s',t')=>qr p w I J n s' t'
    |none=>none
theorem xG {p:Program}{w:World}{I:Nat}{J:Option Value}:∀(n:Nat) (s:SharedT) (t:Thread),qr p w I J n s t=oU treeTable p w I J n s t
 |0,_,_=>rfl
 |n+1,s,t=>by
  unfold qr oU;rw[xB,xD];simp only[xG n]
noncomputable def qt (p:Program) (w:World) (I:Nat) (J:Option Value) (env:Env) (c:Code) (L:Pos) (l:List Stmt) (Y k2 k3:Nat) (s:SharedT):Option (Thread × Code × Code × SharedT × Pos):=
 match qr p w I J Y s (topStub p) with
 |none=>none
 |some (s1,U)=>match oS p w I J k2 s1 (blockOf (behindTheImports p) env c U.pos [topFrame L]) with
  |some (.next,s2,c2,p2)=>(match oS p w I J k3 s2 (piecesOf l env c p2 [topFrame L]) with
   |some (.next,s3,c3,p3)=>some (U,c2,c3,s3,p3)
   |_=>none)
  |_=>none
theorem Ew {p:Program}{w:World}{I:Nat}{J:Option Value}{env:Env}{c:Code}{U L Y:Pos}{l rest:List Stmt}{k1 k2 k3 N:Nat}{s s3:SharedT}{r:Shared}(hb:behindTheImports p=l++rest)
 (h:qt p w I J env c U l k1 k2 k3 s=some (⟨j7 j8 (.body (behindTheImports p) env),c,L,[topFrame U]⟩,c,c,s3,Y))
 (k:topRun treeTable p w I J N s3.abs (restOf rest env c Y [topFrame U])=some r):topRun treeTable p w I J (k1+(k2+(k3+N))) s.abs (topStub p)=some r:=by
 unfold qt at h;split at h
 . cases h
 next s1 t1 e1=>
  split at h
  next s2 c2 p2 e2=>
   split at h
   next aa c3 ab e3=>
    cases h;rw[xG] at e1;rw[xE] at e2 e3;have g1:=xF e1;rw[xC] at g1;have g3:=piece_app (rest:=rest) (segRun_of e3) k;rw[<-hb] at g3;exact go_top g1 (piece_block (segRun_of e2) g3)
   . cases h
  . cases h
noncomputable def tD (P:Params):BT:=(treeOf (boot_heap P).objs.toList 0 .nil).getD .nil
noncomputable def qu (w:World) (os:OsState):SharedT:=⟨tD w.params,(boot_heap w.params).objs.size,(boot_heap w.params).life,#[],boot_drawn,boot_toks,os⟩
theorem Ex {p q:Program}{loose:List Str}{Xt:Shared->Bool}{α:Type}{Yf:Shared->α}{Ya:World->α}{N:Nat}{g0:Bool}{env:Env}{c:Code}{q0 L p3:Pos}{l rest:List Stmt}{k1 k2 k3 N4 I:Nat}{J:Option Value}{S3:World->OsState->SharedT}
 (e:opening p=plainProg p.main.scope.names) (hN:Nat.ble 600 N=true) (f:∀s,fenceModules? p s=some s) (aa:N=k1+(k2+(k3+N4))) (hb:behindTheImports p=l++rest)
 (b0:∀P:Params,((boot_heap P).isNs mainGlobals,(treeOf (boot_heap P).objs.toList 0 .nil).isSome,(boot_heap P).objs.size,(boot_heap P).nsMap mainGlobals "__annotations__")=(true,true,I,J))
 (U:∀w os,qt p w I J env c q0 l k1 k2 k3 (qu w os)=some (⟨j7 j8 (.body (behindTheImports p) env),c,L,[topFrame q0]⟩,c,c,S3 w os,p3))
 (Y:∀w os,((mj p w I J N4 (S3 w os) (restOf rest env c p3 [topFrame q0])).map λ(s:SharedT)=>looksAt p q loose Xt Yf g0 (boot_heap w.params) s.abs)=some (true,openGood q loose,Ya w)):LeftO p q loose Xt Yf Ya N g0:=λw=>by
 obtain⟨⟨h,gs,d,k,os⟩,e1,e'⟩:=Option.map_eq_some_iff.mp (boot_open e hN f w);obtain⟨rfl,rfl,rfl,rfl⟩:h=boot_heap w.params/\gs=Array.mk []/\d=boot_drawn/\k=boot_toks:=by simpa using e'
 have ab:=b0 w.params;obtain⟨z,y0,hsz,ac⟩:_/\_/\_/\_:=by simpa only[Prod.mk.injEq] using ab
 obtain⟨T,y⟩:=Option.isSome_iff_exists.mp y0;obtain⟨s,r1,r2⟩:=Option.map_eq_some_iff.mp (Y w os);rw[xy] at r1;have r3:=Ew hb (U w os) (xx r1);rw[<-aa] at r3;have hT:=xw (life:=(boot_heap w.params).life) _ _ _ _ y
 have hS:SharedT.abs (qu w os)=⟨boot_heap w.params,#[],boot_drawn,boot_toks,os⟩:=by
  unfold SharedT.abs qu tD;dsimp only;rw[y];dsimp only[Option.getD];rw[Nat.zero_add,Q1p] at hT;rw[hT];have e0:(absHeap BT.nil 0 (boot_heap w.params).life).objs=#[]:=rfl;rw[e0,Q2s,Array.toArray_toList]
 rw[hS] at r3
 have t:topFrom treeTable p w N ⟨boot_heap w.params,#[],boot_drawn,boot_toks,os⟩=some s.abs:=by
  unfold topFrom;dsimp only;rw[z,hsz,ac,r3];have l1:=congrArg (λz=>z.1) r2;dsimp only[looksAt] at l1;show(match staticsOk (importedModules p.main.body) (boot_heap w.params) s.abs.heap && namesBound p s.abs.heap && gensDone s.abs && laidKept (boot_heap w.params) s.abs.heap with|true=>_|false=>_)=_;rw[l1]
 unfold openEnds;rw[e1];show(topFrom treeTable p w N _).map _=_;rw[t];have l2:=congrArg (λz=>z.2) r2;dsimp only[looksAt] at l2;rw[show @seenQ=@openSeen from W.Fast.te4187177175401517315.symm] at l2;exact congrArg some l2
theorem Ey {p q:Program}{loose:List Str}{Xt:Shared->Bool}{α:Type}{Yf:Shared->α}{Ya:World->α}{g0:Bool}{L I:Nat}{J:Option Value}{U Y:World->OsState->SharedT}{t:Thread}
 (b:∀w os,mj p w I J L (U w os) t=some (Y w os)) (l:∀w os,looksAt p q loose Xt Yf g0 (boot_heap w.params) (Y w os).abs=(true,openGood q loose,Ya w)):
 ∀w os,((mj p w I J L (U w os) t).map λ(s:SharedT)=>looksAt p q loose Xt Yf g0 (boot_heap w.params) s.abs)=some (true,openGood q loose,Ya w):=λw os=>by
 rw[b];exact congrArg some (l w os)
theorem Ez {p q:Program}{loose:List Str}{Xt:Shared->Bool}{α:Type}{Yf:Shared->α}{Ya:World->α}{g0:Bool}{I:World->OsState->SharedT}
 (J:∀w os,(staticsOk (importedModules p.main.body) (boot_heap w.params) (I w os).abs.heap && namesBound p (I w os).abs.heap && gensDone (I w os).abs && laidKept (boot_heap w.params) (I w os).abs.heap)=true)
 (L:∀w os,seenQ q loose (importedModules p.main.body) Xt g0 (I w os).abs=openGood q loose) (U:∀w os,Yf (I w os).abs=Ya w):
 ∀w os,looksAt p q loose Xt Yf g0 (boot_heap w.params) (I w os).abs=(true,openGood q loose,Ya w):=λw os=>Prod.ext (J w os) (Prod.ext (L w os) (U w os))
end Pb
namespace Pb
open L2
noncomputable section
noncomputable def hF (x q:Str) (s:Stmt) (m:Str) (n c:Nat):Obj:=.mk (.type "function") none (.func (.mk x q (iJ s) (.stmts (h8 s)) (fo s) 3 [] .none .none .none (.str m n) none (.ref c) .none 0)) #[]
noncomputable def hR (x q:Str) (s:Stmt):Obj:=.mk .none none (.func (.mk x q (iJ s) (.stmts (h8 s)) (fo s) 0 [] .none .none .none .none none .none .none 0)) #[]
noncomputable def hC (x q:Str) (a l n k r e:Nat):Obj:=.mk (.type "code") none (.fields #[.str x a,.str q (a+1),.str (.ofString "/claim/cut.py") (a+2),.int l 0,.int n 0,.int 0 0,.int 0 0,.int k 0,.ref r,.bool true,.int 181 0,.ref (r+1),.none,.ref (r+2),.ref (r+3),.ref (r+4),.int e 0,.int l 0,.str (.ofString "/claim/cut.py") (e+1)]) #[]
noncomputable def xH (x q:Str) (a l n k r e:Nat):Obj:=.mk (.type "code") none (.fields #[.str x a,.str q (a+1),.str (.ofString "/claim/cut.py") (a+2),.int l 0,.int n 0,.int 0 0,.int 0 0,.int k 0,.ref r,.bool true,.int 181 0,.ref (r+1),.none,.none,.none,.ref (r+2),.int e 0,.int l 0,.str (.ofString "/claim/cut.py") (e+1)]) #[]
noncomputable def hK (x:Str) (a l r e:Nat):Obj:=.mk (.type "code") none (.fields #[.str x a,.str x (a+1),.str (.ofString "/claim/cut.py") (a+2),.int l 0,.int 0 0,.int 0 0,.int 0 0,.int 0 0,.ref r,.bool false,.int 181 0,.ref (r+1),.none,.none,.none,.none,.int e 0,.int l 0,.str (.ofString "/claim/cut.py") (e+1)]) #[]
noncomputable def gF (x:Str) (s:Stmt) (m:Str) (n c:Nat):Obj:=hF x x s m n c
noncomputable def gG (x:Str) (s:Stmt):Obj:=hR x x s
noncomputable def ie (x:Str) (a l n k r e:Nat):Obj:=hC x x a l n k r e
noncomputable def kG (x:Str) (a l n k r e:Nat):Obj:=xH x x a l n k r e
noncomputable def tS:Nat->List Str->List Value
 |_,[]=>[]
 |n,x::r=>.str x n::tS (n+1) r
noncomputable def hT (n:Nat) (l:List Str):Obj:=.mk (.type "tuple") none (.seq (tS n l).toArray) #[]
noncomputable def tI:List (Nat × Nat × Nat)->List Value
 |[]=>[]
 |(a,b,c)::r=>.int a 0:: .int b 0:: .ref c::tI r
noncomputable def hI (l:List (Nat × Nat × Nat)):Obj:=.mk .none none (.fields (tI l).toArray) #[]
noncomputable def hE (P:Params) (x:Str) (a:Nat) (v:Value):DictEntry:=.mk (PyData.keyHash P x) (.str x a) v
def hT0:Obj:=hT 0 []
noncomputable def f9:Obj:=.mk .none none (.fields #[]) #[]
noncomputable def ml (a b:Nat) (m:String) (n:Nat):Obj:=.mk (.type "frame") none .plain #[some (.ref a),some (.ref 3),some (.ref b),none,some (.str (.ofString m) n),none,some (.ref 0)]
noncomputable def nH (r:Nat):Obj:=.mk (.type "super") none (.fields #[.ref r,.ref r,.ref r]) #[]
noncomputable def hIs (r:Nat):Obj:=.mk (.type "builtin_function_or_method") none (.fields #[.builtin "object.__init_subclass__",.ref r]) #[]
noncomputable def jP:Obj:=.mk (.type "builtin_function_or_method") none (.fields #[.builtin "type.__prepare__",.type "type"]) #[]
noncomputable def qw (r:Nat):Obj:=.mk (.type "tuple") none (.seq #[.ref r]) #[]
noncomputable def xI:Str:="putback.errors"
noncomputable def tE:Str:="putback.kinds"
noncomputable def lK:Str:="putback.values"
noncomputable def mq:Str:="putback.views"
noncomputable def nI:Str:="putback.tables"
noncomputable def ip:Str:="law_putback_k45_beside"
noncomputable def LD (x q:Str) (s:Stmt) (m:Value) (c:Nat):Obj:=.mk (.type "function") none (.func (.mk x q (iJ s) (.stmts (h8 s)) (fo s) 3 [] .none .none .none m none (.ref c) .none 0)) #[]
noncomputable def LF (x q:Str) (a l n k r f b e:Nat):Obj:=.mk (.type "code") none (.fields #[.str x a,.str q (a+1),.str (.ofString "/claim/cut.py") (a+2),.int l 0,.int n 0,.int 0 0,.int 0 0,.int k 0,.ref r,.bool true,.int f 0,.ref (r+1),.none,.ref (r+2),.ref (r+3),.ref (r+4),.int b 0,.int l 0,.str (.ofString "/claim/cut.py") e]) #[]
noncomputable def LG (P:Params) (x:Str) (a:Nat) (v:Value):DictEntry:=.mk (PyData.keyHash P x) (.str x a) v
noncomputable def EA:Obj:=.mk .none none (.dict #[]) #[]
noncomputable def xJ (P:Params):Obj:=.mk (.type "dict") none (.dict #[hE P "__name__" 165 (.str (.ofString "law_putback_k45_beside") 531),hE P "__doc__" 166 .none,hE P "__package__" 167 .none,hE P "__loader__" 168 (.builtin "__main__.__loader__#opaque"),hE P "__spec__" 169 .none,hE P "__annotations__" 170 (.ref 6),hE P "__builtins__" 171 (.ref 4),hE P "__file__" 173 (.str (.ofString "/claim/cut.py") 172),hE P "__cached__" 174 .none,hE P "ViewError" 206 (.ref 24),hE P "NoKind" 222 (.ref 37),hE P "NoView" 247 (.ref 56),hE P "CantPut" 272 (.ref 75),hE P "kind_at" 283 (.ref 84),hE P "sorted_fields" 293 (.ref 91),hE P "record_of" 300 (.ref 98),hE P "misfit" 311 (.ref 105),hE P "record_misfit" 322 (.ref 112),hE P "has_just" 328 (.ref 117),hE P "rows_misfit" 340 (.ref 124),hE P "is_pair" 347 (.ref 131),hE P "tree_misfit" 358 (.ref 138),hE P "either_misfit" 368 (.ref 145),hE P "rank" 378 (.ref 152),hE P "ask_fit" 389 (.ref 159),hE P "ask_stands" 396 (.ref 166),hE P "View" 458 (.ref 211),hE P "Beside" 530 (.ref 265),hE P "_law_next" 542 (.ref 274),hE P "_law_number" 552 (.ref 281),hE P "_law_word" 566 (.ref 288),hE P "_law_names" 583 (.ref 295),hE P "_law_plain" 591 (.ref 302),hE P "_law_fields" 597 (.ref 307),hE P "_law_rows_kind" 615 (.ref 314),hE P "_law_kind" 625 (.ref 321),hE P "_law_rank" 633 (.ref 328),hE P "_law_rows" 648 (.ref 335),hE P "_law_value" 654 (.ref 340),hE P "_law_alike" 660 (.ref 345),hE P "_law_way" 666 (.ref 350),hE P "_law_stranger" 672 (.ref 355),hE P "_law_pool" 678 (.ref 360),hE P "_law_some" 694 (.ref 367),hE P "_law_spoilt" 708 (.ref 374),hE P "_law_put" 721 (.ref 381),hE P "_law_same_end" 730 (.ref 388),hE P "_law_number_kind" 736 (.ref 393),hE P "_law_seen" 742 (.ref 398),hE P "_law_round" 748 (.ref 403),hE P "law" 757 (.ref 410)] 51) #[]
noncomputable def xK (P:Params):Obj:=.mk (.type "dict") none (.dict #[hE P "__module__" 196 (.str (.ofString "putback.errors") 187),hE P "__firstlineno__" 200 (.int 2 199),hE P "__static_attributes__" 201 (.ref 22),hE P "__weakref__" 203 (.ref 25),hE P "__doc__" 204 .none] 3) #[]
noncomputable def xM:Obj:=.mk (.type "type") none (.cls (.mk (.ofString "ViewError") [.type "ValueError"] [.ref 24,.type "ValueError",.type "Exception",.type "BaseException",.type "object"] 23 (.ofString "ViewError") true [] [.ref 37,.ref 56,.ref 75] false none false)) #[some (.ref 15),none,some (.str (.ofString "ViewError") 189),some (.str (.ofString "ViewError") 197),some (.builtin "ValueError.__new__"),some (.bool true)]
noncomputable def xN:Obj:=.mk (.type "getset_descriptor") none (.fields #[.str (.ofString "__weakref__") 202,.ref 24,.builtin "ExceptionGroup.__weakref__",.none]) #[]
noncomputable def xO (P:Params):Obj:=.mk (.type "dict") none (.dict #[hE P "__module__" 214 (.str (.ofString "putback.errors") 187),hE P "__firstlineno__" 218 (.int 4 217),hE P "__static_attributes__" 219 (.ref 35),hE P "__doc__" 220 .none] 2) #[]
noncomputable def xP:Obj:=.mk (.type "type") none (.cls (.mk (.ofString "NoKind") [.ref 24] [.ref 37,.ref 24,.type "ValueError",.type "Exception",.type "BaseException",.type "object"] 36 (.ofString "NoKind") true [] [] false none false)) #[some (.ref 28),none,some (.str (.ofString "NoKind") 207),some (.str (.ofString "NoKind") 215),some (.builtin "ValueError.__new__"),some (.bool true)]
def xQ:Obj:=hC "__init__" "NoView.__init__" 235 8 2 3 47 240
def xR:Obj:=hF "__init__" "NoView.__init__" (fF 3 0) xI 187 52
noncomputable def xS (P:Params):Obj:=.mk (.type "dict") none (.dict #[hE P "__module__" 230 (.str (.ofString "putback.errors") 187),hE P "__firstlineno__" 234 (.int 6 233),hE P "__init__" 242 (.ref 53),hE P "__static_attributes__" 244 (.ref 54),hE P "__doc__" 245 .none] 2) #[]
noncomputable def xT:Obj:=.mk (.type "type") none (.cls (.mk (.ofString "NoView") [.ref 24] [.ref 56,.ref 24,.type "ValueError",.type "Exception",.type "BaseException",.type "object"] 55 (.ofString "NoView") true [] [] false none false)) #[some (.ref 40),none,some (.str (.ofString "NoView") 223),some (.str (.ofString "NoView") 231),some (.builtin "ValueError.__new__"),some (.bool true)]
def xU:Obj:=hC "__init__" "CantPut.__init__" 260 12 2 3 66 265
def xV:Obj:=hF "__init__" "CantPut.__init__" (fF 4 0) xI 187 71
noncomputable def xW (P:Params):Obj:=.mk (.type "dict") none (.dict #[hE P "__module__" 255 (.str (.ofString "putback.errors") 187),hE P "__firstlineno__" 259 (.int 10 258),hE P "__init__" 267 (.ref 72),hE P "__static_attributes__" 269 (.ref 73),hE P "__doc__" 270 .none] 2) #[]
noncomputable def xX:Obj:=.mk (.type "type") none (.cls (.mk (.ofString "CantPut") [.ref 24] [.ref 75,.ref 24,.type "ValueError",.type "Exception",.type "BaseException",.type "object"] 74 (.ofString "CantPut") true [] [] false none false)) #[some (.ref 59),none,some (.str (.ofString "CantPut") 248),some (.str (.ofString "CantPut") 256),some (.builtin "ValueError.__new__"),some (.bool true)]
def xY:Obj:=ie "kind_at" 275 15 2 3 78 281
def xZ:Obj:=gF "kind_at" (top 6) tE 273 83
def x6:Obj:=ie "sorted_fields" 284 20 1 3 85 291
def x8:Obj:=gF "sorted_fields" (top 7) tE 273 90
def x9:Obj:=ie "record_of" 294 27 1 3 92 298
def x_:Obj:=gF "record_of" (top 8) tE 273 97
def ya:Obj:=ie "misfit" 303 30 2 3 99 309
def yb:Obj:=gF "misfit" (top 10) lK 301 104
def yc:Obj:=ie "record_misfit" 312 43 2 3 106 320
def yd:Obj:=gF "record_misfit" (top 11) lK 301 111
def ye:Obj:=kG "has_just" 323 51 2 3 113 326
def yf:Obj:=gF "has_just" (top 12) lK 301 116
def yg:Obj:=ie "rows_misfit" 329 53 2 3 118 338
def yh:Obj:=gF "rows_misfit" (top 13) lK 301 123
def yi:Obj:=ie "is_pair" 341 67 1 3 125 345
def yj:Obj:=gF "is_pair" (top 14) lK 301 130
def yk:Obj:=ie "tree_misfit" 348 69 2 3 132 356
def yl:Obj:=gF "tree_misfit" (top 15) lK 301 137
def ym:Obj:=ie "either_misfit" 359 80 2 3 139 366
def yn:Obj:=gF "either_misfit" (top 16) lK 301 144
def yo:Obj:=ie "rank" 369 90 2 3 146 376
def yp:Obj:=gF "rank" (top 17) lK 301 151
def yq:Obj:=ie "ask_fit" 381 97 2 3 153 387
def yr:Obj:=gF "ask_fit" (top 19) mq 379 158
def yt:Obj:=ie "ask_stands" 390 101 1 3 160 394
def yu:Obj:=gF "ask_stands" (top 20) mq 379 165
def yw:Obj:=hC "behind" "View.behind" 409 106 2 3 174 414
def yx:Obj:=hF "behind" "View.behind" (fF 21 0) mq 379 179
def yy:Obj:=hC "see" "View.see" 417 109 3 3 181 423
def yz:Obj:=hF "see" "View.see" (fF 21 1) mq 379 186
def yA:Obj:=hC "put" "View.put" 426 112 4 3 188 433
def yB:Obj:=hF "put" "View.put" (fF 21 2) mq 379 193
def yC:Obj:=hC "grade" "View.grade" 436 116 1 3 195 440
def yD:Obj:=hF "grade" "View.grade" (fF 21 3) mq 379 200
def yE:Obj:=hC "keeps" "View.keeps" 443 119 2 3 202 448
def yF:Obj:=hF "keeps" "View.keeps" (fF 21 4) mq 379 207
noncomputable def yG (P:Params):Obj:=.mk (.type "dict") none (.dict #[hE P "__module__" 404 (.str (.ofString "putback.views") 379),hE P "__firstlineno__" 408 (.int 104 407),hE P "behind" 416 (.ref 180),hE P "see" 425 (.ref 187),hE P "put" 435 (.ref 194),hE P "grade" 442 (.ref 201),hE P "keeps" 450 (.ref 208),hE P "__static_attributes__" 451 (.ref 209),hE P "__dict__" 453 (.ref 212),hE P "__weakref__" 455 (.ref 213),hE P "__doc__" 456 .none] 4) #[]
noncomputable def yH:Obj:=.mk (.type "type") none (.cls (.mk (.ofString "View") [.type "object"] [.ref 211,.type "object"] 210 (.ofString "View") true [] [.ref 265] false none false)) #[none,none,some (.str (.ofString "View") 397),some (.str (.ofString "View") 405),some (.builtin "object.__new__"),some (.bool true)]
noncomputable def yI:Obj:=.mk (.type "getset_descriptor") none (.fields #[.str (.ofString "__dict__") 452,.ref 211,.builtin "function.__dict__",.builtin "function.__dict__#set"]) #[]
noncomputable def yJ:Obj:=.mk (.type "getset_descriptor") none (.fields #[.str (.ofString "__weakref__") 454,.ref 211,.builtin "ExceptionGroup.__weakref__",.none]) #[]
def yK:Obj:=hC "__init__" "Beside.__init__" 473 124 4 3 223 480
def yL:Obj:=hF "__init__" "Beside.__init__" (fF 23 0) nI 459 228
def yM:Obj:=hC "behind" "Beside.behind" 483 129 2 3 230 488
def yN:Obj:=hF "behind" "Beside.behind" (fF 23 1) nI 459 235
def yO:Obj:=hC "see" "Beside.see" 491 134 3 3 237 497
def yP:Obj:=hF "see" "Beside.see" (fF 23 2) nI 459 242
def yQ:Obj:=hC "put" "Beside.put" 500 137 4 3 244 507
def yR:Obj:=hF "put" "Beside.put" (fF 23 3) nI 459 249
def yS:Obj:=xH "sum_of" "Beside.sum_of" 510 143 2 3 251 513
def yT:Obj:=hF "sum_of" "Beside.sum_of" (fF 23 4) nI 459 254
def yU:Obj:=hC "keeps" "Beside.keeps" 516 146 2 3 256 521
def yV:Obj:=hF "keeps" "Beside.keeps" (fF 23 5) nI 459 261
noncomputable def yW (P:Params):Obj:=.mk (.type "dict") none (.dict #[hE P "__module__" 468 (.str (.ofString "putback.tables") 459),hE P "__firstlineno__" 472 (.int 122 471),hE P "__init__" 482 (.ref 229),hE P "behind" 490 (.ref 236),hE P "see" 499 (.ref 243),hE P "put" 509 (.ref 250),hE P "sum_of" 515 (.ref 255),hE P "keeps" 523 (.ref 262),hE P "__static_attributes__" 527 (.ref 263),hE P "__doc__" 528 .none] 2) #[]
noncomputable def yX:Obj:=.mk (.type "type") none (.cls (.mk (.ofString "Beside") [.ref 211] [.ref 265,.ref 211,.type "object"] 264 (.ofString "Beside") true [] [] false none false)) #[some (.ref 216),none,some (.str (.ofString "Beside") 461),some (.str (.ofString "Beside") 469),some (.builtin "object.__new__"),some (.bool true)]
def yY:Obj:=ie "_law_next" 533 149 2 3 268 540
def yZ:Obj:=gF "_law_next" (top 25) ip 531 273
def y7:Obj:=ie "_law_number" 543 156 2 3 275 550
def y8:Obj:=gF "_law_number" (top 26) ip 531 280
def y9:Obj:=ie "_law_word" 553 164 2 3 282 564
def y_:Obj:=gF "_law_word" (top 27) ip 531 287
def za:Obj:=ie "_law_names" 567 176 3 3 289 581
def zb:Obj:=gF "_law_names" (top 28) ip 531 294
def zc:Obj:=ie "_law_plain" 584 190 2 3 296 589
def zd:Obj:=gF "_law_plain" (top 29) ip 531 301
def ze:Obj:=kG "_law_fields" 592 194 4 3 303 595
def zf:Obj:=gF "_law_fields" (top 30) ip 531 306
def zg:Obj:=ie "_law_rows_kind" 598 197 4 3 308 613
def zh:Obj:=gF "_law_rows_kind" (top 31) ip 531 313
def zi:Obj:=ie "_law_kind" 616 212 3 3 315 623
def zj:Obj:=gF "_law_kind" (top 32) ip 531 320
def zk:Obj:=ie "_law_rank" 626 223 2 3 322 631
def zl:Obj:=gF "_law_rank" (top 33) ip 531 327
def zm:Obj:=ie "_law_rows" 634 227 4 3 329 646
def zo:Obj:=gF "_law_rows" (top 34) ip 531 334
def zp:Obj:=kG "_law_value" 649 236 4 3 336 652
def zq:Obj:=gF "_law_value" (top 35) ip 531 339
def zr:Obj:=kG "_law_alike" 655 254 3 3 341 658
def zt:Obj:=gF "_law_alike" (top 36) ip 531 344
def zu:Obj:=kG "_law_way" 661 282 2 3 346 664
def zv:Obj:=gF "_law_way" (top 37) ip 531 349
def zw:Obj:=kG "_law_stranger" 667 286 3 3 351 670
def zx:Obj:=gF "_law_stranger" (top 38) ip 531 354
def zy:Obj:=kG "_law_pool" 673 290 4 3 356 676
def zA:Obj:=gF "_law_pool" (top 39) ip 531 359
def zB:Obj:=ie "_law_some" 679 298 5 3 361 692
def zC:Obj:=gF "_law_some" (top 40) ip 531 366
def zD:Obj:=ie "_law_spoilt" 695 309 4 3 368 706
def zE:Obj:=gF "_law_spoilt" (top 41) ip 531 373
def zF:Obj:=ie "_law_put" 709 329 4 3 375 719
def zG:Obj:=gF "_law_put" (top 42) ip 531 380
def zH:Obj:=ie "_law_same_end" 722 339 3 3 382 728
def zI:Obj:=gF "_law_same_end" (top 43) ip 531 387
def zJ:Obj:=kG "_law_number_kind" 731 345 3 3 389 734
def zK:Obj:=gF "_law_number_kind" (top 44) ip 531 392
def zL:Obj:=kG "_law_seen" 737 353 7 3 394 740
def zM:Obj:=gF "_law_seen" (top 45) ip 531 397
def zN:Obj:=kG "_law_round" 743 371 2 3 399 746
def zO:Obj:=gF "_law_round" (top 46) ip 531 402
def zP:Obj:=ie "law" 749 407 1 3 404 755
def zQ:Obj:=gF "law" (top 47) ip 531 409
noncomputable def EB (P:Params):Obj:=.mk (.type "dict") none (.dict #[hE P "__name__" 165 (.str (.ofString "putback.views") 379),hE P "__doc__" 166 .none,hE P "__package__" 167 .none,hE P "__loader__" 168 (.builtin "__main__.__loader__#opaque"),hE P "__spec__" 169 .none,hE P "__annotations__" 170 (.ref 6),hE P "__builtins__" 171 (.ref 4),hE P "__file__" 173 (.str (.ofString "/claim/cut.py") 172),hE P "__cached__" 174 .none,hE P "ViewError" 206 (.ref 24),hE P "NoKind" 222 (.ref 37),hE P "NoView" 247 (.ref 56),hE P "CantPut" 272 (.ref 75),hE P "kind_at" 283 (.ref 84),hE P "sorted_fields" 293 (.ref 91),hE P "record_of" 300 (.ref 98),hE P "misfit" 311 (.ref 105),hE P "record_misfit" 322 (.ref 112),hE P "has_just" 328 (.ref 117),hE P "rows_misfit" 340 (.ref 124),hE P "is_pair" 347 (.ref 131),hE P "tree_misfit" 358 (.ref 138),hE P "either_misfit" 368 (.ref 145),hE P "rank" 378 (.ref 152),hE P "ask_fit" 389 (.ref 159),hE P "ask_stands" 396 (.ref 166)] 26) #[]
noncomputable def EC (P:Params):List Obj:=hT0::hI [(2,0,20),(4,0,33),(6,0,45),(10,0,64),(15,0,83),(20,0,90),(27,0,97),(30,0,104),(43,0,111),(51,0,116),(53,0,123),(67,0,130),(69,0,137),(80,0,144),(90,0,151),(97,0,158),(101,0,165)]::hK "<module>" 182 1 11 185::ml 13 3 "__main__" 164:: .mk (.type "tuple") none (.seq #[.type "ValueError"]) #[]::jP:: .mk (.type "dict") none (.dict #[hE P "__module__" 196 (.str (.ofString "putback.errors") 187),hE P "__qualname__" 198 (.str (.ofString "ViewError") 197),hE P "__firstlineno__" 200 (.int 2 199),hE P "__static_attributes__" 201 (.ref 22)] 4) #[]::hT0::f9::hK "ViewError" 191 2 18 194::ml 20 17 "putback.errors" 187::hT0::xK P::xM::xN::nH 24::hIs 24::qw 24::jP:: .mk (.type "dict") none (.dict #[hE P "__module__" 214 (.str (.ofString "putback.errors") 187),hE P "__qualname__" 216 (.str (.ofString "NoKind") 215),hE P "__firstlineno__" 218 (.int 4 217),hE P "__static_attributes__" 219 (.ref 35)] 4) #[]::hT0::f9::hK "NoKind" 209 4 31 212::ml 33 30 "putback.errors" 187::hT0::xO P::xP::nH 37::hIs 37::qw 24::jP:: .mk (.type "dict") none (.dict #[hE P "__module__" 230 (.str (.ofString "putback.errors") 187),hE P "__qualname__" 232 (.str (.ofString "NoView") 231),hE P "__firstlineno__" 234 (.int 6 233),hE P "__init__" 242 (.ref 53),hE P "__static_attributes__" 244 (.ref 54)] 5) #[]::hT0::hI [(8,4,52)]::hK "NoView" 225 6 43 228::ml 45 42 "putback.errors" 187::hT0::f9::hT 238 ["self","way"]::hT0::hR "__init__" "NoView.__init__" (fF 3 0)::xQ::xR::hT 243 ["way"]::xS P::xT::nH 56::hIs 56::qw 24::jP:: .mk (.type "dict") none (.dict #[hE P "__module__" 255 (.str (.ofString "putback.errors") 187),hE P "__qualname__" 257 (.str (.ofString "CantPut") 256),hE P "__firstlineno__" 259 (.int 10 258),hE P "__init__" 267 (.ref 72),hE P "__static_attributes__" 269 (.ref 73)] 5) #[]::hT0::hI [(12,4,71)]::hK "CantPut" 250 10 62 253::ml 64 61 "putback.errors" 187::hT0::f9::hT 263 ["self","way"]::hT0::hR "__init__" "CantPut.__init__" (fF 4 0)::xU::xV::hT 268 ["way"]::xW P::xX::nH 75::hIs 75::hT0::f9::hT 278 ["fields","name","pair"]::hT0::gG "kind_at" (top 6)::xY::xZ::hT0::f9::hT 287 ["pairs","fields","number","name"]::hT0::gG "sorted_fields" (top 7)::x6::x8::hT0::f9::hT 297 ["pairs"]::hT0::gG "record_of" (top 8)::x9::x_::hT0::f9::hT 306 ["kind","value","form"]::hT0::gG "misfit" (top 10)::ya::yb::hT0::f9::hT 315 ["fields","record","name","inner","place"]::hT0::gG "record_misfit" (top 11)::yc::yd::hT0::f9::gG "has_just" (top 12)::ye::yf::hT0::f9::hT 332 ["kind","rows","earlier","number","row","place"]::hT0::gG "rows_misfit" (top 13)::yg::yh::hT0::f9::hT 344 ["value"]::hT0::gG "is_pair" (top 14)::yi::yj::hT0::f9::hT 351 ["kind","tree","place","number","arm"]::hT0::gG "tree_misfit" (top 15)::yk::yl::hT0::f9::hT 362 ["fields","value","inner","place"]::hT0::gG "either_misfit" (top 16)::ym::yn::hT0::f9::hT 372 ["kind","row","key","by"]::hT0::gG "rank" (top 17)::yo::yp::hT0::f9::hT 384 ["kind","seen","place"]::hT0::gG "ask_fit" (top 19)::yq::yr::hT0::f9::hT 393 ["stands"]::hT0::gG "ask_stands" (top 20)::yt::yu::[]
noncomputable def endL (P:Params):List Obj:=hT0::jP:: .mk (.type "dict") none (.dict #[hE P "__module__" 404 (.str (.ofString "putback.views") 379),hE P "__qualname__" 406 (.str (.ofString "View") 405),hE P "__firstlineno__" 408 (.int 104 407),hE P "behind" 416 (.ref 180),hE P "see" 425 (.ref 187),hE P "put" 435 (.ref 194),hE P "grade" 442 (.ref 201),hE P "keeps" 450 (.ref 208),hE P "__static_attributes__" 451 (.ref 209)] 9) #[]::hT0::hI [(106,4,179),(109,4,186),(112,4,193),(116,4,200),(119,4,207)]::hK "View" 399 104 170 402::ml 172 169 "putback.views" 379::hT0::f9::hT 412 ["self","kind"]::hT0::hR "behind" "View.behind" (fF 21 0)::yw::yx::hT0::f9::hT 420 ["self","kind","source"]::hT0::hR "see" "View.see" (fF 21 1)::yy::yz::hT0::f9::hT 429 ["self","kind","source","seen"]::hT0::hR "put" "View.put" (fF 21 2)::yA::yB::hT0::f9::hT 439 ["self"]::hT0::hR "grade" "View.grade" (fF 21 3)::yC::yD::hT0::f9::hT 446 ["self","name"]::hT0::hR "keeps" "View.keeps" (fF 21 4)::yE::yF::hT0::yG P::yH::yI::yJ::nH 211::hIs 211::qw 211::jP:: .mk (.type "dict") none (.dict #[hE P "__module__" 468 (.str (.ofString "putback.tables") 459),hE P "__qualname__" 470 (.str (.ofString "Beside") 469),hE P "__firstlineno__" 472 (.int 122 471),hE P "__init__" 482 (.ref 229),hE P "behind" 490 (.ref 236),hE P "see" 499 (.ref 243),hE P "put" 509 (.ref 250),hE P "sum_of" 515 (.ref 255),hE P "keeps" 523 (.ref 262),hE P "__static_attributes__" 527 (.ref 263)] 10) #[]::hT0::hI [(124,4,228),(129,4,235),(134,4,242),(137,4,249),(143,4,254),(146,4,261)]::hK "Beside" 463 122 219 466::ml 221 218 "putback.tables" 459::hT0::f9::hT 476 ["self","field","rows","total"]::hT0::hR "__init__" "Beside.__init__" (fF 23 0)::yK::yL::hT0::f9::hT 486 ["self","kind"]::hT0::hR "behind" "Beside.behind" (fF 23 1)::yM::yN::hT0::f9::hT 494 ["self","kind","source"]::hT0::hR "see" "Beside.see" (fF 23 2)::yO::yP::hT0::f9::hT 503 ["self","kind","source","seen"]::hT0::hR "put" "Beside.put" (fF 23 3)::yQ::yR::hT0::f9::hR "sum_of" "Beside.sum_of" (fF 23 4)::yS::yT::hT0::f9::hT 519 ["self","name"]::hT0::hR "keeps" "Beside.keeps" (fF 23 5)::yU::yV::hT 524 ["field","rows","total"]::yW P::yX::nH 265::hIs 265::hT0::f9::hT 536 ["_law_script","_law_at","_law_cell","_law_m"]::hT0::gG "_law_next" (top 25)::yY::yZ::hT0::f9::hT 546 ["_law_script","_law_at","_law_m","_law_cell"]::hT0::gG "_law_number" (top 26)::y7::y8::hT0::f9::hT 556 ["_law_script","_law_at","_law_signs","_law_m","_law_many","_law_word_here","_law_k","_law_place"]::hT0::gG "_law_word" (top 27)::y9::y_::hT0::f9::hT 570 ["_law_script","_law_at","_law_many","_law_letters","_law_m","_law_step","_law_stem","_law_cut","_law_names_here","_law_k","_law_sign"]::hT0::gG "_law_names" (top 28)::za::zb::hT0::f9::hT 587 ["_law_script","_law_at"]::hT0::gG "_law_plain" (top 29)::zc::zd::hT0::f9::gG "_law_fields" (top 30)::ze::zf::hT0::f9::hT 601 ["_law_script","_law_at","_law_many","_law_deep","_law_names_here","_law_m","_law_lead","_law_by","_law_fields_here","_law_k","_law_kind_here","_law_name"]::hT0::gG "_law_rows_kind" (top 31)::zg::zh::hT0::f9::hT 619 ["_law_script","_law_at","_law_deep","_law_m"]::hT0::gG "_law_kind" (top 32)::zi::zj::hT0::f9::hT 629 ["_law_kind_here","_law_row"]::hT0::gG "_law_rank" (top 33)::zk::zl::hT0::f9::hT 637 ["_law_script","_law_at","_law_kind_here","_law_room","_law_rows_here","_law_seen_here","_law_k","_law_row"]::hT 645 ["_law_kind_here"]::gG "_law_rows" (top 34)::zm::zo::hT0::f9::gG "_law_value" (top 35)::zp::zq::hT0::f9::gG "_law_alike" (top 36)::zr::zt::hT0::f9::gG "_law_way" (top 37)::zu::zv::hT0::f9::gG "_law_stranger" (top 38)::zw::zx::hT0::f9::gG "_law_pool" (top 39)::zy::zA::hT0::f9::hT 682 ["_law_script","_law_at","_law_kind_here","_law_pool_here","_law_room","_law_rows_here","_law_one","_law_m","_law_row"]::hT 691 ["_law_kind_here"]::gG "_law_some" (top 40)::zB::zC::hT0::f9::hT 698 ["_law_script","_law_at","_law_kind_here","_law_rows_here","_law_m","_law_n","_law_row","_law_name"]::hT0::gG "_law_spoilt" (top 41)::zD::zE::hT0::f9::hT 712 ["_law_view","_law_kind_here","_law_source","_law_seen_here","_law_way_here","_law_made","e"]::hT0::gG "_law_put" (top 42)::zF::zG::hT0::f9::hT 725 ["_law_kind_here","_law_found","_law_due"]::hT0::gG "_law_same_end" (top 43)::zH::zI::hT0::f9::gG "_law_number_kind" (top 44)::zJ::zK::hT0::f9::gG "_law_seen" (top 45)::zL::zM::hT0::f9::gG "_law_round" (top 46)::zN::zO::hT0::f9::hT 752 ["_law_script","_law_at","_law_k"]::hT0::gG "law" (top 47)::zP::zQ::[]
noncomputable def ED (P:Params):List (Nat × Obj):=(nat_lit 3,xJ P)::(nat_lit 12,hI [(2,0,20),(4,0,33),(6,0,45),(10,0,64),(15,0,83),(20,0,90),(27,0,97),(30,0,104),(43,0,111),(51,0,116),(53,0,123),(67,0,130),(69,0,137),(80,0,144),(90,0,151),(97,0,158),(101,0,165),(104,0,172),(122,0,221),(149,0,273),(156,0,280),(164,0,287),(176,0,294),(190,0,301),(194,0,306),(197,0,313),(212,0,320),(223,0,327),(227,0,334),(236,0,339),(254,0,344),(282,0,349),(286,0,354),(290,0,359),(298,0,366),(309,0,373),(329,0,380),(339,0,387),(345,0,392),(353,0,397),(371,0,402),(407,0,409)])::[]
end
noncomputable def KK:PySem.Params->W.Frag:=λP=>(nat_lit 2,EA)::(nat_lit 3,xJ P)::(nat_lit 23,xK P)::(nat_lit 24,xM)::(nat_lit 25,xN)::(nat_lit 36,xO P)::(nat_lit 37,xP)::(nat_lit 52,xQ)::(nat_lit 53,xR)::(nat_lit 55,xS P)::(nat_lit 56,xT)::(nat_lit 71,xU)::(nat_lit 72,xV)::(nat_lit 74,xW P)::(nat_lit 75,xX)::(nat_lit 83,xY)::(nat_lit 84,xZ)::(nat_lit 90,x6)::(nat_lit 91,x8)::(nat_lit 97,x9)::(nat_lit 98,x_)::(nat_lit 104,ya)::(nat_lit 105,yb)::(nat_lit 111,yc)::(nat_lit 112,yd)::(nat_lit 116,ye)::(nat_lit 117,yf)::(nat_lit 123,yg)::(nat_lit 124,yh)::(nat_lit 130,yi)::(nat_lit 131,yj)::(nat_lit 137,yk)::(nat_lit 138,yl)::(nat_lit 144,ym)::(nat_lit 145,yn)::(nat_lit 151,yo)::(nat_lit 152,yp)::(nat_lit 158,yq)::(nat_lit 159,yr)::(nat_lit 165,yt)::(nat_lit 166,yu)::(nat_lit 179,yw)::(nat_lit 180,yx)::(nat_lit 186,yy)::(nat_lit 187,yz)::(nat_lit 193,yA)::(nat_lit 194,yB)::(nat_lit 200,yC)::(nat_lit 201,yD)::(nat_lit 207,yE)::(nat_lit 208,yF)::(nat_lit 210,yG P)::(nat_lit 211,yH)::(nat_lit 212,yI)::(nat_lit 213,yJ)::(nat_lit 228,yK)::(nat_lit 229,yL)::(nat_lit 235,yM)::(nat_lit 236,yN)::(nat_lit 242,yO)::(nat_lit 243,yP)::(nat_lit 249,yQ)::(nat_lit 250,yR)::(nat_lit 254,yS)::(nat_lit 255,yT)::(nat_lit 261,yU)::(nat_lit 262,yV)::(nat_lit 264,yW P)::(nat_lit 265,yX)::(nat_lit 273,yY)::(nat_lit 274,yZ)::(nat_lit 280,y7)::(nat_lit 281,y8)::(nat_lit 287,y9)::(nat_lit 288,y_)::(nat_lit 294,za)::(nat_lit 295,zb)::(nat_lit 301,zc)::(nat_lit 302,zd)::(nat_lit 306,ze)::(nat_lit 307,zf)::(nat_lit 313,zg)::(nat_lit 314,zh)::(nat_lit 320,zi)::(nat_lit 321,zj)::(nat_lit 327,zk)::(nat_lit 328,zl)::(nat_lit 334,zm)::(nat_lit 335,zo)::(nat_lit 339,zp)::(nat_lit 340,zq)::(nat_lit 344,zr)::(nat_lit 345,zt)::(nat_lit 349,zu)::(nat_lit 350,zv)::(nat_lit 354,zw)::(nat_lit 355,zx)::(nat_lit 359,zy)::(nat_lit 360,zA)::(nat_lit 366,zB)::(nat_lit 367,zC)::(nat_lit 373,zD)::(nat_lit 374,zE)::(nat_lit 380,zF)::(nat_lit 381,zG)::(nat_lit 387,zH)::(nat_lit 388,zI)::(nat_lit 392,zJ)::(nat_lit 393,zK)::(nat_lit 397,zL)::(nat_lit 398,zM)::(nat_lit 402,zN)::(nat_lit 403,zO)::(nat_lit 409,zP)::(nat_lit 410,zQ)::[]
noncomputable def lL:List Nat:=nat_lit 2::nat_lit 3::nat_lit 23::nat_lit 24::nat_lit 25::nat_lit 36::nat_lit 37::nat_lit 52::nat_lit 53::nat_lit 55::nat_lit 56::nat_lit 71::nat_lit 72::nat_lit 74::nat_lit 75::nat_lit 83::nat_lit 84::nat_lit 90::nat_lit 91::nat_lit 97::nat_lit 98::nat_lit 104::nat_lit 105::nat_lit 111::nat_lit 112::nat_lit 116::nat_lit 117::nat_lit 123::nat_lit 124::nat_lit 130::nat_lit 131::nat_lit 137::nat_lit 138::nat_lit 144::nat_lit 145::nat_lit 151::nat_lit 152::nat_lit 158::nat_lit 159::nat_lit 165::nat_lit 166::nat_lit 179::nat_lit 180::nat_lit 186::nat_lit 187::nat_lit 193::nat_lit 194::nat_lit 200::nat_lit 201::nat_lit 207::nat_lit 208::nat_lit 210::nat_lit 211::nat_lit 212::nat_lit 213::nat_lit 228::nat_lit 229::nat_lit 235::nat_lit 236::nat_lit 242::nat_lit 243::nat_lit 249::nat_lit 250::nat_lit 254::nat_lit 255::nat_lit 261::nat_lit 262::nat_lit 264::nat_lit 265::nat_lit 273::nat_lit 274::nat_lit 280::nat_lit 281::nat_lit 287::nat_lit 288::nat_lit 294::nat_lit 295::nat_lit 301::nat_lit 302::nat_lit 306::nat_lit 307::nat_lit 313::nat_lit 314::nat_lit 320::nat_lit 321::nat_lit 327::nat_lit 328::nat_lit 334::nat_lit 335::nat_lit 339::nat_lit 340::nat_lit 344::nat_lit 345::nat_lit 349::nat_lit 350::nat_lit 354::nat_lit 355::nat_lit 359::nat_lit 360::nat_lit 366::nat_lit 367::nat_lit 373::nat_lit 374::nat_lit 380::nat_lit 381::nat_lit 387::nat_lit 388::nat_lit 392::nat_lit 393::nat_lit 397::nat_lit 398::nat_lit 402::nat_lit 403::nat_lit 409::nat_lit 410::[]
noncomputable def zR (P:PySem.Params):W.BT:=tm 11 (EC P) ((tD P).ins 3 (EB P))
noncomputable def EE (P:PySem.Params):W.BT:=xA (ED P) (tm 167 (endL P) (zR P))
noncomputable def qv:PySem.Program:={ PySem.Challenge.pw_putback_k45_beside with main:={ (PySem.Challenge.pw_putback_k45_beside).main with body:=top 1::top 2::top 3::top 4::top 6::top 7::top 8::top 10::top 11::top 12::top 13::top 14::top 15::top 16::top 17::top 19::top 20::top 21::top 23::top 25::top 26::top 27::top 28::top 29::top 30::top 31::top 32::top 33::top 34::top 35::top 36::top 37::top 38::top 39::top 40::top 41::top 42::top 43::top 44::top 45::top 46::top 47::[] } }
theorem mr (P:PySem.Params):lL=(KK P).map (·.1):=by kernel_rfl
noncomputable def zS (w:PySem.World) (os:PySem.OsState):W.SharedT:=⟨zR w.params,167,(W.boot_heap w.params).life,#[],W.boot_drawn,397,os⟩
noncomputable def mw (w:PySem.World) (os:PySem.OsState):W.SharedT:=⟨EE w.params,411,(W.boot_heap w.params).life,#[],W.boot_drawn,758,os⟩
noncomputable def tF:List PySem.Stmt:=W.behindTheImports (W.OpenLaw.row PySem.Challenge.rw_putback_k45_beside).prog
noncomputable def qx:PySem.Env:={ scope:=((W.OpenLaw.row PySem.Challenge.rw_putback_k45_beside).prog).main.scope,locals:=PySem.mainNs,globals:=PySem.mainNs,cells:=[],code:=.ref 13,frame:=some 14 }
noncomputable def oV:PySem.Code:=.body (W.behindTheImports (W.OpenLaw.row PySem.Challenge.rw_putback_k45_beside).prog) qx
open W PyProof.Rows in
theorem EF:∀w os,qt (W.OpenLaw.row PySem.Challenge.rw_putback_k45_beside).prog w 11 (some (.ref 6)) qx oV ⟨0,0,0,0⟩ (tF.take 21) 12 1 5000 (qu w os)=some (⟨j7 j8 (.body (behindTheImports (W.OpenLaw.row PySem.Challenge.rw_putback_k45_beside).prog) qx),oV,⟨0,0,0,0⟩,[topFrame ⟨0,0,0,0⟩]⟩,oV,oV,zS w os,⟨101,0,103,24⟩):=by
 intro w os
 kernel_rfl
open W PyProof.Rows in
theorem EG:∀w os,mj (W.OpenLaw.row PySem.Challenge.rw_putback_k45_beside).prog w 11 (some (.ref 6)) 6000 (zS w os) (restOf (tF.drop 21) qx oV ⟨101,0,103,24⟩ [topFrame ⟨0,0,0,0⟩])=some (mw w os):=by
 intro w os
 kernel_rfl
open W PyProof.Rows in
theorem EH:∀w os,(staticsOk (importedModules ((W.OpenLaw.row PySem.Challenge.rw_putback_k45_beside).prog).main.body) (boot_heap w.params) (mw w os).abs.heap && namesBound (W.OpenLaw.row PySem.Challenge.rw_putback_k45_beside).prog (mw w os).abs.heap && gensDone (mw w os).abs && laidKept (boot_heap w.params) (mw w os).abs.heap)=true:=by
 intro w os
 kernel_rfl
open W PyProof.Rows in
theorem EI:∀w os,seenQ qv [] (importedModules ((W.OpenLaw.row PySem.Challenge.rw_putback_k45_beside).prog).main.body) (λs=>xlAt qv [] s && recOk (RowW.records (W.OpenRow.toRowW (W.OpenLaw.row PySem.Challenge.rw_putback_k45_beside))) s) true (mw w os).abs=openGood qv []:=by
 intro w os
 kernel_rfl
open W PyProof.Rows in
theorem EJ:∀w os,Hook.obs (W.kmHook Pb.KK Pb.lL Pb.mr [86,330,405]) (mw w os).abs=Hook.val (W.kmHook Pb.KK Pb.lL Pb.mr [86,330,405]) w:=by
 intro w os
 kernel_rfl
open W PyProof.Rows in
theorem said:PySem.Challenge.rw_putback_k45_beside.wellSaid=true:=by
 delta OpenLaw.wellSaid OpenRow.wellSaid OpenRow.partSaid looksOpen
 repeat' (with_reducible refine look_both ?_ ?_)
 all_goals kernel_rfl
end Pb
namespace L2
open Spec PyProof.Rows
noncomputable abbrev Key:=Sum Int Str
noncomputable def nJ:Key->Value->Bool
 | .inl k,v=>Value.isInt k v
 | .inr x,v=>Value.isStrOf x v
noncomputable def EK (w:World):Key->Int
 | .inl k=>hashInt k
 | .inr x=>hashStr w x
theorem k9:∀{k:Key}{v:Value},nJ k v=true->(∃i t,k=Sum.inl i/\v=Value.int i t)\/(∃x t,k=Sum.inr x/\v=Value.str x t)
 | .inl i,v,h=>by
   obtain⟨t,e⟩:=Value.isInt_shape (k:=i) (v:=v) h;exact .inl ⟨i,t,rfl,e⟩
 | .inr x,v,h=>by
   obtain⟨t,e⟩:=Value.isStrOf_shape (x:=x) (v:=v) h;exact .inr ⟨x,t,rfl,e⟩
theorem EL (i:Int)(t:Tok):nJ (.inl i) (.int i t)=true:=by simp[nJ,Value.isInt]
theorem EM (x:Str)(t:Tok):nJ (.inr x) (.str x t)=true:=by simp[nJ,Value.isStrOf]
theorem EN (a b:Int):decide ((Sum.inl a:Key)=Sum.inl b)=(a == b):=by
 by_cases e:a=b
 . subst e;simp
 . have h:¬(Sum.inl a:Key)=Sum.inl b:=λq=>e (Sum.inl.inj q);rw[decide_eq_false h];exact(beq_eq_false_iff_ne.mpr e).symm
theorem EO (a b:Str):decide ((Sum.inr a:Key)=Sum.inr b)=decide (a=b):=by
 by_cases e:a=b
 . subst e;simp
 . have h:¬(Sum.inr a:Key)=Sum.inr b:=λq=>e (Sum.inr.inj q);rw[decide_eq_false h,decide_eq_false e]
theorem ER (a:Int)(b:Str):decide ((Sum.inl a:Key)=Sum.inr b)=false:=decide_eq_false (λq=>nomatch q)
theorem ES (a:Str)(b:Int):decide ((Sum.inr a:Key)=Sum.inl b)=false:=decide_eq_false (λq=>nomatch q)
noncomputable def i5 (prog:Program) (w:World):PySem.KeyKind prog w Key where
 is:=nJ
 hash:=EK w
 inj:=λv a b U L=>by
  rcases k9 U with⟨i,t,rfl,rfl⟩|⟨x,t,rfl,rfl⟩
  . rcases k9 L with⟨j,u,rfl,e⟩|⟨y,u,rfl,e⟩
    . injection e with I _;rw[I]
    . exact nomatch e
  . rcases k9 L with⟨j,u,rfl,e⟩|⟨y,u,rfl,e⟩
    . exact nomatch e
    . injection e with I _;rw[I]
 byValue:=λk v h=>by
  rcases k9 h with⟨i,t,rfl,rfl⟩|⟨x,t,rfl,rfl⟩ <;> rfl
 pyHash:=λJ h=>by
  rcases k9 J with⟨i,t,rfl,rfl⟩|⟨x,t,rfl,rfl⟩
  . exact wpAny_pyHash_int h
  . exact wpAny_pyHash_str h
 eqBool:=λY J h=>by
  rcases k9 Y with⟨i,t,rfl,rfl⟩|⟨x,t,rfl,rfl⟩
  . rcases k9 J with⟨j,u,rfl,rfl⟩|⟨y,u,rfl,rfl⟩
    . rw[EN] at h;exact wpAny_eqBool_int h
    . rw[ER] at h;exact SeqAt.EqAt.int_str i t y u _ _ _ _ h
  . rcases k9 J with⟨j,u,rfl,rfl⟩|⟨y,u,rfl,rfl⟩
    . rw[ES] at h;exact SeqAt.EqAt.str_int x t j u _ _ _ _ h
    . rw[EO] at h;exact wpAny_eqBool_str h
 «strs»:=λk x t v h=>by
  rcases k9 h with⟨i,u,rfl,e⟩|⟨y,u,rfl,e⟩
  . exact nomatch e
  . injection e with I _
    subst I
    cases v <;> rfl
theorem ET (prog:Program)(w:World)(i:Int)(t:Tok):(i5 prog w).is (.inl i) (.int i t)=true:=EL i t
theorem EU (prog:Program)(w:World)(x:Str)(t:Tok):(i5 prog w).is (.inr x) (.str x t)=true:=EM x t
inductive V where
 |non|bl (b:Bool)|int (i:Int)|str (x:Str)|jQ (b:Array UInt8)|flt (b:UInt64)|ref (a:Addr)|ty (n:String)
 deriving DecidableEq
def RelV:V->Value->Prop
 | .non,u=>u=Value.none
 | .bl b,u=>u=Value.bool b
 | .int i,u=>∃t,u=Value.int i t
 | .str x,u=>∃t,u=Value.str x t
 | .jQ b,u=>∃t,u=Value.bytes b t
 | .flt b,u=>∃t,u=Value.float b t
 | .ref a,u=>u=Value.ref a
 | .ty n,u=>u=Value.type n
abbrev Vals:List V->List Value->Prop:=Paired RelV
theorem Vals.length {xs:List V}{us:List Value}(r:Vals xs us):xs.length=us.length:=Paired.length r
theorem Vals.get:∀{xs:List V}{us:List Value}{i:Nat}{x:V},Vals xs us->xs[i]? =some x->∃u,us[i]? =some u/\RelV x u
 |_,_,_,_,.nil,e=>by simp at e
 |_,_,0,_,.cons r _,e=>by simp at e;subst e;exact(Zr rfl r)
 |_,_,i+1,x,.cons _ t,e=>by
  obtain⟨u,h1,h2⟩:=Vals.get (i:=i) (x:=x) t (by simpa using e);exact⟨u,by simpa using h1,h2⟩
theorem Vals.set {x:V}{u:Value}(r:RelV x u):∀{xs:List V}{us:List Value}(i:Nat),Vals xs us->Vals (xs.set i x) (us.set i u)
 |_,_,_,.nil=>.nil
 |_,_,0,.cons _ t=>.cons r t
 |_,_,i+1,.cons q t=>.cons q (Vals.set r i t)
theorem Vals.append:∀{xs ys:List V}{us I:List Value},Vals xs us->Vals ys I->Vals (xs++ys) (us++I)
 |_,_,_,_,.nil,s=>s
 |_,_,_,_,.cons r t,s=>.cons r (Vals.append t s)
theorem Vals.take:∀{xs:List V}{us:List Value}(n:Nat),Vals xs us->Vals (xs.take n) (us.take n)
 |_,_,0,_=>.nil
 |_,_,_+1,.nil=>.nil
 |_,_,n+1,.cons r t=>.cons r (Vals.take n t)
theorem Vals.drop:∀{xs:List V}{us:List Value}(n:Nat),Vals xs us->Vals (xs.drop n) (us.drop n)
 |_,_,0,r=>r
 |_,_,_+1,.nil=>.nil
 |_,_,n+1,.cons _ t=>Vals.drop n t
theorem Vals.none_of:∀{xs:List V}{us:List Value}{i:Nat},Vals xs us->xs[i]? =none->us[i]? =none:=λ{xs us i} r e=>by
 have h1:=r.length;have h2:xs.length<=i:=List.getElem?_eq_none_iff.mp e;exact List.getElem?_eq_none_iff.mpr (by omega)
def iM:Option V->Option Value->Prop
 |some v,some u=>RelV v u
 |none,none=>True
 |_,_=>False
def KV {κ:Type}:List (κ × V)->List (κ × Value)->Prop:=Paired λ(p:κ × V) (q:κ × Value)=>p.1=q.1/\RelV p.2 q.2
noncomputable def kV:Key->V
 | .inl i=>.int i
 | .inr x=>.str x
inductive HO where
 |lst (xs:List V)
 |tup (xs:List V)
 |dK (kvs:List (Key × V))|dT (kvs:List (List Key × V))
 |set (S:Int->Bool) (n:Nat)
 |ins (C dx:Addr) (fs:List (Str × V))
 |own (x:Addr)
 |xd (fs:List (Str × V))
 |met (f x:Addr)
 |rng (lo hi:Int)
 |i6 (o:Obj) (u:HO)
 |gS (ps:Array Value)
 |ext (φ:Heap->Prop)
noncomputable abbrev Hp:=Addr->Option HO
noncomputable def upd (H:Hp) (a:Addr) (o:HO):Hp:=λb=>if b=a then some o else H b
theorem eW {H:Hp}{a:Addr}{o:HO}:upd H a o a=some o:=by unfold upd;rw[if_pos rfl]
theorem eU {H:Hp}{a b:Addr}{o:HO}(h:b≠a):upd H a o b=H b:=by unfold upd;rw[if_neg h]
theorem gN {H:Hp}{a b:Addr}{o u:HO}(h:H a=some o)(h':H b=some u)(d:o≠u):a≠b:=by
 intro e;subst e;rw[h] at h';exact d (Option.some.inj h')
theorem ff {H:Hp}{a b:Addr}{o:HO}(h:H a=some o)(h':H b=none):a≠b:=by
 intro e;subst e;rw[h] at h';cases h'
section
variable (P:Program)(w:World)
def gR (H:Hp) (h:Heap) (a:Addr):HO->Prop
 | .lst xs=>xs.length<=sizeLine/\∃(I:List Value) (n:Nat),Vals xs I/\h.get? a=some { cls:=.type "list",data:=.seq I.toArray n }
 | .tup xs=>xs.length<=sizeLine/\∃I:List Value,Vals xs I/\IsTup h a I.toArray
 | .dK kvs=>kvs.length<=sizeLine/\(a == sysModules)=false/\∃vs,KV kvs vs/\h.DictOf (i5 P w) a vs
 | .dT kvs=>kvs.length<=sizeLine/\(a == sysModules)=false/\∃xs:List (List Key × Addr × Value),
    Paired (λ(p:List Key × V) (q:List Key × Addr × Value)=>p.1=q.1/\H q.2.1=some (.tup (p.1.map kV))/\RelV p.2 q.2.2) kvs xs/\
    ∃o es L,h.get? a=some o/\o.ExactDict/\o.data=.dict es L/\es.toList=xs.map (entryOfKey (tupleKind (i5 P w)))/\(xs.map (·.1)).Nodup
 | .set S n=>h.SetOf (intKind P w) a S n
 | .ins C dx fs=>H dx=some (.own a)/\fs.length<=1000/\dx≠a/\h.get? a=some (W.instObj C dx)/\
    ∃mA,h.Ns1 dx mA/\(∀f,iM (fs.lookup f) (mA f))/\PySem.Within mA (fs.map (·.1))
 | .own _=>∃o,h.get? a=some o
 | .xd fs=>∃mA,h.Ns1 a mA/\∀f,iM (fs.lookup f) (mA f)
 | .rng lo hi=>∃t u v,h.get? a=some { cls:=.type "range",data:=.fields #[.int lo t,.int hi u,.int 1 v] }
 | .i6 o u=>h.get? a=some o/\gR H h a u
 | .gS ps=>h.get? a=some { cls:=.none,data:=.fields ps }
 | .met f x=>h.get? a=some (W.methodObj (.ref f) (.ref x))
 | .ext J=>J h/\(∃o,h.get? a=some o)/\∀h1 h2:Heap,J h1->(∀o,h1.get? a=some o->h2.get? a=some o)->J h2
def gH (H:Hp) (h:Heap):Prop:=∀a o,H a=some o->gR P w H h a o
end
section
variable {P:Program}{w:World}{H H':Hp}{h h':Heap}{a:Addr}{o:HO}
theorem gR.lt (x:gR P w H h a o):a<h.objs.size:=by
 cases o with
 |lst xs=>obtain⟨_,_,_,_,e⟩:=x;exact Q01 e
 |tup xs=>obtain⟨_,_,_,p⟩:=x;exact p.lt
 |dK kvs=>obtain⟨_,_,_,_,o,_,_,e,_⟩:=x;exact Q01 e
 |dT kvs=>obtain⟨_,_,_,_,o,_,_,e,_⟩:=x;exact Q01 e
 |set S n=>obtain⟨o,_,_,_,e,_⟩:=x;exact Q01 e
 |ins C dx fs=>obtain⟨_,_,_,e,_⟩:=x;exact Q01 e
 |own y=>obtain⟨_,e⟩:=x;exact Q01 e
 |xd fs=>obtain⟨_,⟨_,_,_,e,_⟩,_⟩:=x;exact Q01 e
 |rng lo hi=>obtain⟨_,_,_,e⟩:=x;exact Q01 e
 |i6 I u=>obtain⟨e,_⟩:=x;exact Q01 e
 |gS ps=>exact Q01 (show h.get? a=some _ from x)
 |met f y=>exact Q01 (show h.get? a=some _ from x)
 |ext J=>obtain⟨_,⟨_,e⟩,_⟩:=x;exact Q01 e
theorem Paired.oW {α L:Type}{F G:α->L->Prop}:∀{I:List α}{J:List L},Paired F I J->(∀a b,F a b->G a b)->Paired G I J
 |_,_,.nil,_=>.nil
 |_,_,.cons r t,f=>.cons (f _ _ r) (Paired.oW t f)
theorem gR.stay (x:gR P w H h a o)(k:∀b u,(b=a\/H b=some (.own a))->h.get? b=some u->h'.get? b=some u)
 (Y:∀b,H b=some (.own a)->H' b=some (.own a)) (ht:∀b xs,H b=some (.tup xs)->H' b=some (.tup xs)):gR P w H' h' a o:=by
 induction o with
 |lst xs=>obtain⟨z,L,n,r,e⟩:=x;exact⟨z,L,n,r,k _ _ (.inl rfl) e⟩
 |tup xs=>obtain⟨z,L,r,I,e,c⟩:=x;exact⟨z,L,r,I,k _ _ (.inl rfl) e,c⟩
 |dK kvs=>obtain⟨z,y,vs,r,I,es,J,e,c⟩:=x;exact⟨z,y,vs,r,I,es,J,k _ _ (.inl rfl) e,c⟩
 |dT kvs=>
  obtain⟨z,y,xs,r,I,es,J,e,c⟩:=x;exact⟨z,y,xs,Paired.oW r λp q z=>⟨z.1,ht _ _ z.2.1,z.2.2⟩,I,es,J,k _ _ (.inl rfl) e,c⟩
 |set S n=>obtain⟨I,es,J,t,e,c⟩:=x;exact⟨I,es,J,t,k _ _ (.inl rfl) e,c⟩
 |ins C dx fs=>
  obtain⟨d,z,ne,e,mA,⟨U,es,J,e2,c⟩,r⟩:=x;exact⟨Y _ d,z,ne,k _ _ (.inl rfl) e,mA,⟨U,es,J,k _ _ (.inr d) e2,c⟩,r⟩
 |own y=>obtain⟨I,e⟩:=x;exact⟨I,k _ _ (.inl rfl) e⟩
 |xd fs=>obtain⟨mA,⟨U,es,J,e,c⟩,r⟩:=x;exact⟨mA,⟨U,es,J,k _ _ (.inl rfl) e,c⟩,r⟩
 |rng lo hi=>obtain⟨t,u,v,e⟩:=x;exact⟨t,u,v,k _ _ (.inl rfl) e⟩
 |i6 I u ih=>obtain⟨e,q⟩:=x;exact⟨k _ _ (.inl rfl) e,ih q⟩
 |gS ps=>
  have e:h.get? a=some { cls:=.none,data:=.fields ps }:=x;show h'.get? a=some { cls:=.none,data:=.fields ps };exact k a _ (.inl rfl) e
 |met f y=>
  have e:h.get? a=some (W.methodObj (.ref f) (.ref y)):=x;show h'.get? a=some (W.methodObj (.ref f) (.ref y));exact k a _ (.inl rfl) e
 |ext φ=>obtain⟨p,⟨o,e⟩,st⟩:=x;exact⟨st _ _ p λo q=>k _ _ (.inl rfl) q,⟨o,k _ _ (.inl rfl) e⟩,st⟩
theorem gH.lt (x:gH P w H h)(e:H a=some o):a<h.objs.size:=(x a o e).lt
theorem gH.fresh (x:gH P w H h)(e:h.objs.size<=a):H a=none:=by
 cases q:H a with
 |none=>rfl
 |some u=>exact absurd (Q0b (x.lt q) e) (Q0l _)
theorem gH.kept (x:gH P w H h)(k:∀b u,h.get? b=some u->h'.get? b=some u):gH P w H h':=λa o e=>
 (x a o e).stay (λb u _ q=>k b u q) (λ_ q=>q) λ_ _ q=>q
theorem gH.laid (x:gH P w H h)(k:∀b u,h.get? b=some u->h'.get? b=some u)(hp:h.objs.size<=a)(new:gR P w (upd H a o) h' a o):gH P w (upd H a o) h':=λb u e=>by
 have I:=x.fresh hp;by_cases J:b=a
 . subst J;rw[eW] at e;cases e;exact new
 . rw[eU J] at e;exact(x b u e).stay (λc v _ q=>k c v q) (λc q=>by rw[eU (ff q I)];exact q) λc xs q=>by rw[eU (ff q I)];exact q
end
def Rd (H:Hp) (a:Addr) (u:HO):Prop:=H a=some u\/∃o,H a=some (.i6 o u)
theorem Rd.ok {P:Program}{w:World}{H:Hp}{h:Heap}{a:Addr}{u:HO}(r:Rd H a u)(x:gH P w H h):gR P w H h a u:=by
 rcases r with r|⟨o,r⟩
 . exact x a u r
 . obtain⟨_,q⟩:=x a _ r;exact q
def oX:Option HO->Prop
 |some (.lst _)=>True
 |some (.dK _)=>True
 |some (.dT _)=>True
 |some (.set _ _)=>True
 |some (.ins _ _ _)=>True
 |some (.ext _)=>True
 |_=>False
section
variable {P:Program}{w:World}{H:Hp}{h h':Heap}{x e:Addr}{o':HO}
theorem gH.write (ok:gH P w H h)(mu:oX (H x))(he:e=x\/H e=some (.own x))(k:∀b u,b≠e->h.get? b=some u->h'.get? b=some u)(Y:∃u,h'.get? e=some u)
 (new:gR P w (upd H x o') h' x o'):gH P w (upd H x o') h':=λb u q=>by
 have J:∀c y,H c=some (.own y)->c≠x:=λc y r z=>by subst z;rw[r] at mu;exact mu
 have L:∀c xs,H c=some (.tup xs)->c≠x:=λc xs r z=>by subst z;rw[r] at mu;exact mu
 by_cases U:b=x
 . subst U;rw[eW] at q;cases q;exact new
 . rw[eU U] at q;by_cases I:b=e
   . have q':H b=some (.own x):=by
      rcases he with z|z
      . exact absurd (I.trans z) U
      . rw[I];exact z
     rw[q] at q';cases q';obtain⟨v,hv⟩:=Y;exact⟨v,by rw[I];exact hv⟩
   . refine(ok b u q).stay (λc v hc r=>k c v ?_ r) (λc r=>by rw[eU (J c b r)];exact r) λc xs r=>by rw[eU (L c xs r)];exact r
     rcases hc with rfl|hc
     . exact I
     . rintro rfl;rcases he with z|z
       . exact J c b hc z
       . rw[hc] at z;cases z;exact U rfl
end
structure Un (fs ex:List Addr) (H H':Hp) (h h':Heap):Prop where
 keep:∀b o,h.get? b=some o->H b=none->b ∉ fs->b ∉ ex->h'.get? b=some o
 slot:∀b o,h.get? b=some o->H b=none->b∈fs->b ∉ ex->∃sl,h'.get? b=some { o with slots:=sl }
 free:∀b o,h.get? b=some o->H b=none->b ∉ ex->H' b=none
 there:∀b o,h.get? b=some o->b ∉ ex->∃o',h'.get? b=some o'
 tups:∀b xs,H b=some (.tup xs)->H' b=some (.tup xs)
 jr:∀b o u,H b=some (.i6 o u)->H' b=some (.i6 o u)
 js:∀b ps,H b=some (.gS ps)->∃more,H' b=some (.gS (ps++more))
section
variable {fs fs' ex ex':List Addr}{H H1 H2:Hp}{h h1 h2 h':Heap}{a x e:Addr}{o:HO}
theorem Un.any (u:Un fs ex H H1 h h1){b:Addr}{I:Obj}(q:h.get? b=some I)(n:H b=none)(J:b ∉ ex):∃U,h1.get? b=some { I with slots:=U }:=by
 by_cases L:b∈fs
 . exact u.slot b I q n L J
 . exact⟨I.slots,u.keep b I q n L J⟩
theorem Un.kept (k:∀b u,h.get? b=some u->h'.get? b=some u):Un fs ex H H h h':=
 ⟨λb I q _ _ _=>k b I q,λb I q _ _ _=>⟨I.slots,k b I q⟩,λ_ _ _ n _=>n,λb I q _=>⟨I,k b I q⟩,λ_ _ q=>q,λ_ _ _ q=>q,λ_ ps q=>⟨#[],by rw[q];simp⟩⟩
theorem Un.refl:Un fs ex H H h h:=Un.kept λ_ _ q=>q
theorem Un.laid (k:∀b u,h.get? b=some u->h'.get? b=some u)(hp:h.objs.size<=a)(I:H a=none):Un fs ex H (upd H a o) h h' where
 keep:=λb u q _ _ _=>k b u q
 slot:=λb u q _ _ _=>⟨u.slots,k b u q⟩
 free:=λb u q n _=>by rw[eU (Q0c (Q0b (Q01 q) hp))];exact n
 there:=λb u q _=>⟨u,k b u q⟩
 tups:=λb xs q=>by rw[eU (ff q I)];exact q
 jr:=λb u xs q=>by rw[eU (ff q I)];exact q
 js:=λb ps q=>⟨#[],by rw[eU (ff q I),q];simp⟩
theorem Un.write (mu:oX (H x))(he:e=x\/H e=some (.own x))(k:∀b u,b≠e->h.get? b=some u->h'.get? b=some u)(L:∃u,h'.get? e=some u):Un fs ex H (upd H x o) h h':=by
 have U:∀b,H b=none->b≠x:=λb n z=>by subst z;rw[n] at mu;exact mu
 have Y:∀b,H b=none->b≠e:=λb n z=>by
  subst z;rcases he with r|r
  . exact U b n r
  . rw[n] at r;cases r
 have J:∀b u,H b=some u->¬oX (some u)->b≠x:=λb u q nm z=>by subst z;rw[q] at mu;exact nm mu
 refine⟨λb u q n _ _=>k b u (Y b n) q,λb u q n _ _=>⟨u.slots,k b u (Y b n) q⟩,λb u q n _=>by rw[eU (U b n)];exact n,λb u q _=>?_,
  λb xs q=>by rw[eU (J b _ q λz=>z)];exact q,λb u xs q=>by rw[eU (J b _ q λz=>z)];exact q,λb ps q=>⟨#[],by rw[eU (J b _ q λz=>z),q];simp⟩⟩
 by_cases I:b=e
 . subst I;exact L
 . exact⟨u,k b u I q⟩
end
noncomputable def qy (h:Heap) (H:Hp):List Addr:=(List.range h.objs.size).filter λa=>(H a).isSome
noncomputable def kH (h:Heap) (H:Hp):Heap:=W.hideAll h (qy h H)
theorem EV (h:Heap)(H:Hp):(kH h H).objs.size=h.objs.size:=W.hideAll_size _ _
theorem EW {h:Heap}{H:Hp}{b:Addr}{o:Obj}(e:h.get? b=some o)(n:H b=none):(kH h H).get? b=some o:=
 W.hideAll_get _ e λI=>by
   have q:(H b).isSome=true:=(List.mem_filter.mp I).2;rw[n] at q;simp at q
theorem EX {h:Heap}{H:Hp}{b:Addr}{o:Obj}(e:(kH h H).get? b=some o):h.get? b=some o/\H b=none:=by
 have I:h.get? b=some o:=W.of_hideAll (qy h H) e;refine⟨I,?_⟩
 cases q:H b with
 |none=>rfl
 |some x=>
  have J:b∈qy h H:=List.mem_filter.mpr ⟨List.mem_range.mpr (Q01 I),by simp[q]⟩;have z:(kH h H).get? b=none:=W.hideAll_none (qy h H) J;rw[z] at e;cases e
noncomputable def EY (g h:Heap) (L:Addr):List (Addr × Obj):=(List.range h.objs.size).filterMap λa=>if a=L\/(g.get? a).isSome=true then none else(h.get? a).map λo=>(a,o)
noncomputable def rest (g h:Heap) (L d:Addr):List (Addr × Obj):=(EY g h L).filter λp=>decide (p.1≠d)
structure Mod (K:W.Frag) (mg:Str->Option Value) (base:Heap):Prop where
 mx:K.In base
 glob:base.Ns mainGlobals mg
 blt:∃mb,base.Ns builtinsNs mb/\∀x:Str,x≠"__name__"->mb x=bootBuiltins x
 nolimit:base.NoLimit
structure Cx where
 prog:Program
 w:World
 K:W.Frag
 mg:Str->Option Value
 base:Heap
 A:Around
 N:List Str
 s₀:Shared
 H₀:Hp
 env:Env
 outer:List Env
 stack:List Env
 ex:List Addr
 fn:Str->Bool
 calm:Bool
 pn:List (Addr × Obj)
 xe:Value->Shared->Prop
noncomputable def frs (l:List Env):List Addr:=l.filterMap (·.frame)
noncomputable abbrev Cx.fs (X:Cx):List Addr:=frs X.outer
def tG (sc:Scope) (x:Str):Prop:=sc.names.lookup x=some .local\/sc.names.lookup x=some .cell\/sc.names.lookup x=some .free
def Loc (sc:Scope) (x:Str):Prop:=sc.names.lookup x=some .local\/sc.names.lookup x=some .cell
def Look (env:Env) (h:Heap) (m:Str->Option Value) (x:Str) (u:Value):Prop:=
 (env.kindOf x=some .local/\m x=some u)\/((env.kindOf x=some .cell\/env.kindOf x=some .free)/\∃c,env.cells.lookup x=some c/\h.IsCell c (some u))
structure Cx.Ok (X:Cx):Prop where
 mod:Mod X.K X.mg X.base
 kind:X.env.scope.kind=.function
 glob:X.env.globals=mainGlobals
 blt:X.env.builtins=builtinsNs
 above:X.s₀.heap.objs.size<=X.env.locals
 inj:∀x y c,X.env.cells.lookup x=some c->X.env.cells.lookup y=some c->x=y
 has:∀x,(X.env.kindOf x=some .cell\/X.env.kindOf x=some .free)->∃c,X.env.cells.lookup x=some c
 cab:∀x c,X.fn x=true->X.env.cells.lookup x=some c->X.s₀.heap.objs.size<=c
 hd:X.calm=true->X.A.handled=none
 frames:X.A.frames=some X.stack
 stk:X.stack=X.outer\/(X.stack=X.env::X.outer/\X.env.frame=some X.env.locals)
 tH:∀b∈X.ex,b≠X.env.locals/\∀x c,X.env.cells.lookup x=some c->c≠b
 bs:∀b o,X.base.get? b=some o->X.s₀.heap.get? b=some o/\X.H₀ b=none
 j9:X.base.objs.size<=X.s₀.heap.objs.size
 nK:∀b o,X.base.get? b=some o->b ∉ X.ex
 oY:∀b∈X.ex,b ∉ X.fs
 jF:X.s₀.heap.FunFrames X.base X.outer
 lM:∀b∈X.fs,X.H₀ b=none
structure Inv (X:Cx) (pins:List (Addr × Obj)) (σ:List (Option V)) (H:Hp) (s:Shared):Prop where
 ok:X.Ok
 os:s.os=X.s₀.os
 bare:AllBare s.gens
 base:Un X.fs X.ex X.H₀ H X.s₀.heap s.heap
 loc:∃m,s.heap.Ns X.env.locals m/\∀(i:Nat) (x:Str) (v:V),X.N[i]? =some x->σ[i]? =some (some v)->tG X.env.scope x->∃u,RelV v u/\Look X.env s.heap m x u
 cell:∀x c,X.env.cells.lookup x=some c->∃v,s.heap.IsCell c v
 free:H X.env.locals=none
 i7:∀x c,X.env.cells.lookup x=some c->H c=none
 pin:∀p∈X.pn++pins,s.heap.get? p.1=some p.2/\H p.1=none/\p.1≠X.env.locals/\p.1 ∉ X.fs/\∀v,p.2.data≠ .cell v
 hok:gH X.prog X.w H s.heap
 len:σ.length=X.N.length
section
variable {X:Cx}{pins:List (Addr × Obj)}{σ:List (Option V)}{H H':Hp}{s:Shared}{h':Heap}
theorem Cx.Ok.EZ (ok:X.Ok){b:Addr}{o:Obj}(e:X.base.get? b=some o):b ∉ X.fs:=λI=>by
 have:=(ok.jF.mem I).1;rw[e] at this;cases this
theorem Inv.bs (I:Inv X pins σ H s):∀b o,X.base.get? b=some o->s.heap.get? b=some o/\H b=none:=λb o e=>
 ⟨I.base.keep b o (I.ok.bs b o e).1 (I.ok.bs b o e).2 (I.ok.EZ e) (I.ok.nK b o e),I.base.free b o (I.ok.bs b o e).1 (I.ok.bs b o e).2 (I.ok.nK b o e)⟩
theorem Inv.bk (I:Inv X pins σ H s):∀b o,X.base.get? b=some o->s.heap.get? b=some o:=λb o e=>(I.bs b o e).1
theorem Inv.mod (I:Inv X pins σ H s):Mod X.K X.mg X.base:=I.ok.mod
theorem Inv.gT (I:Inv X pins σ H s):X.K.In s.heap:=I.ok.mod.mx.keeps I.bk
theorem Inv.nolimit (I:Inv X pins σ H s):s.heap.NoLimit:=I.ok.mod.nolimit.keeps I.bk
theorem Inv.lt (I:Inv X pins σ H s):X.env.locals<s.heap.objs.size:=let⟨_,J,_⟩:=I.loc;J.lt
theorem Inv.sz (I:Inv X pins σ H s):X.s₀.heap.objs.size<=s.heap.objs.size:=Q0h I.ok.above (Q0p I.lt)
theorem Inv.nL (I:Inv X pins σ H s){a:Addr}(h:s.heap.objs.size<=a):a ∉ X.fs:=λJ=>by
 obtain⟨_,o,L,_⟩:=I.ok.jF.mem J;exact absurd (Q0b (Q01 L) (Q0h I.sz h)) (Q0l _)
theorem Inv.j_ (I:Inv X pins σ H s):∀x c,X.env.cells.lookup x=some c->c≠X.env.locals:=λx c e z=>by
 obtain⟨v,o,U,Y⟩:=I.cell x c e;obtain⟨m,⟨o',es,ep,J,L,_⟩,_⟩:=I.loc;rw[z,J] at U;cases U;rw[L] at Y;cases Y
theorem Inv.jF (I:Inv X pins σ H s):s.heap.FunFrames X.base X.outer:=by
 have all:∀(l:List Env),(∀b∈frs l,b∈X.fs)->X.s₀.heap.FunFrames X.base l->s.heap.FunFrames X.base l:=by
  intro l
  induction l with
  |nil=>intro _ _;trivial
  |cons env r ih=>
   intro hs hl;obtain⟨hk,⟨L,o,J,hn,ho,hd⟩,hr⟩:=hl;have U:L∈X.fs:=hs L (by unfold frs;rw[Q26,J];exact Q04);obtain⟨sl,e⟩:=I.base.slot L o ho (I.ok.lM L U) U λz=>I.ok.oY L z U;exact⟨hk,⟨L,_,J,hn,e,hd⟩,ih (λb Y=>hs b (by unfold frs;rw[Q26,J];exact Q0e _ Y)) hr⟩
 exact all X.outer (λ_ Y=>Y) I.ok.jF
theorem Inv.stack (I:Inv X pins σ H s):s.heap.FunFrames X.base X.stack:=by
 rcases I.ok.stk with e|⟨e,J⟩
 . rw[e];exact I.jF
 . rw[e];obtain⟨m,L,_⟩:=I.loc;refine .cons (by rw[I.ok.kind];decide) J L ?_ I.jF;exact Q27 (Q0h I.ok.j9 I.ok.above)
theorem Inv.nM (I:Inv X pins σ H s):∀b∈frs X.stack,b∈X.env.locals::X.fs:=λb J=>by
 rcases I.ok.stk with e|⟨e,L⟩
 . rw[e] at J;exact Q0e _ J
 . rw[e] at J;unfold frs at J;rw[Q26,L] at J;exact J
theorem Inv.oZ (I:Inv X pins σ H s):∀b∈frs X.stack,H b=none:=λb J=>by
 rcases List.mem_cons.mp (I.nM b J) with e|J
 . rw[e];exact I.free
 . obtain⟨_,o,L,_⟩:=I.ok.jF.mem J;exact I.base.free b o L (I.ok.lM b J) λz=>I.ok.oY b z J
theorem Inv.step {g':Array GenState}{t':Nat}{d':Drawn}{ch:List Addr}(I:Inv X pins σ H s)
 (L:∀b∈ch,(b∈X.ex\/X.s₀.heap.objs.size<=b)/\b≠X.env.locals/\(∀x c,X.env.cells.lookup x=some c->c≠b)/\∀p∈X.pn++pins,p.1≠b)
 (keep:∀b o,b≠X.env.locals->b ∉ X.fs->b ∉ ch->s.heap.get? b=some o->H b=none->h'.get? b=some o)
 (slot:∀b o,b≠X.env.locals->b∈X.fs->b ∉ ch->s.heap.get? b=some o->H b=none->∃sl,h'.get? b=some { o with slots:=sl }) (free:∀b o,b ∉ ch->s.heap.get? b=some o->H b=none->H' b=none)
 (there:∀b o,b ∉ ch->s.heap.get? b=some o->∃o',h'.get? b=some o')
 (tups:∀b xs,H b=some (.tup xs)->H' b=some (.tup xs)) (jr:∀b o u,H b=some (.i6 o u)->H' b=some (.i6 o u)) (js:∀b ps,H b=some (.gS ps)->∃ac,H' b=some (.gS (ps++ac)))
 (ns:∀m,s.heap.Ns X.env.locals m->h'.Ns X.env.locals m) (ae:gH X.prog X.w H' h') (hg:AllBare g'):
 Inv X pins σ H' { s with heap:=h',gens:=g',drawn:=d',toks:=t' }:=by
 have ab:∀b o,X.s₀.heap.get? b=some o->b≠X.env.locals:=λb o e=>Q0c (Q0b (Q01 e) I.ok.above)
 have aa:∀b o,X.s₀.heap.get? b=some o->b ∉ X.ex->b ∉ ch:=λb o e J hb=>by
  rcases(L b hb).1 with z|z
  . exact J z
  . exact absurd (Q0b (Q01 e) z) (Q0l _)
 have Y:∀x c,X.env.cells.lookup x=some c->∀v,s.heap.IsCell c v->h'.IsCell c v:=λx c e v ⟨o,ho,hd⟩=>by
  have U:c ∉ ch:=λz=>(L c z).2.2.1 x c e rfl;by_cases hc:c∈X.fs
  . obtain⟨sl,q⟩:=slot c o (I.j_ x c e) hc U ho (I.i7 x c e);exact⟨_,q,hd⟩
  . exact⟨o,keep c o (I.j_ x c e) hc U ho (I.i7 x c e),hd⟩
 refine⟨I.ok,I.os,hg,⟨λb o e n hb J=>?_,λb o e n hb J=>?_,λb o e n J=>?_,λb o e J=>?_,λb xs e=>tups b xs (I.base.tups b xs e),λb o xs e=>jr b o xs (I.base.jr b o xs e),λb ps e=>?_⟩,?_,λx c e=>?_,?_,λx c e=>?_,λp hp=>?_,ae,I.len⟩
 . exact keep b o (ab b o e) hb (aa b o e J) (I.base.keep b o e n hb J) (I.base.free b o e n J)
 . obtain⟨sl,e1⟩:=I.base.slot b o e n hb J;obtain⟨af,e2⟩:=slot b _ (ab b o e) hb (aa b o e J) e1 (I.base.free b o e n J);exact⟨af,e2⟩
 . obtain⟨o',e1⟩:=I.base.there b o e J;exact free b o' (aa b o e J) e1 (I.base.free b o e n J)
 . obtain⟨o',e1⟩:=I.base.there b o e J;exact there b o' (aa b o e J) e1
 . obtain⟨m1,e1⟩:=I.base.js b ps e;obtain⟨m2,e2⟩:=js b _ e1;exact⟨m1++m2,by rw[e2,Array.append_assoc]⟩
 . obtain⟨m,hn,hl⟩:=I.loc;refine⟨m,ns m hn,λi x v e1 e2 e3=>?_⟩;obtain⟨u,r,l⟩:=hl i x v e1 e2 e3;refine⟨u,r,?_⟩;rcases l with l|⟨k,c,e,z⟩
   . exact .inl l
   . exact .inr ⟨k,c,e,Y x c e _ z⟩
 . obtain⟨v,z⟩:=I.cell x c e;exact⟨v,Y x c e v z⟩
 . obtain⟨m,⟨o,_,_,ho,_⟩,_⟩:=I.loc;exact free _ o (λz=>(L _ z).2.1 rfl) ho I.free
 . obtain⟨v,o,ho,hd⟩:=I.cell x c e;exact free c o (λz=>(L c z).2.2.1 x c e rfl) ho (I.i7 x c e)
 . obtain⟨e,n,ne,nf,d⟩:=I.pin p hp;have U:p.1 ∉ ch:=λz=>(L p.1 z).2.2.2 p hp rfl;exact⟨keep p.1 p.2 ne nf U e n,free p.1 p.2 U e n,ne,nf,d⟩
theorem Inv.un {t':Nat}(I:Inv X pins σ H s)(u:Un X.fs [] H H' s.heap h')(U:gH X.prog X.w H' h'):Inv X pins σ H' { s with heap:=h',toks:=t' }:=by
 obtain⟨m,⟨o,es,ep,ho,r⟩,_⟩:=id I.loc;obtain⟨sl,hL⟩:=u.any ho I.free (by simp)
 exact I.step (g':=s.gens) (d':=s.drawn) (ch:=[]) (λ_ z=>nomatch z) (λb o _ L _ e n=>u.keep b o e n L (by simp)) (λb o _ L _ e n=>u.slot b o e n L (by simp)) (λb o _ e n=>u.free b o e n (by simp)) (λb o _ e=>u.there b o e (by simp)) u.tups u.jr u.js (λm' hm=>by
  obtain⟨o',Y,aa,J,r'⟩:=hm;rw[ho] at J;cases J;exact⟨_,Y,aa,hL,r'⟩) U I.bare
theorem Inv.call {g':Array GenState}{t':Nat}{d':Drawn}{ch:List Addr}(I:Inv X pins σ H s)(u:Un (frs X.stack) ch H H' s.heap h')(Y:gH X.prog X.w H' h')(hg:AllBare g')
 (J:∀b∈ch,(b∈X.ex\/X.s₀.heap.objs.size<=b)/\b≠X.env.locals/\(∀x c,X.env.cells.lookup x=some c->c≠b)/\∀p∈X.pn++pins,p.1≠b):
 Inv X pins σ H' { s with heap:=h',gens:=g',drawn:=d',toks:=t' }:=by
 obtain⟨m,⟨o,es,ep,ho,r⟩,_⟩:=id I.loc;obtain⟨sl,U⟩:=u.any ho I.free λz=>(J _ z).2.1 rfl
 exact I.step (ch:=ch) J (λb o U hb hc e n=>u.keep b o e n (λz=>(List.mem_cons.mp (I.nM b z)).elim U hb) hc) (λb o _ _ hc e n=>u.any e n hc) (λb o hc e n=>u.free b o e n hc) (λb o hc e=>u.there b o e hc) u.tups u.jr u.js (λm' hm=>by
  obtain⟨o',aa,ab,L,r'⟩:=hm;rw[ho] at L;cases L;exact⟨_,aa,ab,U,r'⟩) Y hg
theorem Inv.turned {t':Nat}{it:Addr}(I:Inv X pins σ H s)(k:∀b o,b≠it->s.heap.get? b=some o->h'.get? b=some o)(U:H it=none)(L:it≠X.env.locals)
 (h1:it∈X.ex\/X.s₀.heap.objs.size<=it) (h2:∀x c,X.env.cells.lookup x=some c->c≠it) (Y:∀p∈X.pn++pins,p.1≠it):Inv X pins σ H { s with heap:=h',toks:=t' }:=by
 have J:∀b u,H b=some u->b≠it:=λb u e z=>by rw[z,U] at e;cases e
 refine I.step (g':=s.gens) (d':=s.drawn) (ch:=[it]) (λb hb=>?_) (λb o _ _ hc e _=>k b o (λz=>hc (by simp[z])) e) (λb o _ _ hc e _=>⟨o.slots,k b o (λz=>hc (by simp[z])) e⟩) (λ_ _ _ _ n=>n)
  (λb o hc e=>⟨o,k b o (λz=>hc (by simp[z])) e⟩) (λ_ _ e=>e) (λ_ _ _ e=>e) (λb ps e=>⟨#[],by rw[e];simp⟩) (λm hm=>?_) (λb u e=>?_) I.bare
 . have e:b=it:=by simpa using hb
   subst e;exact⟨h1,L,h2,Y⟩
 . obtain⟨o,es,ep,ho,r⟩:=hm;exact⟨o,es,ep,k _ o (Ne.symm L) ho,r⟩
 . refine(I.hok b u e).stay (λc v hc q=>k c v ?_ q) (λ_ q=>q) λ_ _ q=>q;rcases hc with z|z
   . rw[z];exact J b u e
   . exact J c _ z
theorem Inv.tok (I:Inv X pins σ H s)(t:Nat):Inv X pins σ H { s with toks:=t }:=I.un (h':=s.heap) (t':=t) Un.refl I.hok
theorem Inv.kept {t':Nat}(I:Inv X pins σ H s)(k:∀b u,s.heap.get? b=some u->h'.get? b=some u):Inv X pins σ H { s with heap:=h',toks:=t' }:=I.un (Un.kept k) (I.hok.kept k)
theorem Inv.laid {a:Addr}{o:HO}{t':Nat}(I:Inv X pins σ H s)(k:∀b u,s.heap.get? b=some u->h'.get? b=some u)(hp:s.heap.objs.size<=a)(new:gR X.prog X.w (upd H a o) h' a o):
 Inv X pins σ (upd H a o) { s with heap:=h',toks:=t' }:=I.un (Un.laid k hp (I.hok.fresh hp)) (I.hok.laid k hp new)
theorem Inv.write {x e:Addr}{o:HO}{t':Nat}(I:Inv X pins σ H s)(mu:oX (H x))(L:e=x\/H e=some (.own x))(k:∀b u,b≠e->s.heap.get? b=some u->h'.get? b=some u)(J:∃u,h'.get? e=some u)
 (new:gR X.prog X.w (upd H x o) h' x o):Inv X pins σ (upd H x o) { s with heap:=h',toks:=t' }:=I.un (Un.write mu L k J) (I.hok.write mu L k J new)
theorem Inv.weak {J:List (Option V)}(I:Inv X pins σ H s)(hl:J.length=σ.length)(w:∀(i:Nat) v,J[i]? =some (some v)->σ[i]? =some (some v)):Inv X pins J H s:=
 ⟨I.ok,I.os,I.bare,I.base,let⟨m,U,L⟩:=I.loc;⟨m,U,λi x v Y e2 e3=>L i x v Y (w i v e2) e3⟩,I.cell,I.free,I.i7,I.pin,I.hok,hl.trans I.len⟩
theorem Inv.my {J:List (Addr × Obj)}(I:Inv X pins σ H s)(h:∀p∈J,s.heap.get? p.1=some p.2/\H p.1=none/\p.1≠X.env.locals/\p.1 ∉ X.fs/\∀v,p.2.data≠ .cell v):Inv X J σ H s:=
 ⟨I.ok,I.os,I.bare,I.base,I.loc,I.cell,I.free,I.i7,λp hp=>(List.mem_append.mp hp).elim (λz=>I.pin p (Q0s _ z)) (h p),I.hok,I.len⟩
theorem tK {N:List Str}(I:N.Nodup){i j:Nat}{x:Str}(a:N[i]? =some x)(b:N[j]? =some x):i=j:=by
 obtain⟨h1,J⟩:=List.getElem?_eq_some_iff.mp a;obtain⟨h2,L⟩:=List.getElem?_eq_some_iff.mp b;exact(Q28 I).mp (J.trans L.symm)
theorem E1 {M:Model}{A:Around}{E:Value->Shared->Prop}{i:Nat}{x:Str}{v:V}{u:Value}{Q:Unit->Shared->Prop}(I:Inv X pins σ H s)(hN:X.N.Nodup)(hi:X.N[i]? =some x)(Y:Loc X.env.scope x)(r:RelV v u)
 (h:∀s',Inv X pins (σ.set i (some v)) H s'->(∃a,Heap.SameBut a s.heap s'.heap/\(a=X.env.locals\/X.env.cells.lookup x=some a))->Q () s') (hf:X.fn x=true\/X.env.scope.names.lookup x=some .local:=by first|exact .inl rfl|exact .inr rfl|assumption):wpAny M A (storeName X.env x u) Q E s:=by
 obtain⟨m,hn,hl⟩:=id I.loc;have ah:(X.env.scope.kind == .class || (X.env.scope.kind == .module && X.env.locals != X.env.globals))=false:=by rw[I.ok.kind];rfl
 have ab:i<σ.length:=by rw[I.len];exact(List.getElem?_eq_some_iff.mp hi).1
 have j_:=I.j_
 have U:∀{a:Addr} {h':Heap},(∃o,s.heap.get? a=some o/\H a=none)->Heap.SameBut a s.heap h'->gH X.prog X.w H h':=λ{a h'} ha J b ob e=>by
  obtain⟨_,_,aa⟩:=ha;refine(I.hok b ob e).stay (λc w' hc q=>(J.2 c ?_).trans q) (λ_ q=>q) λ_ _ q=>q;rintro rfl;rcases hc with rfl|hc
  . rw[aa] at e;cases e
  . rw[aa] at hc;cases hc
 rcases Y with hk|hk
 . refine wpAny_storeName_local hk hn (λh' aj J=>?_) ah;obtain⟨oL,_,_,ak,_⟩:=id hn;refine h _ ⟨I.ok,I.os,I.bare,⟨λb o e n hb Y=>?_,λb o e n hb Y=>?_,I.base.free,λb o e Y=>?_,I.base.tups,I.base.jr,I.base.js⟩,⟨_,aj,λj y v' L e2 e3=>?_⟩,λy c e=>?_,I.free,I.i7,λp hp=>?_,U ⟨oL,ak,I.free⟩ J,by simpa using I.len⟩ ⟨_,J,.inl rfl⟩
   . exact(J.2 b (Q0c (Q0b (Q01 e) I.ok.above))).trans (I.base.keep b o e n hb Y)
   . obtain⟨sl,L⟩:=I.base.slot b o e n hb Y;exact⟨sl,(J.2 b (Q0c (Q0b (Q01 e) I.ok.above))).trans L⟩
   . obtain⟨o',L⟩:=I.base.there b o e Y;exact⟨o',(J.2 b (Q0c (Q0b (Q01 e) I.ok.above))).trans L⟩
   . by_cases hj:j=i
     . subst hj;rw[hi] at L;cases L;rw[Q29 ab] at e2
       cases e2;exact⟨u,r,.inl ⟨hk,by simp⟩⟩
     . rw[Q2a (Ne.symm hj)] at e2;obtain⟨u',r',q⟩:=hl j y v' L e2 e3;refine⟨u',r',?_⟩;rcases q with⟨k,e⟩|⟨k,c,e,z⟩
       . refine .inl ⟨k,?_⟩;have:y≠x:=λe=>hj (tK hN L (e ▸ hi));simp[this,e]
       . exact .inr ⟨k,c,e,z.sameBut J (j_ y c e)⟩
   . obtain⟨w',z⟩:=I.cell y c e;exact⟨w',z.sameBut J (j_ y c e)⟩
   . obtain⟨e,n,ne,nf,d⟩:=I.pin p hp;exact⟨(J.2 p.1 ne).trans e,n,ne,nf,d⟩
 . have ac:X.fn x=true:=by
    rcases hf with z|z
    . exact z
    . rw[z] at hk;cases hk
   obtain⟨c,hc⟩:=I.ok.has x (.inl hk);obtain⟨w',z⟩:=I.cell x c hc;refine wpAny_storeName_cell I.ok.kind hk hc z (λh' ae J=>?_);obtain⟨oc,af,ai⟩:=id z;refine h { s with heap:=h' } ⟨I.ok,I.os,I.bare,⟨λb o e n hb Y=>?_,λb o e n hb Y=>?_,I.base.free,λb o e Y=>?_,I.base.tups,I.base.jr,I.base.js⟩,⟨m,hn.sameBut J (Ne.symm (j_ x c hc)),λj y v' L e2 e3=>?_⟩,λy c' e=>?_,I.free,I.i7,λp hp=>?_,U ⟨oc,af,I.i7 x c hc⟩ J,by simpa using I.len⟩ ⟨c,J,.inr hc⟩
   . exact(J.2 b (Q0c (Q0b (Q01 e) (I.ok.cab x c ac hc)))).trans (I.base.keep b o e n hb Y)
   . obtain⟨sl,L⟩:=I.base.slot b o e n hb Y;exact⟨sl,(J.2 b (Q0c (Q0b (Q01 e) (I.ok.cab x c ac hc)))).trans L⟩
   . obtain⟨o',L⟩:=I.base.there b o e Y;exact⟨o',(J.2 b (Q0c (Q0b (Q01 e) (I.ok.cab x c ac hc)))).trans L⟩
   . by_cases hj:j=i
     . subst hj;rw[hi] at L;cases L;rw[Q29 ab] at e2
       cases e2;exact⟨u,r,.inr ⟨.inl hk,c,hc,ae⟩⟩
     . rw[Q2a (Ne.symm hj)] at e2;obtain⟨u',r',q⟩:=hl j y v' L e2 e3;refine⟨u',r',?_⟩;rcases q with q|⟨k,c',e,z'⟩
       . exact .inl q
       . refine .inr ⟨k,c',e,z'.sameBut J ?_⟩;rintro rfl;exact hj (tK hN L (I.ok.inj _ _ _ e hc ▸ hi))
   . by_cases ag:c'=c
     . subst ag;exact⟨_,ae⟩
     . obtain⟨w2,z2⟩:=I.cell y c' e;exact⟨w2,z2.sameBut J ag⟩
   . obtain⟨e,n,ne,nf,d⟩:=I.pin p hp;refine⟨(J.2 p.1 ?_).trans e,n,ne,nf,d⟩;intro q;rw[q,af] at e;have q':oc=p.2:=Option.some.inj e;exact d w' (by rw[<-q'];exact ai)
theorem o4 {M:Model}{A:Around}{E:Value->Shared->Prop}{i:Nat}{x:Str}{v:V}{u:Value}{Q:Unit->Shared->Prop}(I:Inv X pins σ H s)(J:X.N.Nodup)(hi:X.N[i]? =some x)(L:Loc X.env.scope x)(r:RelV v u)
 (h:∀s',Inv X pins (σ.set i (some v)) H s'->Q () s') (U:X.fn x=true\/X.env.scope.names.lookup x=some .local:=by first|exact .inl rfl|exact .inr rfl|assumption):wpAny M A (storeName X.env x u) Q E s:=
 E1 I J hi L r (λs' Y _=>h s' Y) U
theorem Inv.call' {s':Shared}{ch:List Addr}(I:Inv X pins σ H s)(U:s'.os=s.os)(u:Un (frs X.stack) ch H H' s.heap s'.heap)(J:gH X.prog X.w H' s'.heap)(Y:AllBare s'.gens)
 (L:∀b∈ch,(b∈X.ex\/X.s₀.heap.objs.size<=b)/\b≠X.env.locals/\(∀x c,X.env.cells.lookup x=some c->c≠b)/\∀p∈X.pn++pins,p.1≠b):Inv X pins σ H' s':=by
 obtain⟨h',g',d',t',o'⟩:=s';have e:o'=s.os:=U;subst e;exact I.call (g':=g') (t':=t') (d':=d') u J Y L
end
noncomputable abbrev XK:=Value->Option Addr->Hp->Prop
noncomputable abbrev St:=List (Option V)
noncomputable abbrev VK:=V->Hp->Prop
noncomputable abbrev TE:=St->Hp->VK->Prop
noncomputable abbrev TT:=St->Hp->(Bool->Hp->Prop)->Prop
noncomputable abbrev TA:=St->Hp->(List V->Hp->Prop)->Prop
structure Ends where
 nx:St->Hp->Prop
 rt:VK
 bk:St->Hp->Prop:=λ_ _=>False
 ct:St->Hp->Prop:=λ_ _=>False
noncomputable abbrev TS:=Ends->St->Hp->Prop
def EP (X:Cx) (pins:List (Addr × Obj)) (σ:St) (Q:VK) (u:Value) (s':Shared):Prop:=∃v H',Inv X pins σ H' s'/\RelV v u/\Q v H'
def TP (X:Cx) (pins:List (Addr × Obj)) (σ:St) (Q:Bool->Hp->Prop) (b:Bool) (s':Shared):Prop:=∃H',Inv X pins σ H' s'/\Q b H'
def AP (X:Cx) (pins:List (Addr × Obj)) (σ:St) (Q:List V->Hp->Prop) (us:List Value) (s':Shared):Prop:=∃vs H',Inv X pins σ H' s'/\Vals vs us/\Q vs H'
def SP (X:Cx) (pins:List (Addr × Obj)) (D:Ends) (f:Flow) (s':Shared):Prop:=
 match f with
 | .next=>∃I H',Inv X pins I H' s'/\D.nx I H'
 | .brk=>∃I H',Inv X pins I H' s'/\D.bk I H'
 | .cont=>∃I H',Inv X pins I H' s'/\D.ct I H'
 | .ret u=>∃v I H',Inv X pins I H' s'/\RelV v u/\D.rt v H'
def PE (X:Cx) (e:Expr) (t:TE):Prop:=
 ∀(pins:List (Addr × Obj)) (s:Shared) (σ:St) (H:Hp) (Q:VK),Inv X pins σ H s->t σ H Q->wpAny (model X.prog X.w) X.A (eval e X.env) (EP X pins σ Q) X.xe s
def PT (X:Cx) (e:Expr) (t:TT):Prop:=
 ∀(pins:List (Addr × Obj)) (s:Shared) (σ:St) (H:Hp) (Q:Bool->Hp->Prop),Inv X pins σ H s->t σ H Q->wpAny (model X.prog X.w) X.A (isTrue e X.env (eval e X.env)) (TP X pins σ Q) X.xe s
def PW (X:Cx) (e:Expr) (t:TT):Prop:=
 ∀(I:Sem Value) (pins:List (Addr × Obj)) (s:Shared) (σ:St) (H:Hp) (Q:Bool->Hp->Prop),Inv X pins σ H s->t σ H Q->wpAny (model X.prog X.w) X.A (isTrue e X.env I) (TP X pins σ Q) X.xe s
theorem PW.pt {X:Cx}{e:Expr}{t:TT}(h:PW X e t):PT X e t:=h _
def PA (X:Cx) (es:List Expr) (t:TA):Prop:=
 ∀(pos:Pos) (pins:List (Addr × Obj)) (s:Shared) (σ:St) (H:Hp) (Q:List V->Hp->Prop),Inv X pins σ H s->t σ H Q->wpAny (model X.prog X.w) X.A (spliced (backTo pos (starEach es X.env))) (AP X pins σ Q) X.xe s
def PS (X:Cx) (st:Stmt) (t:TS):Prop:=
 ∀(pins:List (Addr × Obj)) (s:Shared) (σ:St) (H:Hp) (D:Ends),Inv X pins σ H s->t D σ H->wpAny (model X.prog X.w) X.A (exec st X.env) (SP X pins D) X.xe s
def iN (X:Cx) (st:List Stmt) (t:TS):Prop:=
 ∀(pins:List (Addr × Obj)) (s:Shared) (σ:St) (H:Hp) (D:Ends),Inv X pins σ H s->t D σ H->wpAny (model X.prog X.w) X.A (execs st X.env) (SP X pins D) X.xe s
theorem fk {α:Type}{t:Sem α}{Q I:α->Shared->Prop}{M:Model}{A:Around}{E:Value->Shared->Prop}{s:Shared}(h:wpAny M A t Q E s)(J:∀a s,Q a s->I a s):wpAny M A t I E s:=Q0m h J λ_ _ x=>x
section
variable {X:Cx}
def gf (i:Nat):TE:=λσ H Q=>∃v,σ[i]? =some (some v)/\Q v H
def tC (v:V):TE:=λ_ H Q=>Q v H
theorem E2 {i:Nat}{x:Str}{pos:Pos}(hN:X.N[i]? =some x)(hv:tG X.env.scope x)(U:(x == ("__debug__":Str))=false:=by decide)(Y:(x == ("__classdict__":Str))=false:=by decide):PE X (.Name x pos) (gf i):=by
 intro pins s σ H Q I h;obtain⟨v,e,h⟩:=h;obtain⟨m,hn,hl⟩:=I.loc;obtain⟨u,r,l⟩:=hl i x v hN e hv;have fin:EP X pins σ Q u s:=⟨v,H,I,r,h⟩;rcases l with⟨L,hm⟩|⟨L,c,hc,J⟩
 . exact wpAny_Name (wpAny_loadName_local I.ok.kind L hn hm fin) U
 . rcases L with L|L
   . exact wpAny_Name (wpAny_loadName_cell I.ok.kind L hc J fin) U
   . exact wpAny_Name (wpAny_loadName_free I.ok.kind L hc J fin Y) U
theorem b_ {i j pos}:PE X (.Constant (.int i) j pos) (tC (.int i)):=λ_ _ _ H _ I h=>wpAny_Constant_int ⟨.int i,H,I.tok _,⟨_,rfl⟩,h⟩
theorem iw {b j pos}:PE X (.Constant (.bool b) j pos) (tC (.bl b)):=λ_ _ _ H _ I h=>Constant_bool ⟨.bl b,H,I,rfl,h⟩
theorem h9 {j pos}:PE X (.Constant .none j pos) (tC .non):=λ_ _ _ H _ I h=>Constant_none ⟨.non,H,I,rfl,h⟩
theorem fV {x j pos}:PE X (.Constant (.str x) j pos) (tC (.str x)):=λ_ _ _ H _ I h=>Calls.Constant_str ⟨.str x,H,I.tok _,⟨_,rfl⟩,h⟩
def Gl (X:Cx) (x:Str):Prop:=X.env.kindOf x=some .globalImplicit
theorem qz {E:Value->Shared->Prop}{pins:List (Addr × Obj)}{s:Shared}{σ:St}{H:Hp}{x:Str}{u:Value}{pos:Pos}{Q:Value->Shared->Prop}(I:Inv X pins σ H s)(J:Gl X x)(L:X.mg x=some u)(h:Q u s)
 (U:(x == ("__debug__":Str))=false:=by decide):wpAny (model X.prog X.w) X.A (eval (.Name x pos) X.env) Q E s:=
 Calls.Name_function_global I.ok.kind J (Calls.loadGlobal_global (by rw[I.ok.glob];exact I.mod.glob.keeps I.bk) L h) U
theorem k_ {E:Value->Shared->Prop}{pins:List (Addr × Obj)}{s:Shared}{σ:St}{H:Hp}{x:Str}{u:Value}{pos:Pos}{Q:Value->Shared->Prop}(I:Inv X pins σ H s)(J:Gl X x)(L:X.mg x=none)(U:bootBuiltins x=some u)(h:Q u s)
 (Y:x≠"__name__":=by decide) (hd:(x == ("__debug__":Str))=false:=by decide):wpAny (model X.prog X.w) X.A (eval (.Name x pos) X.env) Q E s:=by
 obtain⟨mb,h1,h2⟩:=I.mod.blt;exact Calls.Name_function_global I.ok.kind J (Calls.loadGlobal_builtin (by rw[I.ok.glob];exact I.mod.glob.keeps I.bk) L (by rw[I.ok.blt];exact h1.keeps I.bk) ((h2 x Y).trans U) h) hd
theorem iR {x:Str}{v:V}{u:Value}{pos:Pos}(J:Gl X x)(L:X.mg x=none)(U:bootBuiltins x=some u)(r:RelV v u)(Y:x≠"__name__":=by decide)(hd:(x == ("__debug__":Str))=false:=by decide):PE X (.Name x pos) (tC v):=
 λ_ _ _ H _ I h=>k_ I J L U ⟨v,H,I,r,h⟩ Y hd
variable {a b:Expr}{ta tb:TE}{pos:Pos}
def PC (X:Cx) (op:CmpOp) (a b:Expr) (t:TE):Prop:=
 ∀(pins:List (Addr × Obj)) (s:Shared) (σ:St) (H:Hp) (Q:VK),Inv X pins σ H s->t σ H Q->
  wpAny (model X.prog X.w) X.A (eval a X.env) (λv I=>wpAny (model X.prog X.w) X.A (eval b X.env) (λu J=>wpAny (model X.prog X.w) X.A (compareOp op v u) (EP X pins σ Q) X.xe J) X.xe I) X.xe s
def tB (t:TE):TT:=λσ H Q=>t σ H λx H1=>∃c,x=.bl c/\Q c H1
theorem E3 {op:CmpOp}{t:TE}(h:PC X op a b t)(h1:behindInMarks op b=false:=by first|exact J _ (by decide) (by decide)|rfl):PE X (.Compare a [op] [b] pos) t:=λpins s σ H Q I hw=>wpAny_Compare1 (h pins s σ H Q I hw) h1
theorem tL {op:CmpOp}{t:TE}(h:PC X op a b t)(h1:behindInMarks op b=false:=by first|exact J _ (by decide) (by decide)|rfl):PT X (.Compare a [op] [b] pos) (tB t):=by
 intro pins s σ H Q I hw;refine wpAny_isTrue_Compare1 (fk (h pins s σ H _ I hw) λv s1 h1=>fk h1 λu s2 h2=>fk h2 λc s3 zq=>?_) h1;obtain⟨x,H1,L,U,Y⟩:=zq;obtain⟨d,rfl,q⟩:=Y
 cases U;exact wpAny_truthy_bool ⟨H1,L,q⟩
theorem iy {e:Expr}{t:TE}(h:PE X e t)(L:∀J,isTrue e X.env J=(do let v <-J;standAt e.pos;holding [v] (truthy v)):=by intro _;rfl):PT X e (tB t):=by
 intro pins s σ H Q I hw;refine isTrue_plain (fk (h pins s σ H _ I hw) λv s1 zq=>?_) (L _);obtain⟨x,H1,U,Y,q1⟩:=zq;obtain⟨d,rfl,q⟩:=q1
 cases Y;exact wpAny_truthy_bool ⟨H1,U,q⟩
variable {tA qA:TT}{rest:List Expr}
def E4 (t u:TT):TT:=λσ H Q=>t σ H λc H1=>if c=true then u σ H1 Q else Q false H1
def E5 (t u:TT):TT:=λσ H Q=>t σ H λc H1=>if c=true then Q true H1 else u σ H1 Q
def E6 (t:TT):TT:=λσ H Q=>t σ H λc H1=>Q (!c) H1
theorem lP (J:PT X a tA):PW X (.BoolOp .And [a] pos) tA:=by
 intro L pins s σ H Q I h;refine isTrue_and (fk (J pins s σ H Q I h) λc U e=>?_)
 cases c with
 |true=>exact isTrue_and_nil e
 |false=>exact e
theorem jt (J:PT X a tA):PW X (.BoolOp .Or [a] pos) tA:=by
 intro L pins s σ H Q I h;refine isTrue_or (fk (J pins s σ H Q I h) λc U e=>?_)
 cases c with
 |false=>exact isTrue_or_nil e
 |true=>exact e
theorem lb (U:PT X a tA)(Y:PW X (.BoolOp .And (b::rest) pos) qA):PW X (.BoolOp .And (a::b::rest) pos) (E4 tA qA):=by
 intro wh pins s σ H Q I h;refine isTrue_and (fk (U pins s σ H _ I h) λc s1 ⟨H1,J,L⟩=>?_)
 cases c with
 |true=>exact Y wh pins s1 σ H1 Q J L
 |false=>exact⟨H1,J,L⟩
theorem jb (U:PT X a tA)(Y:PW X (.BoolOp .Or (b::rest) pos) qA):PW X (.BoolOp .Or (a::b::rest) pos) (E5 tA qA):=by
 intro wh pins s σ H Q I h;refine isTrue_or (fk (U pins s σ H _ I h) λc s1 ⟨H1,J,L⟩=>?_)
 cases c with
 |true=>exact⟨H1,J,L⟩
 |false=>exact Y wh pins s1 σ H1 Q J L
theorem iB (J:PT X a tA):PT X (.UnaryOp .Not a pos) (E6 tA):=by
 intro pins s σ H Q I h;exact isTrue_not (J pins s σ H (λc H1=>Q (!c) H1) I h)
def zT (ta tb:TE):TE:=λσ H Q=>ta σ H λx H1=>∃c,x=.bl c/\if c=true then tb σ H1 Q else Q (.bl false) H1
def zU (ta:TE):TE:=λσ H Q=>ta σ H λx H1=>∃c,x=.bl c/\Q (.bl (!c)) H1
theorem nN {op}{t:TE}(h:PE X a t):PE X (.BoolOp op [a] pos) t:=λpins s σ H Q I hw=>BoolOp_one (h pins s σ H Q I hw)
theorem mz (U:PE X a ta)(Y:PE X (.BoolOp .And (b::rest) pos) tb):PE X (.BoolOp .And (a::b::rest) pos) (zT ta tb):=by
 intro pins s σ H Q I h;refine BoolOp_and (fk (U pins s σ H _ I h) λv s1 zq=>?_);obtain⟨x,H1,L,r1,J⟩:=zq;obtain⟨c,rfl,J⟩:=J
 cases r1;refine wpAny_truthy_bool ?_
 cases c with
 |true=>exact Y pins s1 σ H1 Q L J
 |false=>exact⟨.bl false,H1,L,rfl,J⟩
theorem zV (L:PE X a ta):PE X (.UnaryOp .Not a pos) (zU ta):=by
 intro pins s σ H Q I h;refine UnaryOp_ (fk (L pins s σ H _ I h) λv s1 zq=>?_);obtain⟨x,H1,U,Y,J⟩:=zq;obtain⟨c,rfl,J⟩:=J
 cases Y;exact not_of (wpAny_truthy_bool ⟨.bl (!c),H1,U,rfl,J⟩)
def E7 (t:TT) (ta tb:TE):TE:=λσ H Q=>t σ H λc H1=>if c=true then ta σ H1 Q else tb σ H1 Q
theorem zW {c:Expr}(hc:PT X c tA)(Y:PE X a ta)(hb:PE X b tb):PE X (.IfExp c a b pos) (E7 tA ta tb):=by
 intro pins s σ H Q I h;refine wpAny_IfExp (fk (hc pins s σ H _ I h) λd J ⟨H1,L,U⟩=>?_)
 cases d with
 |true=>exact Y pins J σ H1 Q L U
 |false=>exact hb pins J σ H1 Q L U
end
def d_ (K:W.Frag) (H:Hp) (a:Addr) (xs:List V):Prop:=
 Rd H a (.lst xs)\/
  ∃(o:Obj) (I:Array Value) (n:Nat),K.lookup a=some o/\o.cls=.type "list"/\o.dict=none/\o.data=.seq I n/\I.size<=sizeLine/\Vals xs I.toList
def eX (K:W.Frag) (H:Hp) (a:Addr) (xs:List V):Prop:=
 Rd H a (.tup xs)\/
  ∃(o:Obj) (I:Array Value) (n:Nat),K.lookup a=some o/\o.cls=.type "tuple"/\o.data=.seq I n/\I.size<=sizeLine/\Vals xs I.toList
noncomputable def E8:Value->Option V
 | .none=>some .non
 | .bool b=>some (.bl b)
 | .int i _=>some (.int i)
 | .str x _=>some (.str x)
 | .bytes b _=>some (.jQ b)
 | .float b _=>some (.flt b)
 | .ref a=>some (.ref a)
 | .type n=>some (.ty n)
 |_=>none
theorem RelV.abs {x:V}{u:Value}(r:RelV x u):E8 u=some x:=by
 cases x with
 |non=>cases r;rfl
 |bl _=>cases r;rfl
 |int _=>obtain⟨t,rfl⟩:=r;rfl
 |str _=>obtain⟨t,rfl⟩:=r;rfl
 |jQ _=>obtain⟨t,rfl⟩:=r;rfl
 |flt _=>obtain⟨t,rfl⟩:=r;rfl
 |ref _=>cases r;rfl
 |ty _=>cases r;rfl
theorem RelV.inj {x y:V}{u:Value}(r:RelV x u)(q:RelV y u):x=y:=Option.some.inj (r.abs.symm.trans q.abs)
theorem Vals.inj:∀{xs ys:List V}{us:List Value},Vals xs us->Vals ys us->xs=ys
 |_,_,_,.nil,.nil=>rfl
 |_,_,_,.cons r t,.cons I t'=>by rw[r.inj I,Vals.inj t t']
section
variable {X:Cx}{pins:List (Addr × Obj)}{σ:St}{H:Hp}{s:Shared}{a:Addr}{xs ys:List V}
theorem d_.of {K:W.Frag}(h:H a=some (.lst xs)):d_ K H a xs:=.inl (.inl h)
theorem eX.of {K:W.Frag}(h:H a=some (.tup xs)):eX K H a xs:=.inl (.inl h)
theorem Inv.list (I:Inv X pins σ H s)(h:d_ X.K H a xs):∃J:List Value,Vals xs J/\PlainL s.heap a J.toArray/\xs.length<=sizeLine:=by
 rcases h with h|⟨o,J,n,L,hc,U,Y,hz,r⟩
 . obtain⟨z,J,n,r,e⟩:=h.ok I.hok;exact⟨J,r,⟨_,n,e,rfl,rfl,rfl⟩,z⟩
 . refine⟨J.toList,r,⟨o,n,I.gT a o L,hc,U,by simpa using Y⟩,?_⟩;have e:=r.length;simp only[Q1p] at e;omega
theorem Inv.tuple (I:Inv X pins σ H s)(h:eX X.K H a xs):∃J:List Value,Vals xs J/\IsTup s.heap a J.toArray/\xs.length<=sizeLine:=by
 rcases h with h|⟨o,J,n,L,hc,U,Y,r⟩
 . obtain⟨z,J,r,p⟩:=h.ok I.hok;exact⟨J,r,p,z⟩
 . refine⟨J.toList,r,⟨o,I.gT a o L,hc,n,by simpa using U⟩,?_⟩;have e:=r.length;simp only[Q1p] at e;omega
theorem Inv.qB (I:Inv X pins σ H s)(h:d_ X.K H a xs)(h':d_ X.K H a ys):xs=ys:=by
 obtain⟨J,r,⟨o,n,e,_,_,d⟩,_⟩:=I.list h;obtain⟨its',U,⟨o',n',L,_,_,d'⟩,_⟩:=I.list h';rw[e] at L;cases L;rw[d] at d';injection d' with Y _
 have:J=its':=by simpa using congrArg Array.toList Y
 subst this;exact r.inj U
theorem Inv.E9 (I:Inv X pins σ H s)(h:eX X.K H a xs)(h':eX X.K H a ys):xs=ys:=by
 obtain⟨J,r,⟨o,e,_,n,d⟩,_⟩:=I.tuple h;obtain⟨its',U,⟨o',L,_,n',d'⟩,_⟩:=I.tuple h';rw[e] at L;cases L;rw[d] at d';injection d' with Y _
 have:J=its':=by simpa using congrArg Array.toList Y
 subst this;exact r.inj U
end
noncomputable abbrev Cx.wish (X:Cx) (E:Value->Shared->Prop):Cx:={ X with xe:=E }
noncomputable abbrev Cx.fX (X:Cx):Cx:=X.wish λ_ _=>False
theorem Cx.Ok.wish {X:Cx}(ok:X.Ok)(E:Value->Shared->Prop):(X.wish E).Ok:=
 ⟨ok.mod,ok.kind,ok.glob,ok.blt,ok.above,ok.inj,ok.has,ok.cab,ok.hd,ok.frames,ok.stk,ok.tH,ok.bs,ok.j9,ok.nK,ok.oY,ok.jF,ok.lM⟩
theorem Cx.Ok.kb {X:Cx}{E:Value->Shared->Prop}(ok:(X.wish E).Ok):X.Ok:=
 ⟨ok.mod,ok.kind,ok.glob,ok.blt,ok.above,ok.inj,ok.has,ok.cab,ok.hd,ok.frames,ok.stk,ok.tH,ok.bs,ok.j9,ok.nK,ok.oY,ok.jF,ok.lM⟩
section
variable {X:Cx}{pins:List (Addr × Obj)}{σ:St}{H:Hp}{s:Shared}{E:Value->Shared->Prop}
theorem Inv.wish (I:Inv X pins σ H s)(E:Value->Shared->Prop):Inv (X.wish E) pins σ H s:=⟨I.ok.wish E,I.os,I.bare,I.base,I.loc,I.cell,I.free,I.i7,I.pin,I.hok,I.len⟩
theorem Inv.kb (I:Inv (X.wish E) pins σ H s):Inv X pins σ H s:=⟨I.ok.kb,I.os,I.bare,I.base,I.loc,I.cell,I.free,I.i7,I.pin,I.hok,I.len⟩
theorem SP.kb {D:Ends}{f:Flow}{s':Shared}(h:SP (X.wish E) pins D f s'):SP X pins D f s':=by
 cases f with
 |next=>obtain⟨J,H',I,q⟩:=h;exact⟨J,H',I.kb,q⟩
 |brk=>obtain⟨J,H',I,q⟩:=h;exact⟨J,H',I.kb,q⟩
 |cont=>obtain⟨J,H',I,q⟩:=h;exact⟨J,H',I.kb,q⟩
 |ret u=>obtain⟨v,J,H',I,r,q⟩:=h;exact⟨v,J,H',I.kb,r,q⟩
theorem iN.fX {st:List Stmt}{t:TS}(h:iN X.fX st t):iN X st t:=λpins s σ H D I hw=>
 Q0m (h pins s σ H D (I.wish _) hw) (λ_ _ q=>q.kb) λ_ _ z=>False.elim z
end
section
variable {X:Cx}{st:Stmt}{rest:List Stmt}{t u:TS}{e:Expr}{te:TE}{pos:Pos}
def E_:TS:=λD σ H=>D.nx σ H
def qC (t u:TS):TS:=λD σ H=>t { D with nx:=u D } σ H
theorem fy:iN X [] E_:=λ_ _ σ H _ I h=>wpAny_execs_nil ⟨σ,H,I,h⟩
theorem eV (h1:PS X st t)(h2:iN X rest u):iN X (st::rest) (qC t u):=by
 intro pins s σ H D I h;refine wpAny_execs_cons (fk (h1 pins s σ H { D with nx:=u D } I h) λf L q=>?_)
 cases f with
 |next=>
  obtain⟨J,H',U,q⟩:=q;exact h2 pins L J H' D U q
 |ret v=>exact q
 |brk=>exact q
 |cont=>exact q
theorem fc (h1:PS X st t):iN X [st] t:=by
 intro pins s σ H D I h;refine wpAny_execs_cons (fk (h1 pins s σ H D I h) λf J q=>?_)
 cases f with
 |next=>exact wpAny_execs_nil q
 |ret v=>exact q
 |brk=>exact q
 |cont=>exact q
theorem Inv.quiet {pins:List (Addr × Obj)}{σ:St}{H:Hp}{s:Shared}(I:Inv X pins σ H s):interactive X.env=false:=by simp[interactive,I.ok.kind]
def Fb (te:TE):TS:=λD σ H=>te σ H λ_ H1=>D.nx σ H1
theorem kI (J:PE X e te)(L:swapsWith e none pos.line X.env=pure false:=by rfl):PS X (.Expr e pos) (Fb te):=by
 intro pins s σ H D I h;exact wpAny_Expr_any (fk (J pins s σ H _ I h) λv s1 ⟨x,H1,U,r1,Y⟩=>⟨σ,H1,U,Y⟩) I.quiet L
def tM (te:TE):TS:=λD σ H=>te σ H D.rt
theorem fg (J:PE X e te):PS X (.Return (some e) pos) (tM te):=by
 intro pins s σ H D I h;exact wpAny_Return_some (fk (J pins s σ H _ I h) λv s1 ⟨x,H1,L,U,Y⟩=>⟨x,σ,H1,L,U,Y⟩)
def ju (c:TT) (t u:TS):TS:=λD σ H=>c σ H λb H1=>if b=true then t D σ H1 else u D σ H1
theorem fA {c:Expr}{a b:List Stmt}{tc:TT}(hc:PT X c tc)(Y:iN X a t)(hb:iN X b u):PS X (.If c a b pos) (ju tc t u):=by
 intro pins s σ H D I h;refine wpAny_If (fk (hc pins s σ H _ I h) λd J ⟨H1,L,U⟩=>?_)
 cases d with
 |true=>exact Y pins J σ H1 D L U
 |false=>exact hb pins J σ H1 D L U
def zX:TS:=λ_ _ _=>False
theorem zY:PS X st zX:=λ_ _ _ _ _ _ h=>h.elim
theorem Fc {I:List Stmt}:iN X I zX:=λ_ _ _ _ _ _ h=>h.elim
end
noncomputable abbrev TG:=V->St->Hp->(St->Hp->Prop)->Prop
noncomputable abbrev mB:=List V->St->Hp->(St->Hp->Prop)->Prop
def PG (X:Cx) (I:Expr) (t:TG):Prop:=
 ∀(pins:List (Addr × Obj)) (s:Shared) (σ:St) (H:Hp) (v:V) (u:Value) (Q:St->Hp->Prop),Inv X pins σ H s->RelV v u->t v σ H Q->
  wpAny (model X.prog X.w) X.A (assign I X.env u) (λ_ s'=>∃J H',Inv X pins J H' s'/\Q J H') X.xe s
def qD (X:Cx) (ts:List Expr) (t:mB):Prop:=
 ∀(pins:List (Addr × Obj)) (s:Shared) (σ:St) (H:Hp) (vs:List V) (us:List Value) (Q:St->Hp->Prop),Inv X pins σ H s->Vals vs us->t vs σ H Q->
  wpAny (model X.prog X.w) X.A (assignInOrder ((assignEach ts X.env).map (·.2)) us) (λ_ s'=>∃I H',Inv X pins I H' s'/\Q I H') X.xe s
noncomputable abbrev tO:=V->V->V->Hp->(Hp->Prop)->Prop
def zZ (X:Cx) (t:tO):Prop:=
 ∀(pins:List (Addr × Obj)) (s:Shared) (σ:St) (H:Hp) (o i v:V) (I J u:Value) (Q:Hp->Prop),Inv X pins σ H s->RelV o I->RelV i J->RelV v u->t o i v H Q->
  wpAny (model X.prog X.w) X.A (setItem I J u) (λ_ s'=>∃H',Inv X pins σ H' s'/\Q H') X.xe s
section
variable {X:Cx}{pos:Pos}
def gK (i:Nat):TG:=λv σ H Q=>Q (σ.set i (some v)) H
theorem gq {i:Nat}{x:Str}(J:X.N.Nodup)(hi:X.N[i]? =some x)(L:Loc X.env.scope x)(U:X.fn x=true\/X.env.scope.names.lookup x=some .local:=by first|exact .inl rfl|exact .inr rfl|assumption):PG X (.Name x pos) (gK i):=by
 intro pins s σ H v u Q I r h;exact wpAny_assign_Name (o4 I J hi L r (λs' Y=>⟨_,H,Y,h⟩) U)
def o5:mB:=λvs σ H Q=>vs=[]/\Q σ H
def lg (t:TG) (u:mB):mB:=λvs σ H Q=>∃v r,vs=v::r/\t v σ H λI H'=>u r I H' Q
theorem jR:qD X [] o5:=by
 intro pins s σ H vs us Q I r h;obtain⟨e,h⟩:=h;subst e
 cases r;exact assignInOrder_nil ⟨σ,H,I,h⟩
theorem ik {e:Expr}{es:List Expr}{t:TG}{u:mB}(h1:PG X e t)(h2:qD X es u)
 (L:(assignEach (e::es) X.env).map (·.2)=assign e X.env::(assignEach es X.env).map (·.2):=by rfl):qD X (e::es) (lg t u):=by
 intro pins s σ H vs us Q I r h;obtain⟨v,vr,U,h⟩:=h;subst U
 cases r with
 |cons r Y=>
  rw[L];refine assignInOrder_cons (fk (h1 pins s σ H _ _ _ I r h) λ_ s1 zq=>?_);obtain⟨J,H1,I1,q1⟩:=zq;exact h2 pins s1 J H1 _ _ Q I1 Y q1
def o6 (K:W.Frag) (n:Nat) (t:mB):TG:=λv σ H Q=>∃a xs,v=.ref a/\eX K H a xs/\xs.length=n/\t xs σ H Q
theorem jS {es:List Expr}{k:Nat}{t:mB}{n:Nat}(hc:X.calm=true)(h:qD X es t)
 (U:(assignEach es X.env).length=n:=by rfl) (J:(assignEach es X.env).findIdx? (·.1)=none:=by rfl):PG X (.Tuple es k pos) (o6 X.K n t):=by
 intro pins s σ H v u Q I r hw;obtain⟨a,xs,Y,hq,hl,hw⟩:=hw;subst Y
 cases r;obtain⟨aa,L,ht,hz⟩:=I.tuple hq;refine assign_Tuple_tuple (I.ok.hd hc) ht (by simp[U,<-hl,L.length]) J λh' hx=>?_;have I1:Inv X pins σ H { s with heap:=h' }:=I.kept (t':=s.toks) λb o e=>hx b o (Q0c (Q01 e)) e;exact h pins _ σ H xs _ Q I1 (by simpa using L) hw
def Fe (to I:TE) (t:tO):TG:=λv σ H Q=>to σ H λo H1=>I σ H1 λi H2=>t o i v H2 λJ=>Q σ J
theorem z7 {o i:Expr}{to U:TE}{t:tO}(Y:PE X o to)(hi:PE X i U)(hs:zZ X t)
 (ha:∀v,assign (.Subscript o i pos) X.env v=(do
   let J <-holding [v] (eval o X.env);let L <-holding [v,J] (eval i X.env)
   standAt pos
   holding [v,J,L] (setItem J L v)
   release [v,J,L] []):=by intro _;rfl):PG X (.Subscript o i pos) (Fe to U t):=by
 intro pins s σ H v u Q I r h;rw[ha];refine Q0 (wpAny_holding (fk (Y pins s σ H _ I h) λJ s1 zq=>?_));obtain⟨x,H1,I1,r1,q1⟩:=zq;refine Q0 (wpAny_holding (fk (hi pins s1 σ H1 _ I1 q1) λL s2 zq=>?_));obtain⟨y,H2,I2,r2,q2⟩:=zq;refine Q0 (wpAny_standAt (Q0 (wpAny_holding (fk (hs pins s2 σ H2 x y v J L u _ I2 r1 r2 r q2) λ_ s3 ⟨H3,I3,q3⟩=>?_))));exact wpAny_release ⟨σ,H3,I3,q3⟩
def jT (te:TE) (g:TG):TS:=λD σ H=>te σ H λx H1=>g x σ H1 D.nx
theorem o7 {tg e:Expr}{te:TE}{g:TG}(J:PE X e te)(L:PG X tg g)(U:swapsWithSole [tg] e pos.line X.env=pure false:=by rfl)(hw:swappedStores [tg] e X.env=pure none:=by rfl)
 (h1:(assignEach [tg] X.env).map (·.2)=[assign tg X.env]:=by rfl):PS X (.Assign [tg] e pos) (jT te g):=by
 intro pins s σ H D I h;refine wpAny_Assign_stores (fk (J pins s σ H _ I h) λv Y zq=>?_) U hw;obtain⟨x,H1,I1,r1,q1⟩:=zq;rw[h1];exact fk (L pins Y σ H1 x v _ I1 r1 q1) λ_ s2 q=>q
theorem tQ {i:Nat}{x:Str}{e:Expr}{te:TE}{pos':Pos}(J:X.N.Nodup)(hi:X.N[i]? =some x)(L:Loc X.env.scope x)(U:PE X e te)(Y:swapsWith e (some (.Name x pos')) pos.line X.env=pure false:=by rfl)(hf:X.fn x=true\/X.env.scope.names.lookup x=some .local:=by first|exact .inl rfl|exact .inr rfl|assumption):
 PS X (.Assign [.Name x pos'] e pos) (jT te (gK i)):=by
 intro pins s σ H D I h;refine wpAny_Assign_Name (fk (U pins s σ H _ I h) λv s1 zq=>?_) Y;obtain⟨y,H1,I1,r1,q1⟩:=zq;exact o4 I1 J hi L r1 (λs2 I2=>⟨_,H1,I2,q1⟩) hf
end
section
variable {X:Cx}{pos:Pos}
end
structure It where
 go:Nat->Hp->Prop
 jU:Nat->Hp->V->Hp->Prop
 stop:Nat->Hp->Prop
def iK (X:Cx) (pins:List (Addr × Obj)) (H:Hp) (b:Addr):Prop:=
 H b=none/\b≠X.env.locals/\b ∉ X.fs/\(b∈X.ex\/X.s₀.heap.objs.size<=b)/\(∀x c,X.env.cells.lookup x=some c->c≠b)/\∀p∈X.pn++pins,p.1≠b
theorem Inv.mC {X:Cx}{pins:List (Addr × Obj)}{σ:St}{H H':Hp}{s:Shared}{b:Addr}(I:Inv X pins σ H s)(J:s.heap.objs.size<=b)(L:H' b=none):iK X pins H' b:=by
 refine⟨L,Q0v (Q0b I.lt J),I.nL J,.inr (Q0h I.sz J),λx c e z=>?_,λp hp z=>?_⟩
 . obtain⟨v,q⟩:=I.cell x c e;exact absurd (Q0b q.lt (by rw[z];exact J)) (Q0l _)
 . exact absurd (Q0b (Q01 (I.pin p hp).1) (by rw[z];exact J)) (Q0l _)
structure Turn (P:Program) (w:World) (K:W.Frag) (tg:Expr) (J:It) (fp:List Addr) (it:Addr) (tn:Nat->Heap->Prop):Prop where
 mem:it∈fp
 obj:∀i h,tn i h->∀b∈fp,∃o,h.get? b=some o/\∀v,o.data≠ .cell v
 keep:∀i h h',tn i h->(∀b∈fp,∀o,h.get? b=some o->h'.get? b=some o)->tn i h'
 item:∀(X:Cx),X.prog=P->X.w=w->X.K=K->X.calm=true->∀(i:Nat) (pins:List (Addr × Obj)) (s:Shared) (σ:St) (H:Hp) (E:Value->Shared->Prop),Inv X pins σ H s->(∀b∈fp,iK X pins H b)->tn i s.heap->J.go i H->
  wpAny (model P w) X.A (pyNext (.ref it)) (λr s1=>∃u,r=some u/\
   wpAny (model P w) X.A (letOwnedTupleGo tg (.ref it) u) (λ_ s2=>∃x H',Inv X pins σ H' s2/\RelV x u/\J.jU i H x H'/\tn (i+1) s2.heap/\∀b∈fp,H' b=none) E s1) E s
 done:∀(X:Cx),X.prog=P->X.w=w->X.K=K->X.calm=true->∀(i:Nat) (pins:List (Addr × Obj)) (s:Shared) (σ:St) (H:Hp) (E:Value->Shared->Prop),Inv X pins σ H s->(∀b∈fp,iK X pins H b)->tn i s.heap->J.stop i H->
  wpAny (model P w) X.A (pyNext (.ref it)) (λr s1=>r=none/\Inv X pins σ H s1) E s
 self:∀(A:Around) (i:Nat) (s:Shared) (Q:Value->Shared->Prop) (E:Value->Shared->Prop),tn i s.heap->Q (.ref it) s->wpAny (model P w) A (pyIter (.ref it)) Q E s
noncomputable abbrev TI:=St->Hp->(It->Hp->Prop)->Prop
def PIE (X:Cx) (pins:List (Addr × Obj)) (σ:St) (tg:Expr) (R:It->Hp->Prop) (I:Value) (L:Shared):Prop:=
 ∃(it:Addr) (U:List Addr) (Y:Nat->Heap->Prop) (J:It) (H':Hp),I=.ref it/\Inv X pins σ H' L/\Turn X.prog X.w X.K tg J U it Y/\Y 0 L.heap/\(∀b∈U,iK X pins H' b)/\R J H'
def PI (X:Cx) (tg iter:Expr) (I:TI):Prop:=
 ∀(pins:List (Addr × Obj)) (s:Shared) (σ:St) (H:Hp) (R:It->Hp->Prop),Inv X pins σ H s->I σ H R->
  wpAny (model X.prog X.w) X.A (eval iter X.env) (λv J=>wpAny (model X.prog X.w) X.A (pyIter v) (PIE X pins σ tg R) X.xe J) X.xe s
theorem tR {M:Model}{A:Around}{E:Value->Shared->Prop}{s:Shared}{tg:Expr}{it:Addr}{u:Value}{o:Obj}{n:String}{vs:Array Value}{Q:Unit->Shared->Prop}(J:s.heap.get? it=some o)(hc:o.cls=.type n)(L:o.data=.fields vs)
 (U:["enumerate","zip","dict_itemiterator","dict_reverseitemiterator","odict_iterator","itertools.zip_longest","itertools.pairwise"].contains n=false) (I:Q () s):wpAny M A (letOwnedTupleGo tg (.ref it) u) Q E s:=by
 unfold letOwnedTupleGo
 cases tg <;> first
  |exact Q0d I
  |(cases u <;> first
     |exact Q0d I
     |(refine Q0 (wpAny_load J ?_)
       rw[hc,L];show wpAny M A (if(["enumerate","zip","dict_itemiterator","dict_reverseitemiterator","odict_iterator","itertools.zip_longest","itertools.pairwise"].contains n && vs[0]? == some (rawInt _))=true then _ else _) Q E s;rw[if_neg (by intro h;rw[U,Bool.false_and] at h;cases h)];exact Q0d I))
noncomputable def nO (K:W.Frag) (a:Addr):It:=
 ⟨λi H=>∃xs x,d_ K H a xs/\xs[i]? =some x,λi H x H'=>H'=H/\∀xs,d_ K H a xs->xs[i]? =some x,λi H=>∃xs,d_ K H a xs/\xs.length<=i⟩
noncomputable def nQ (K:W.Frag) (a:Addr):It:=
 ⟨λi H=>∃xs x,eX K H a xs/\xs[i]? =some x,λi H x H'=>H'=H/\∀xs,eX K H a xs->xs[i]? =some x,λi H=>∃xs,eX K H a xs/\xs.length<=i⟩
noncomputable def mD (lo:Int) (n:Nat):It:=⟨λi _=>i<n,λi H x H'=>H'=H/\x=.int (lo+i),λi _=>n<=i⟩
theorem Ff {P:Program}{w:World}{K:W.Frag}{tg:Expr}(a it:Addr):Turn P w K tg (nO K a) [it] it (λi h=>h.IsListIter it a i) where
 mem:=by simp
 obj:=λi h st b J=>by
  have e:b=it:=by simpa using J
  subst e;obtain⟨o,e,c,d⟩:=st;exact⟨o,e,λv z=>by rw[d] at z;cases z⟩
 keep:=λi h h' st k=>st.at λo e=>k it (by simp) o e
 item:=by
  intro X hP hw hK hc i pins s σ H E I U st hg;subst hP hw hK;obtain⟨xs,x,Y,hx⟩:=hg;obtain⟨aa,rv,p,hz⟩:=I.list Y;obtain⟨u,hu,ru⟩:=rv.get hx;obtain⟨f0,f1,f2,f3,f4,f5⟩:=U it (by simp);refine wpAny_pyNext_list_item st p.isList (x:=u) (by simpa using hu) λh' L sb=>?_;have I1:Inv X pins σ H { s with heap:=h' }:=I.turned (t':=s.toks) (λb o J e=>(sb.2 b J).trans e) f0 f1 f3 f4 f5;obtain⟨o,e,c,d⟩:=id L;exact⟨u,rfl,tR (s:={ s with heap:=h' }) e c d (by decide) ⟨x,H,I1,ru,⟨rfl,λys hy=>by rw[I.qB hy Y];exact hx⟩,L,λb J=>(U b J).1⟩⟩
 done:=by
  intro X hP hw hK hc i pins s σ H E I U st hg;subst hP hw hK;obtain⟨xs,Y,hx⟩:=hg;obtain⟨aa,rv,p,hz⟩:=I.list Y;obtain⟨f0,f1,f2,f3,f4,f5⟩:=U it (by simp);have hl:=rv.length;exact wpAny_pyNext_list_end (I.ok.hd hc) st p.isList (by simp;omega) λh' eb=>⟨rfl,I.turned (t':=s.toks) (λb o J e=>eb b o J e) f0 f1 f3 f4 f5⟩
 self:=λ_ _ _ _ _ st h=>wpAny_pyIter_listiter st h
theorem Fg {P:Program}{w:World}{K:W.Frag}{tg:Expr}(a it:Addr):Turn P w K tg (nQ K a) [it] it (λi h=>h.IsTupleIter it a i) where
 mem:=by simp
 obj:=λi h st b J=>by
  have e:b=it:=by simpa using J
  subst e;obtain⟨o,e,c,d⟩:=st;exact⟨o,e,λv z=>by rw[d] at z;cases z⟩
 keep:=λi h h' st k=>st.at λo e=>k it (by simp) o e
 item:=by
  intro X hP hw hK hc i pins s σ H E I Y st hg;subst hP hw hK;obtain⟨xs,x,hq,hx⟩:=hg;obtain⟨L,rv,p,hz⟩:=I.tuple hq;obtain⟨u,hu,ru⟩:=rv.get hx;obtain⟨f0,f1,f2,f3,f4,f5⟩:=Y it (by simp);refine wpAny_pyNext_tuple_item st (show s.heap.IsTuple a L.toArray from p) (x:=u) (by simpa using hu) λh' U sb=>?_;have I1:Inv X pins σ H { s with heap:=h' }:=I.turned (t':=s.toks) (λb o J e=>(sb.2 b J).trans e) f0 f1 f3 f4 f5;obtain⟨o,e,c,d⟩:=id U;exact⟨u,rfl,tR (s:={ s with heap:=h' }) e c d (by decide) ⟨x,H,I1,ru,⟨rfl,λys hy=>by rw[I.E9 hy hq];exact hx⟩,U,λb J=>(Y b J).1⟩⟩
 done:=by
  intro X hP hw hK hc i pins s σ H E I Y st hg;subst hP hw hK;obtain⟨xs,hq,hx⟩:=hg;obtain⟨L,rv,p,hz⟩:=I.tuple hq;obtain⟨f0,f1,f2,f3,f4,f5⟩:=Y it (by simp);have hl:=rv.length;exact wpAny_pyNext_tuple_end (I.ok.hd hc) st (show s.heap.IsTuple a L.toArray from p) (by simp;omega) λh' eb=>⟨rfl,I.turned (t':=s.toks) (λb o J e=>eb b o J e) f0 f1 f3 f4 f5⟩
 self:=λ_ _ _ _ _ st h=>wpAny_pyIter_tupleiter st h
theorem Fh {P:Program}{w:World}{K:PySem.W.Frag}{tg:Expr}(it:Addr)(lo:Int)(n:Nat):Turn P w K tg (mD lo n) [it] it (λi h=>IsRangeIter h it (lo+(i:Nat) * 1) ((n:Int) - (i:Nat)) 1) where
 mem:=by simp
 obj:=λi h st b J=>by
  have e:b=it:=by simpa using J
  subst e
  exact⟨_,st,λv z=>by
   have z':Data.fields _=Data.cell v:=z
   cases z'⟩
 keep:=λi h h' st k=>k it (by simp) _ st
 item:=by
  intro X Y hw hK hc i pins s σ H E I U st hg;subst Y hw hK;obtain⟨f0,f1,f2,f3,f4,f5⟩:=U it (by simp);have W:=Walks.range (prog:=X.prog) (w:=X.w) (I.ok.hd hc) it lo 1 n;refine W.item i s _ _ hg st λv h' tk hv L kk=>?_;obtain⟨t,rfl⟩:=hv;have I1:Inv X pins σ H { s with heap:=h',toks:=tk }:=I.turned (λb o J e=>kk b o (by simpa using J) e) f0 f1 f3 f4 f5;refine(Zr rfl (tR (s:={ s with heap:=h',toks:=tk }) (n:="range_iterator") L rfl rfl (by decide) ⟨.int (lo+i),H,I1,⟨t,?_⟩,⟨rfl,rfl⟩,L,λb J=>(U b J).1⟩));rw[Int.mul_one]
 done:=by
  intro X Y hw hK hc i pins s σ H E I U st hg;subst Y hw hK;obtain⟨f0,f1,f2,f3,f4,f5⟩:=U it (by simp);exact wpAny_pyNext_range_end (I.ok.hd hc) st (by have:n<=i:=hg;omega) λh' eb=>⟨rfl,I.turned (t':=s.toks) (λb o J e=>eb b o J e) f0 f1 f3 f4 f5⟩
 self:=λ_ _ _ _ _ st h=>wpAny_pyIter_rangeiter st h
section
variable {X:Cx}{tg:Expr}
def Fi (K:W.Frag) (tl:TE):TI:=λσ H R=>tl σ H λx H1=>∃a,x=.ref a/\(∃xs,d_ K H1 a xs)/\R (nO K a) H1
def Fj (K:W.Frag) (tl:TE):TI:=λσ H R=>tl σ H λx H1=>∃a,x=.ref a/\(∃xs,eX K H1 a xs)/\R (nQ K a) H1
theorem mE {l:Expr}{tl:TE}(hl:PE X l tl):PI X tg l (Fi X.K tl):=by
 intro pins s σ H R I h;refine fk (hl pins s σ H _ I h) λv J zq=>?_;obtain⟨x,H1,L,U,Y⟩:=zq;obtain⟨a,e,⟨xs,hq⟩,q⟩:=Y;subst e
 cases U;obtain⟨aa,rv,p,hz⟩:=L.list hq;refine wpAny_pyIter_list p.isList ?_;refine⟨J.heap.objs.size,[J.heap.objs.size],_,_,H1,rfl,L.kept (t':=J.toks) λb o e=>Q0a _ e,Ff a _,⟨_,Q0n _ rfl,rfl,rfl⟩,λb hb=>?_,q⟩;have e:b=J.heap.objs.size:=by simpa using hb
 subst e;exact L.mC (Q00 _) (L.hok.fresh (Q00 _))
theorem kJ {l:Expr}{tl:TE}(hl:PE X l tl):PI X tg l (Fj X.K tl):=by
 intro pins s σ H R I h;refine fk (hl pins s σ H _ I h) λv J zq=>?_;obtain⟨x,H1,L,Y,q1⟩:=zq;obtain⟨a,e,⟨xs,hq⟩,q⟩:=q1;subst e
 cases Y;obtain⟨U,rv,p,hz⟩:=L.tuple hq;refine wpAny_pyIter_tuple (show J.heap.IsTuple a U.toArray from p) ?_;refine⟨J.heap.objs.size,[J.heap.objs.size],_,_,H1,rfl,L.kept (t':=J.toks) λb o e=>Q0a _ e,Fg a _,⟨_,Q0n _ rfl,rfl,rfl⟩,λb hb=>?_,q⟩;have e:b=J.heap.objs.size:=by simpa using hb
 subst e;exact L.mC (Q00 _) (L.hok.fresh (Q00 _))
theorem z8 {pins:List (Addr × Obj)}{σ:St}{H:Hp}{s:Shared}{R:It->Hp->Prop}{E:Value->Shared->Prop}{lo hi:Int}{t u v:Tok}{tk:Nat}(I:Inv X pins σ H s)(h1: -(2 ^ 62)<=lo)(h2:lo<2 ^ 62)(L: -(2 ^ 62)<=hi)(U:hi<2 ^ 62)
 (q:R (mD lo (hi - lo).toNat) H):wpAny (model X.prog X.w) X.A (pyIter (.ref s.heap.objs.size)) (PIE X pins σ tg R) E { s with heap:=s.heap.push { cls:=.type "range",data:=.fields #[.int lo t,.int hi u,.int 1 v] },toks:=tk }:=by
 refine wpAny_pyIter_range (IsRange.new ..) (small_one h1 h2 L U) ?_;have J:Inv X pins σ H { s with heap:=s.heap.push { cls:=.type "range",data:=.fields #[.int lo t,.int hi u,.int 1 v] },toks:=tk }:=I.kept λb o e=>Q0a _ e
 refine⟨(s.heap.push { cls:=.type "range",data:=.fields #[.int lo t,.int hi u,.int 1 v] }).objs.size,[(s.heap.push { cls:=.type "range",data:=.fields #[.int lo t,.int hi u,.int 1 v] }).objs.size],_,_,H,rfl,
  J.kept (t':=tk) λb o e=>Q0a _ e,Fh _ lo (hi - lo).toNat,?_,λb Y=>?_,q⟩
 . have e1:lo+((0:Nat):Int) * 1=lo:=by simp
   have e2:(((hi - lo).toNat:Nat):Int) - ((0:Nat):Int)=Builtin.Range.rangeSize lo hi 1:=by rw[rangeSize_one];split <;> omega
   show IsRangeIter _ _ (lo+((0:Nat):Int) * 1) ((((hi - lo).toNat:Nat):Int) - ((0:Nat):Int)) 1;rw[e1,e2];exact Q0n _ rfl
 . have e:b=(s.heap.push { cls:=.type "range",data:=.fields #[.int lo t,.int hi u,.int 1 v] }).objs.size:=by simpa using Y
   subst e;exact J.mC (Q00 _) (J.hok.fresh (Q00 _))
def Fk (ta:TA):TI:=λσ H R=>ta σ H λvs H1=>∃j:Int,vs=[.int j]/\ -(2 ^ 62)<=j/\j<2 ^ 62/\R (mD 0 j.toNat) H1
def Fl (ta:TA):TI:=λσ H R=>ta σ H λvs H1=>∃i j:Int,vs=[.int i,.int j]/\(-(2 ^ 62)<=i/\i<2 ^ 62/\ -(2 ^ 62)<=j/\j<2 ^ 62)/\R (mD i (j - i).toNat) H1
theorem mF {a:Expr}{ta:TA}{p pos:Pos}(L:Gl X "range")(U:X.mg "range"=none)(Y:PA X [a] ta)(hs:starEach [a] X.env=[(false,eval a X.env)]:=by rfl):PI X tg (.Call (.Name "range" p) [a] [] pos) (Fk ta):=by
 intro pins s σ H R I h;refine Call_ (k_ I L U boot_range (PyProof.Rows.callWith_type1 (fk (Y pos pins s σ H _ I h) λus s1 zq=>?_) hs rfl));obtain⟨vs,H1,I1,r1,J⟩:=zq;obtain⟨j,e,J,q2,q⟩:=J;subst e
 cases r1 with
 |cons r rr=>
  cases rr;obtain⟨t,rfl⟩:=r;exact call_range_1 (z8 I1 (by omega) (by omega) J q2 (by simpa using q))
theorem Fm {a b:Expr}{ta:TA}{p pos:Pos}(Y:Gl X "range")(hm:X.mg "range"=none)(ha:PA X [a,b] ta)(hs:starEach [a,b] X.env=[(false,eval a X.env),(false,eval b X.env)]:=by rfl)(J:starEach [b] X.env=[(false,eval b X.env)]:=by rfl):
 PI X tg (.Call (.Name "range" p) [a,b] [] pos) (Fl ta):=by
 intro pins s σ H R I h;refine Call_ (k_ I Y hm boot_range (PyProof.Rows.callWith_type1 (fk (ha pos pins s σ H _ I h) λus s1 zq=>?_) (by rw[hs,J]) (by rw[J];rfl)));obtain⟨vs,H1,I1,r1,L⟩:=zq;obtain⟨i,j,e,⟨L,q2,q3,q4⟩,q⟩:=L;subst e
 cases r1 with
 |cons r U=>
  cases U with
  |cons r' U=>
   cases U;obtain⟨t,rfl⟩:=r;obtain⟨t',rfl⟩:=r';exact call_range_2 (z8 I1 L q2 q3 q4 q)
def Fn (Y:TI) (g:TG) (tb:TS):TS:=λD σ H=>Y σ H λJ H1=>∃W:Nat->Nat->St->Hp->Prop,(∃m,W 0 m σ H1)/\∀i m σ H,W i m σ H->
 (J.stop i H/\D.nx σ H)\/(J.go i H/\∃N:St->Hp->Prop,(∀I H',N I H'->∃U,U<m/\W (i+1) U I H')/\∀x H',J.jU i H x H'->g x σ H' λL H2=>tb { D with nx:=N,ct:=N,bk:=D.nx } L H2)
noncomputable def qE (I:List Addr) (h:Heap):List (Addr × Obj):=I.filterMap λb=>(h.get? b).map λo=>(b,o)
theorem o8 {I:List Addr}{h:Heap}{b:Addr}{o:Obj}(J:b∈I)(e:h.get? b=some o):(b,o)∈qE I h:=List.mem_filterMap.mpr ⟨b,J,by rw[e];rfl⟩
theorem Fo {I:List Addr}{h:Heap}{p:Addr × Obj}(hp:p∈qE I h):p.1∈I/\h.get? p.1=some p.2:=by
 obtain⟨b,J,e⟩:=List.mem_filterMap.mp hp
 cases q:h.get? b with
 |none=>rw[q] at e;cases e
 |some o=>
  rw[q] at e;have L:(b,o)=p:=Option.some.inj e;subst L;exact⟨J,q⟩
theorem Inv.pinned {pins:List (Addr × Obj)}{σ:St}{H:Hp}{s:Shared}{J:List Addr}(I:Inv X pins σ H s)(Y:∀b∈J,iK X pins H b)(ho:∀b∈J,∃o,s.heap.get? b=some o/\∀v,o.data≠ .cell v):Inv X (pins++qE J s.heap) σ H s:=
 I.my λp hp=>(List.mem_append.mp hp).elim (λz=>I.pin p (Q08 _ z)) λz=>by
   obtain⟨L,e⟩:=Fo z;obtain⟨f0,f1,f2,_⟩:=Y p.1 L;obtain⟨o,U,d⟩:=ho p.1 L;rw[e] at U;cases U;exact⟨e,f0,f1,f2,d⟩
theorem Inv.lh {pins pl:List (Addr × Obj)}{σ:St}{H:Hp}{s:Shared}(I:Inv X (pins++pl) σ H s):Inv X pins σ H s:=I.my λp hp=>I.pin p (Q08 _ (Q0s _ hp))
theorem jc {iter:Expr}{body:List Stmt}{wi:TI}{g:TG}{tb:TS}{pos:Pos}(hp:PassesOwn (model X.prog X.w) X.A X.env X.xe)(hc:X.calm=true)(hi:PI X tg iter wi)(hg:PG X tg g)(U:iN X body tb)
 (hs:∀x,foldedSetIterable iter X.env x=pure x:=by intro _;rfl):PS X (.For tg iter body [] pos) (Fn wi g tb):=by
 intro pins s σ H D I h;refine wpAny_For (fk (hi pins s σ H _ I h) λv s1 h1=>fk h1 λal s2 h2=>?_) hs;obtain⟨it,fp,tn,J,H2,e,I2,T,ah,f2,W,⟨m0,w0⟩,turn⟩:=h2;subst e;have ac:∀{H':Hp},(∀b∈fp,H' b=none)->∀b∈fp,iK X pins H' b:=λhn b U=>⟨hn b U,(f2 b U).2⟩;refine codeAny_forLoop_any (λn s'=>∃i aa H',Inv X pins aa H' s'/\tn i s'.heap/\(∀b∈fp,H' b=none)/\W i n aa H') ?_ m0 ⟨0,σ,H2,I2,ah,λb U=>(f2 b U).1,w0⟩;intro n s3 zq;obtain⟨i,ab,H3,I3,af,ag,w3⟩:=zq;rcases turn i n ab H3 w3 with⟨stop,qn⟩|⟨go,N,hN,step⟩
 . refine wpAny_passesOwn hp (fk (T.done X rfl rfl rfl hc i pins s3 ab H3 X.xe I3 (ac ag) af stop) λr s4 ⟨hr,I4⟩=>?_);subst hr;exact wpAny_execs_nil ⟨ab,H3,I4,qn⟩
 . refine wpAny_passesOwn hp (fk (T.item X rfl rfl rfl hc i pins s3 ab H3 X.xe I3 (ac ag) af go) λr s4 ⟨u,hr,h4⟩=>?_);subst hr;refine wpAny_passesOwn hp (fk h4 λ_ s5 zq=>?_);obtain⟨x,H5,I5,r5,y5,ae,ai⟩:=zq;have aj:=I5.pinned (ac ai) (T.obj _ _ ae);refine wpAny_passesOwn hp (fk (hg _ s5 ab H5 x u _ aj r5 (step x H5 y5)) λ_ s6 zq=>?_);obtain⟨ak,H6,I6,q6⟩:=zq;refine wpAny_passesOwn hp (fk (U _ s6 ak H6 _ I6 q6) λf s7 q7=>?_)
   have again:∀{L:St} {Y:Hp},Inv X (pins++qE fp s5.heap) L Y s7->N L Y->∃m,m<n/\∃i aa H',Inv X pins aa H' s7/\tn i s7.heap/\(∀b∈fp,H' b=none)/\W i m aa H':=λ{L Y} I7 n7=>by
    obtain⟨m',hm,w7⟩:=hN L Y n7;refine⟨m',hm,i+1,L,Y,I7.lh,T.keep _ _ _ ae λb U o e=>(I7.pin (b,o) (Q08 _ (Q08 _ (o8 U e)))).1,λb U=>?_,w7⟩;obtain⟨o,e,d⟩:=T.obj _ _ ae b U;exact(I7.pin (b,o) (Q08 _ (Q08 _ (o8 U e)))).2.1
   cases f with
   |next=>obtain⟨L,Y,I7,n7⟩:=q7;exact again I7 n7
   |cont=>obtain⟨L,Y,I7,n7⟩:=q7;exact again I7 n7
   |brk=>obtain⟨L,Y,I7,q7⟩:=q7;exact⟨L,Y,I7.lh,q7⟩
   |ret v=>obtain⟨x7,L,Y,I7,r7,q7⟩:=q7;exact⟨x7,L,Y,I7.lh,r7,q7⟩
end
theorem z9 {K:PySem.W.Frag}{a:Addr}{xs:List V}{g:TG}{tb:TS}{D:Ends}{σ:St}{H:Hp}(Pv:Nat->St->Hp->Prop)(Y:Pv 0 σ H)(hl:∀i σ H,i<=xs.length->Pv i σ H->d_ K H a xs)
 (hs:∀i x σ H,xs[i]? =some x->Pv i σ H->g x σ H λI H2=>tb { D with nx:=Pv (i+1),ct:=Pv (i+1),bk:=D.nx } I H2) (hd:∀σ H,Pv xs.length σ H->D.nx σ H):
 ∃W:Nat->Nat->St->Hp->Prop,(∃m,W 0 m σ H)/\∀i m σ H,W i m σ H->
  ((nO K a).stop i H/\D.nx σ H)\/((nO K a).go i H/\∃N:St->Hp->Prop,(∀J H',N J H'->∃U,U<m/\W (i+1) U J H')/\∀x H',(nO K a).jU i H x H'->g x σ H' λI H2=>tb { D with nx:=N,ct:=N,bk:=D.nx } I H2):=by
 refine⟨λi m σ H=>m=xs.length - i/\i<=xs.length/\Pv i σ H,⟨xs.length,by simp,Q07 _,Y⟩,?_⟩;rintro i m σ H ⟨rfl,hi,p⟩;have q:=hl i σ H hi p;by_cases L:i<xs.length
 . refine .inr ⟨⟨xs,xs[i],q,by simp[L]⟩,Pv (i+1),λJ H' p'=>⟨xs.length - (i+1),by omega,rfl,L,p'⟩,λx H' y=>?_⟩;obtain⟨e,y⟩:=y;subst e;exact hs i x σ _ (y xs q) p
 . have e:i=xs.length:=by omega
   subst e;exact .inl ⟨⟨xs,q,Q00 _⟩,hd σ H p⟩
theorem qF {K:PySem.W.Frag}{a:Addr}{xs:List V}{g:TG}{tb:TS}{D:Ends}{σ:St}{H:Hp}(Pv:Nat->St->Hp->Prop)(Y:Pv 0 σ H)(hl:∀i σ H,i<=xs.length->Pv i σ H->eX K H a xs)
 (hs:∀i x σ H,xs[i]? =some x->Pv i σ H->g x σ H λI H2=>tb { D with nx:=Pv (i+1),ct:=Pv (i+1),bk:=D.nx } I H2) (hd:∀σ H,Pv xs.length σ H->D.nx σ H):
 ∃W:Nat->Nat->St->Hp->Prop,(∃m,W 0 m σ H)/\∀i m σ H,W i m σ H->
  ((nQ K a).stop i H/\D.nx σ H)\/((nQ K a).go i H/\∃N:St->Hp->Prop,(∀J H',N J H'->∃U,U<m/\W (i+1) U J H')/\∀x H',(nQ K a).jU i H x H'->g x σ H' λI H2=>tb { D with nx:=N,ct:=N,bk:=D.nx } I H2):=by
 refine⟨λi m σ H=>m=xs.length - i/\i<=xs.length/\Pv i σ H,⟨xs.length,by simp,Q07 _,Y⟩,?_⟩;rintro i m σ H ⟨rfl,hi,p⟩;have q:=hl i σ H hi p;by_cases L:i<xs.length
 . refine .inr ⟨⟨xs,xs[i],q,by simp[L]⟩,Pv (i+1),λJ H' p'=>⟨xs.length - (i+1),by omega,rfl,L,p'⟩,λx H' y=>?_⟩;obtain⟨e,y⟩:=y;subst e;exact hs i x σ _ (y xs q) p
 . have e:i=xs.length:=by omega
   subst e;exact .inl ⟨⟨xs,q,Q00 _⟩,hd σ H p⟩
theorem lQ {lo:Int}{n:Nat}{g:TG}{tb:TS}{D:Ends}{σ:St}{H:Hp}(Pv:Nat->St->Hp->Prop)(Y:Pv 0 σ H)
 (hs:∀i σ H,i<n->Pv i σ H->g (.int (lo+i)) σ H λI H2=>tb { D with nx:=Pv (i+1),ct:=Pv (i+1),bk:=D.nx } I H2) (hd:∀σ H,Pv n σ H->D.nx σ H):
 ∃W:Nat->Nat->St->Hp->Prop,(∃m,W 0 m σ H)/\∀i m σ H,W i m σ H->
  ((mD lo n).stop i H/\D.nx σ H)\/((mD lo n).go i H/\∃N:St->Hp->Prop,(∀J H',N J H'->∃U,U<m/\W (i+1) U J H')/\∀x H',(mD lo n).jU i H x H'->g x σ H' λI H2=>tb { D with nx:=N,ct:=N,bk:=D.nx } I H2):=by
 refine⟨λi m σ H=>m=n - i/\i<=n/\Pv i σ H,⟨n,by simp,Q07 _,Y⟩,?_⟩;rintro i m σ H ⟨rfl,hi,p⟩;by_cases L:i<n
 . refine .inr ⟨L,Pv (i+1),λJ H' p'=>⟨n - (i+1),by omega,rfl,L,p'⟩,λx H' y=>?_⟩;obtain⟨e,y⟩:=y;subst e y;exact hs i σ _ L p
 . have e:i=n:=by omega
   subst e;exact .inl ⟨Q00 _,hd σ H p⟩
noncomputable abbrev R2:=V->V->Hp->VK->Prop
def g8 (X:Cx) (f:Value->Value->Sem Value) (r:R2):Prop:=
 ∀(pins:List (Addr × Obj)) (s:Shared) (σ:St) (H:Hp) (x y:V) (v u:Value) (Q:VK),Inv X pins σ H s->RelV x v->RelV y u->r x y H Q->
  wpAny (model X.prog X.w) X.A (f v u) (EP X pins σ Q) X.xe s
def tT (X:Cx) (f:Value->Sem Value) (r:V->Hp->VK->Prop):Prop:=
 ∀(pins:List (Addr × Obj)) (s:Shared) (σ:St) (H:Hp) (x:V) (v:Value) (Q:VK),Inv X pins σ H s->RelV x v->r x H Q->
  wpAny (model X.prog X.w) X.A (f v) (EP X pins σ Q) X.xe s
def jG (X:Cx) (f:Value) (r:List V->Hp->VK->Prop):Prop:=
 ∀(pins:List (Addr × Obj)) (s:Shared) (σ:St) (H:Hp) (xs:List V) (us:List Value) (Q:VK),Inv X pins σ H s->Vals xs us->r xs H Q->
  wpAny (model X.prog X.w) X.A (call f us) (EP X pins σ Q) X.xe s
def gI (r:R2) (ta tb:TE):TE:=λσ H Q=>ta σ H λx H1=>tb σ H1 λy H2=>r x y H2 Q
def Fp (r:V->Hp->VK->Prop) (ta:TE):TE:=λσ H Q=>ta σ H λx H1=>r x H1 Q
def rI (C:Int->Int->Prop) (g:Int->Int->V):R2:=λx y H Q=>∃i j,x=.int i/\y=.int j/\C i j/\Q (g i j) H
def mG (g:Int->Int->V):R2:=λx y H Q=>∃i j,x=.int i/\y=.int j/\Q (g i j) H
def rU (g:Int->V):V->Hp->VK->Prop:=λx H Q=>∃i,x=.int i/\Q (g i) H
section
variable {X:Cx}{a b c:Expr}{ta tb tc:TE}{pos:Pos}
theorem tU (Y:PE X a ta)(hb:PE X b tb){pins:List (Addr × Obj)}{s:Shared}{σ:St}{H:Hp}{R:V->V->Hp->Prop}(I:Inv X pins σ H s)
 (h:ta σ H λx H1=>tb σ H1 λy H2=>R x y H2) {Q:Value->Shared->Prop} {f:Value->Value->Sem Value}
 (hf:∀v u U x y H2,Inv X pins σ H2 U->RelV x v->RelV y u->R x y H2->wpAny (model X.prog X.w) X.A (f v u) Q X.xe U):
 wpAny (model X.prog X.w) X.A (eval a X.env) (λv J=>wpAny (model X.prog X.w) X.A (eval b X.env) (λu L=>wpAny (model X.prog X.w) X.A (f v u) Q X.xe L) X.xe J) X.xe s:=by
 refine fk (Y pins s σ H _ I h) λv s1 zq=>?_;obtain⟨x,H1,I1,r1,q1⟩:=zq;refine fk (hb pins s1 σ H1 _ I1 q1) λu U zq=>?_;obtain⟨y,H2,I2,r2,q2⟩:=zq;exact hf v u U x y H2 I2 r1 r2 q2
theorem eY {op:Operator}{r:R2}(J:g8 X (binaryOp op) r)(L:PE X a ta)(U:PE X b tb):PE X (.BinOp a op b pos) (gI r ta tb):=by
 intro pins s σ H Q I h;exact wpAny_BinOp (tU L U I h λv u Y x y H2 I2 rx ry q=>J pins Y σ H2 x y v u Q I2 rx ry q)
theorem z_ {op:UnaryOp}{r:V->Hp->VK->Prop}(J:tT X (unaryOp op) r)(L:PE X a ta):PE X (.UnaryOp op a pos) (Fp r ta):=by
 intro pins s σ H Q I h;exact UnaryOp_ (fk (L pins s σ H _ I h) λv U ⟨x,H1,Y,r1,q1⟩=>J pins U σ H1 x v Q Y r1 q1)
theorem qG {f:Value->Value->Sem Value}{C:Int->Int->Prop}{g:Int->Int->Int}
 (rule:∀(i j:Int) (t u:Tok) (s:Shared) (Q:Value->Shared->Prop) (E:Value->Shared->Prop),C i j->Q (.int (g i j) s.toks) { s with toks:=s.toks+1 }->wpAny (model X.prog X.w) X.A (f (.int i t) (.int j u)) Q E s):
 g8 X f (rI C λi j=>.int (g i j)):=by
 intro pins s σ H x y v u Q I J L h;obtain⟨i,j,rfl,rfl,hc,q⟩:=h;obtain⟨t,rfl⟩:=J;obtain⟨t',rfl⟩:=L;exact rule i j t t' s _ _ hc ⟨.int (g i j),H,I.tok _,⟨_,rfl⟩,q⟩
theorem Aa {f:Value->Value->Sem Value}{g:Int->Int->Int}
 (rule:∀(i j:Int) (t u:Tok) (s:Shared) (Q:Value->Shared->Prop) (E:Value->Shared->Prop),Q (.int (g i j) s.toks) { s with toks:=s.toks+1 }->wpAny (model X.prog X.w) X.A (f (.int i t) (.int j u)) Q E s):
 g8 X f (mG λi j=>.int (g i j)):=by
 intro pins s σ H x y v u Q I J L h;obtain⟨i,j,rfl,rfl,q⟩:=h;obtain⟨t,rfl⟩:=J;obtain⟨t',rfl⟩:=L;exact rule i j t t' s _ _ ⟨.int (g i j),H,I.tok _,⟨_,rfl⟩,q⟩
theorem tV {f:Value->Value->Sem Value}{g:Int->Int->Bool}
 (rule:∀(i j:Int) (t u:Tok) (s:Shared) (Q:Value->Shared->Prop) (E:Value->Shared->Prop),Q (.bool (g i j)) s->wpAny (model X.prog X.w) X.A (f (.int i t) (.int j u)) Q E s):
 g8 X f (mG λi j=>.bl (g i j)):=by
 intro pins s σ H x y v u Q I J L h;obtain⟨i,j,rfl,rfl,q⟩:=h;obtain⟨t,rfl⟩:=J;obtain⟨t',rfl⟩:=L;exact rule i j t t' s _ _ ⟨.bl (g i j),H,I,rfl,q⟩
def Fq (i j:Int):Prop:=0<j/\j<1073741824
def tW (i j:Int):Prop:=0<=j/\j<=1000000/\i.natAbs<2 ^ 64
def tX (i j:Int):Prop:=(-(2 ^ 64)<i/\i<2 ^ 64)\/(-(2 ^ 64)<j/\j<2 ^ 64)
theorem tX.ok {i j:Int}(h:tX i j):IntMulOk i j:=by
 rcases h with⟨h1,h2⟩|⟨h1,h2⟩
 . exact .of_left (intBits_le_64 h1 h2)
 . exact .of_right (intBits_le_64 h1 h2)
theorem iq:g8 X (binaryOp .Add) (mG λi j=>.int (i+j)):=Aa λ_ _ _ _ _ _ _ q=>add_int q
theorem jd:g8 X (binaryOp .Sub) (mG λi j=>.int (i - j)):=Aa λ_ _ _ _ _ _ _ q=>sub_int q
theorem lq:g8 X (binaryOp .Mult) (rI tX λi j=>.int (i * j)):=qG λ_ _ _ _ _ _ _ hc q=>mul_int q hc.ok
theorem gJ:g8 X (binaryOp .FloorDiv) (rI Fq λi j=>.int (i / j)):=qG λi j _ _ _ _ _ hc q=>by
 have h1:(0:Int)<j:=hc.1;have h2:j<1073741824:=hc.2;exact floordiv_int (by omega) (by rw[Int.fdiv_eq_ediv_of_nonneg i (by omega)];exact q) (.inl (PyProof.noPylong_small (by omega)))
theorem fM:g8 X (binaryOp .Mod) (rI (λ_ j=>0<j) λi j=>.int (i % j)):=qG λi j _ _ _ _ _ hc q=>by
 have h1:(0:Int)<j:=hc;exact mod_int' (by omega) (by rw[Int.fmod_eq_emod_of_nonneg i (by omega)];exact q)
theorem o9:g8 X (binaryOp .Pow) (rI tW λi j=>.int (i ^ j.toNat)):=qG λ_ _ _ _ _ _ _ hc q=>pow_int_small hc.1 hc.2.1 hc.2.2 q
theorem Ft {f:Value->Sem Value}{g:Int->Int}
 (rule:∀(i:Int) (t:Tok) (s:Shared) (Q:Value->Shared->Prop) (E:Value->Shared->Prop),Q (.int (g i) s.toks) { s with toks:=s.toks+1 }->wpAny (model X.prog X.w) X.A (f (.int i t)) Q E s):
 tT X f (rU λi=>.int (g i)):=by
 intro pins s σ H x v Q I J h;obtain⟨i,rfl,q⟩:=h;obtain⟨t,rfl⟩:=J;exact rule i t s _ _ ⟨.int (g i),H,I.tok _,⟨_,rfl⟩,q⟩
theorem Ab:tT X (unaryOp .USub) (rU λi=>.int (-i)):=Ft λ_ _ _ _ _ q=>neg_int q
end
noncomputable def Ac:V->V->Bool
 | .non,.non=>true| .non,.int _=>true| .int _,.non=>true| .non,.bl _=>true| .bl _,.non=>true| .non,.str _=>true| .str _,.non=>true
 | .int _,.int _=>true| .bl _,.bl _=>true| .str _,.str _=>true| .jQ _,.jQ _=>true
 | .int _,.str _=>true| .str _,.int _=>true| .bl _,.str _=>true| .str _,.bl _=>true
 |_,_=>false
def lr:R2:=λx y H Q=>Ac x y=true/\Q (.bl (decide (x=y))) H
def Fu:R2:=λx y H Q=>Ac x y=true/\Q (.bl (!decide (x=y))) H
theorem Ad {i j:Int}:decide (V.int i=V.int j)=(i == j):=by
 rw[Bool.eq_iff_iff];simp
theorem Ae {i j:Bool}:decide (V.bl i=V.bl j)=(i == j):=by
 rw[Bool.eq_iff_iff];simp
theorem Af {i j:Str}:decide (V.str i=V.str j)=(i == j):=by
 rw[Bool.eq_iff_iff];simp
theorem Ag {i j:Array UInt8}:decide (V.jQ i=V.jQ j)=(i.toList == j.toList):=by
 rw[Bool.eq_iff_iff]
 cases i
 cases j;simp
section
variable {X:Cx}{a b c:Expr}{ta tb tc:TE}{pos:Pos}
theorem gU {pins:List (Addr × Obj)}{σ:St}{H:Hp}{s:Shared}{Q:VK}{k J:Bool}(I:Inv X pins σ H s)(q:Q (.bl k) H)(e:k=J):EP X pins σ Q (.bool J) s:=by
 subst e;exact⟨.bl k,H,I,rfl,q⟩
theorem gg:g8 X (compareOp .Eq) lr:=by
 intro pins s σ H x y v u Q I U J h;obtain⟨L,q⟩:=h
 cases x with
 |non=>
  cases U
  cases y with
  |non=>cases J;exact PySem.EqNone.eq_none_none (gU I q (by simp))
  |bl j=>cases J;exact PySem.EqNone.eq_none_bool (gU I q (by simp))
  |int j=>obtain⟨t',rfl⟩:=J;exact PySem.EqNone.eq_none_int (gU I q (by simp))
  |str j=>obtain⟨t',rfl⟩:=J;exact PySem.EqNone.eq_none_str (gU I q (by simp))
  |_=>exact absurd (show false=true from L) Bool.false_ne_true
 |bl i=>
  cases U
  cases y with
  |non=>cases J;exact PySem.EqNone.eq_bool_none (gU I q (by simp))
  |bl j=>cases J;exact eq_bool (gU I q Ae)
  |str j=>obtain⟨t',rfl⟩:=J;exact PySem.EqMixed.eq_bool_str (gU I q (by simp))
  |_=>exact absurd (show false=true from L) Bool.false_ne_true
 |int i=>
  obtain⟨t,rfl⟩:=U
  cases y with
  |non=>cases J;exact PySem.EqNone.eq_int_none (gU I q (by simp))
  |int j=>obtain⟨t',rfl⟩:=J;exact eq_int (gU I q Ad)
  |str j=>obtain⟨t',rfl⟩:=J;exact PySem.EqMixed.eq_int_str (gU I q (by simp))
  |_=>exact absurd (show false=true from L) Bool.false_ne_true
 |str i=>
  obtain⟨t,rfl⟩:=U
  cases y with
  |non=>cases J;exact PySem.EqNone.eq_str_none (gU I q (by simp))
  |bl j=>cases J;exact PySem.EqMixed.eq_str_bool (gU I q (by simp))
  |int j=>obtain⟨t',rfl⟩:=J;exact PySem.EqMixed.eq_str_int (gU I q (by simp))
  |str j=>obtain⟨t',rfl⟩:=J;exact eq_str (gU I q Af)
  |_=>exact absurd (show false=true from L) Bool.false_ne_true
 |jQ i=>
  obtain⟨t,rfl⟩:=U
  cases y with
  |jQ j=>obtain⟨t',rfl⟩:=J;exact W.eq_bytes (gU I q Ag)
  |_=>exact absurd (show false=true from L) Bool.false_ne_true
 |_=>cases y <;> exact absurd (show false=true from L) Bool.false_ne_true
theorem jV:g8 X (compareOp .NotEq) Fu:=by
 intro pins s σ H x y v u Q I U J h;obtain⟨L,q⟩:=h
 cases x with
 |non=>
  cases U
  cases y with
  |non=>cases J;exact PySem.EqNone.ne_none_none (gU I q (by simp))
  |bl j=>cases J;exact PySem.EqNone.ne_none_bool (gU I q (by simp))
  |int j=>obtain⟨t',rfl⟩:=J;exact PySem.EqNone.ne_none_int (gU I q (by simp))
  |str j=>obtain⟨t',rfl⟩:=J;exact PySem.EqNone.ne_none_str (gU I q (by simp))
  |_=>exact absurd (show false=true from L) Bool.false_ne_true
 |bl i=>
  cases U
  cases y with
  |non=>cases J;exact PySem.EqNone.ne_bool_none (gU I q (by simp))
  |bl j=>cases J;exact ne_bool (gU I q (congrArg not Ae))
  |str j=>obtain⟨t',rfl⟩:=J;exact PySem.EqMixed.ne_bool_str (gU I q (by simp))
  |_=>exact absurd (show false=true from L) Bool.false_ne_true
 |int i=>
  obtain⟨t,rfl⟩:=U
  cases y with
  |non=>cases J;exact PySem.EqNone.ne_int_none (gU I q (by simp))
  |int j=>obtain⟨t',rfl⟩:=J;exact ne_int (gU I q (congrArg not Ad))
  |str j=>obtain⟨t',rfl⟩:=J;exact PySem.EqMixed.ne_int_str (gU I q (by simp))
  |_=>exact absurd (show false=true from L) Bool.false_ne_true
 |str i=>
  obtain⟨t,rfl⟩:=U
  cases y with
  |non=>cases J;exact PySem.EqNone.ne_str_none (gU I q (by simp))
  |bl j=>cases J;exact PySem.EqMixed.ne_str_bool (gU I q (by simp))
  |int j=>obtain⟨t',rfl⟩:=J;exact PySem.EqMixed.ne_str_int (gU I q (by simp))
  |str j=>obtain⟨t',rfl⟩:=J;exact ne_str (gU I q (congrArg not Af))
  |_=>exact absurd (show false=true from L) Bool.false_ne_true
 |jQ i=>
  obtain⟨t,rfl⟩:=U
  cases y with
  |jQ j=>obtain⟨t',rfl⟩:=J;exact W.ne_bytes (gU I q (congrArg not Ag))
  |_=>exact absurd (show false=true from L) Bool.false_ne_true
 |_=>cases y <;> exact absurd (show false=true from L) Bool.false_ne_true
theorem qH:g8 X (compareOp .Lt) (mG λi j=>.bl (decide (i<j))):=tV λ_ _ _ _ _ _ _ q=>lt_int q
theorem Ah:g8 X (compareOp .LtE) (mG λi j=>.bl (decide (i<=j))):=tV λ_ _ _ _ _ _ _ q=>le_int q
theorem mH:g8 X (compareOp .Gt) (mG λi j=>.bl (decide (j<i))):=tV λ_ _ _ _ _ _ _ q=>gt_int q
theorem qI:g8 X (compareOp .Is) (λx y H Q=>y=.non/\Q (.bl (decide (x=.non))) H):=by
 intro pins s σ H x y v u Q I J L h;obtain⟨rfl,q⟩:=h
 cases L;refine is_none_gen (gU I q ?_)
 cases x <;> first
  |(cases J;rfl)
  |(obtain⟨t,rfl⟩:=J;rfl)
theorem mI:g8 X (compareOp .IsNot) (λx y H Q=>y=.non/\Q (.bl (!decide (x=.non))) H):=by
 intro pins s σ H x y v u Q I J L h;obtain⟨rfl,q⟩:=h
 cases L;refine isnot_none_gen (gU I q ?_)
 cases x <;> first
  |(cases J;rfl)
  |(obtain⟨t,rfl⟩:=J;rfl)
theorem fv (b:Expr){op:CmpOp}(h:op≠ .In:=by decide)(h2:op≠ .NotIn:=by decide):behindInMarks op b=false:=by
 have I:(op == CmpOp.In)=false:=by cases op <;> first|rfl|exact absurd rfl h
 have J:(op == CmpOp.NotIn)=false:=by cases op <;> first|rfl|exact absurd rfl h2
 cases b <;> simp[behindInMarks,I,J]
theorem lU {op:CmpOp}{r:R2}(J:g8 X (compareOp op) r)(L:PE X a ta)(U:PE X b tb)(Y:behindInMarks op b=false):PE X (.Compare a [op] [b] pos) (gI r ta tb):=by
 intro pins s σ H Q I h;exact wpAny_Compare1 (tU L U I h λv u s2 x y H2 I2 rx ry q=>J pins s2 σ H2 x y v u Q I2 rx ry q) Y
def kK (t:TE):TT:=λσ H Q=>t σ H λx H'=>∃k,x=.bl k/\Q k H'
theorem fw {op:CmpOp}{r:R2}(J:g8 X (compareOp op) r)(L:PE X a ta)(U:PE X b tb)(Y:behindInMarks op b=false):PT X (.Compare a [op] [b] pos) (kK (gI r ta tb)):=by
 intro pins s σ H Q I h
 refine wpAny_isTrue_Compare1 (fk (L pins s σ H _ I h) λv s1 ⟨x,H1,I1,r1,q1⟩=>fk (U pins s1 σ H1 _ I1 q1) λu s2 ⟨y,H2,I2,r2,q2⟩=>
  fk (J pins s2 σ H2 x y v u _ I2 r1 r2 q2) λc s3 ⟨z,H3,I3,r3,k,e,q3⟩=>?_) Y
 subst e
 cases r3;exact wpAny_truthy_bool ⟨H3,I3,q3⟩
theorem nR:(sizeLine:Nat)<2 ^ 63:=by rw[sizeLine_eq];decide
theorem o_:g8 X (binaryOp .Add) (λx y H Q=>∃i j,x=.str i/\y=.str j/\i.length+j.length<=sizeLine/\Q (.str (i++j)) H):=by
 intro pins s σ H x y v u Q I J L h;obtain⟨i,j,rfl,rfl,U,q⟩:=h;obtain⟨t,rfl⟩:=J;obtain⟨t',rfl⟩:=L;exact add_str (λt' tk=>⟨.str (i++j),H,I.tok _,⟨_,rfl⟩,q⟩) U
theorem vals1 {x:V}{us:List Value}(r:Vals [x] us):∃u,us=[u]/\RelV x u:=by
 cases r with
 |cons I J=>cases J;exact(Zr rfl I)
theorem vals2 {x y:V}{us:List Value}(r:Vals [x,y] us):∃u I,us=[u,I]/\RelV x u/\RelV y I:=by
 cases r with
 |cons J L=>
  cases L with
  |cons U Y=>cases Y;exact⟨_,Zr rfl ⟨J,U⟩⟩
end
structure mJ (h:Heap) (x dx C:Addr) (mA:Str->Option Value):Prop where
 obj:h.get? x=some (W.instObj C dx)
 ns:h.Ns1 dx mA
 ne:dx≠x
theorem Fv {h:Heap}{dx:Addr}{mA:Str->Option Value}(n:h.Ns1 dx mA):∃J,h.get? dx=some J/\∀name,W.lookIn name J=some (mA name):=by
 obtain⟨o,es,ep,L,U,Y,_,hm⟩:=n;refine⟨o,L,λname=>?_⟩;have e:=hm name;unfold nsFind findBy at e;rw[<-Q2t] at e;unfold W.lookIn;rw[U];dsimp only;split
 . rename_i y q;rw[q] at e;exact congrArg some e
 . rename_i q;rw[q] at e
   have a:es.toList.any (·.refKey)=false:=by
    rw[List.any_eq_false];intro y hy;obtain⟨z,t,I⟩:=Y y (Array.mem_toList_iff.mp hy);simp[DictEntry.refKey,I]
   have a':¬es.toList.any (·.refKey)=true:=by rw[a];exact Bool.false_ne_true
   rw[if_neg a'];exact congrArg some e
theorem mJ.look {h:Heap}{x dx C:Addr}{mA:Str->Option Value}(I:mJ h x dx C mA):∃J,W.InstAt h x (W.instObj C dx) C (some J)/\∀name,W.lookIn name J=some (mA name):=
 let⟨J,L,hl⟩:=Fv I.ns
 ⟨J,⟨I.obj,rfl,rfl,L⟩,hl⟩
section
variable {prog:Program}{w:World}{A:Around}{E:Value->Shared->Prop}{s:Shared}{K:W.Frag}{x dx C f:Addr}{mA:Str->Option Value}{name:Str}{v:Value}
theorem get_map {L:Bool}{Q:Value->Shared->Prop}(X:K.In s.heap)(I:mJ s.heap x dx C mA)(Y:W.plainGet K C name=true)(hh:W.hasDictIn K C=true)
 (ha:W.findIn K (.ref C) name=some none) (hv:mA name=some v) (U:W.handedIn v=true) (h:Q v { s with toks:=s.toks+1 }):
 wpAny (model prog w) A (getAttr (.ref x) name L) Q E s:=by
 obtain⟨od,J,hl⟩:=I.look;exact W.get_value X J (W.plainGet_of Y).1 (W.findObj_own hh ha rfl (by rw[hl,hv])) U h
theorem Fw {pl:Sem Bool}{Q:Value × List Value->Shared->Prop}(X:K.In s.heap)(I:mJ s.heap x dx C mA)(L:W.plainGet K C name=true)
 (U:W.findIn K (.ref C) name=some (some (.ref f))) (ht:W.isFn K (.ref f)=true) (Y:mA name=none) (h:Q (.ref f,[.ref x]) s):
 wpAny (model prog w) A (getMethod (.ref x) name pl) Q E s:=by
 obtain⟨od,J,hl⟩:=I.look;exact W.method_fn X J (W.plainGet_of L).1 (W.plainGet_of L).2 U (beq_iff_eq.mp ht) (by show(W.lookIn name od).map (·.isSome)=some false;rw[hl,Y];rfl) h
theorem Fx {ns:List Str}{Q:Unit->Shared->Prop}(X:K.In s.heap)(I:mJ s.heap x dx C mA)
 (hs:W.findIn K (.ref C) "__setattr__"=some (some (.builtin "object.__setattr__"))) (hp:W.plainOver K C=true) (ht:W.takerIn K C name=some none) (hh:W.hasDictIn K C=true)
 (hw:PySem.Within mA ns) (hsz:ns.length<=sizeLine)
 (h:∀h',mJ h' x dx C (λy=>if y=name then some v else mA y)->Heap.SameBut dx s.heap h'->Q () { s with heap:=h',toks:=s.toks+2 }):
 wpAny (model prog w) A (setAttr (.ref x) name v) Q E s:=by
 obtain⟨od,J,hl⟩:=I.look;refine W.set_plain X J hs (W.osa_open (s:={ s with toks:=s.toks+1 }) (r:=none) X J hp ht λb=>?_);obtain⟨cd,hc,Y⟩:=W.any_some hh;have hx:s.heap.get? x=some ⟨.ref C,some dx,.plain,#[]⟩:=I.obj;refine Q0 (Q0d (Q0 (Q0 (wpAny_loadPart hx (Q0 (W.Looks.here (s:={ s with toks:=s.toks+1 }) (W.looks_clsIn X hc) ?_))))));rw[Y];refine Q0d (a:=some dx) (Q0 (Q0d (Q0 ?_)));refine wpAny_nsSet1 (s:={ s with toks:=s.toks+1 }) I.ns λh' L U=>?_;obtain⟨oD,ae,af,aa,ab,ac⟩:=L.count (PySem.Within.cons name v hw);refine Q0 (wpAny_lookBehind aa (by rw[ab];exact pastItsLine_dict (Q0h ac (by rw[Q0g];omega))) ?_);exact Q0d (h _ ⟨(U.2 _ (Ne.symm I.ne)).trans I.obj,L,I.ne⟩ U)
theorem Fy {R:Result->Shared->Prop}{vs:List Value}{I:List (Str × Value)}(X:K.In s.heap)(J:W.makesIn K C=true)
 (hi:W.findIn K (.ref C) "__init__"=some (some (.ref f))) (L:W.typeIn K (.ref f)=some (.type "function"))
 (h:codeAny (model prog w) (A.under (.builtin "type.__call__" ⟨.ref C::vs,I⟩)) (.call (.ref f) ⟨.ref (s.heap.objs.size+1)::vs,I⟩) (W.InitBack (s.heap.objs.size+1) R)
   { s with heap:=(s.heap.push W.emptyDict).push (W.instObj C s.heap.objs.size) }):
 codeAny (model prog w) A (.call (.ref C) ⟨vs,I⟩) R s:=by
 obtain⟨U,g,d,t,os⟩:=s;exact W.make_core (W.makes_of X J) (W.looks_findIn X hi) (λself=>W.bind_fn X self L) (.inl rfl) h
end
noncomputable def i8 (f:Str) (v:V):List (Str × V)->List (Str × V)
 |[]=>[(f,v)]
 |(g,x)::r=>if g=f then(g,v)::r else(g,x)::i8 f v r
theorem Ai (f g:Str)(v:V):∀fs:List (Str × V),(i8 f v fs).lookup g=if g=f then some v else fs.lookup g
 |[]=>by
  show List.lookup g [(f,v)]=_;by_cases h:g=f
  . have I:(g == f)=true:=beq_iff_eq.mpr h;simp only[List.lookup,I,if_pos h]
  . have I:(g == f)=false:=beq_eq_false_iff_ne.mpr h;simp only[List.lookup,I,if_neg h]
 |(k,x)::r=>by
  have L:=Ai f g v r;rw[show i8 f v ((k,x)::r)=(if k=f then(k,v)::r else(k,x)::i8 f v r) from rfl];by_cases J:k=f
  . rw[if_pos J];by_cases h:g=k
    . have I:(g == k)=true:=beq_iff_eq.mpr h;simp only[List.lookup,I,if_pos (h.trans J)]
    . have I:(g == k)=false:=beq_eq_false_iff_ne.mpr h;simp only[List.lookup,I,if_neg (λe:g=f=>h (e.trans J.symm))]
  . rw[if_neg J];by_cases h:g=k
    . have I:(g == k)=true:=beq_iff_eq.mpr h;simp only[List.lookup,I,if_neg (λe:g=f=>J (h.symm.trans e))]
    . have I:(g == k)=false:=beq_eq_false_iff_ne.mpr h;simp only[List.lookup,I];exact L
theorem tY (f:Str)(v:V):∀fs:List (Str × V),f∈(i8 f v fs).map (·.1)/\∀g,g∈fs.map (·.1)->g∈(i8 f v fs).map (·.1)
 |[]=>⟨by simp[i8],λg h=>by simp at h⟩
 |(k,x)::r=>by
  obtain⟨J,L⟩:=tY f v r;rw[show i8 f v ((k,x)::r)=(if k=f then(k,v)::r else(k,x)::i8 f v r) from rfl];by_cases I:k=f
  . rw[if_pos I];subst I;exact⟨by simp,λg h=>by simpa using h⟩
  . rw[if_neg I];refine⟨?_,λg h=>?_⟩
    . rw[Q0x];exact Q0e _ J
    . rw[Q0x] at h ⊢;rcases List.mem_cons.mp h with e|e
      . exact List.mem_cons.mpr (.inl e)
      . exact Q0e _ (L g e)
theorem Aj (f:Str)(v:V):∀fs:List (Str × V),(i8 f v fs).length<=fs.length+1
 |[]=>by simp[i8]
 |(k,x)::r=>by
  have J:=Aj f v r;rw[show i8 f v ((k,x)::r)=(if k=f then(k,v)::r else(k,x)::i8 f v r) from rfl];by_cases I:k=f
  . rw[if_pos I,Q0g,Q0g];omega
  . rw[if_neg I,Q0g,Q0g];omega
theorem iM.some_of {v:V}{o:Option Value}(r:iM (some v) o):∃u,o=some u/\RelV v u:=by
 cases o with
 |none=>exact(show False from r).elim
 |some u=>exact⟨u,rfl,r⟩
theorem iM.none_of {o:Option Value}(r:iM none o):o=none:=by
 cases o with
 |none=>rfl
 |some u=>exact(show False from r).elim
theorem Ak {v:V}{u:Value}(r:RelV v u):W.handedIn u=true:=by
 cases v with
 |non=>cases(show u=Value.none from r);rfl
 |bl b=>cases(show u=Value.bool b from r);rfl
 |int i=>obtain⟨t,e⟩:=(show ∃t,u=Value.int i t from r);cases e;rfl
 |str x=>obtain⟨t,e⟩:=(show ∃t,u=Value.str x t from r);cases e;rfl
 |jQ b=>obtain⟨t,e⟩:=(show ∃t,u=Value.bytes b t from r);cases e;rfl
 |flt b=>obtain⟨t,e⟩:=(show ∃t,u=Value.float b t from r);cases e;rfl
 |ref a=>cases(show u=Value.ref a from r);rfl
 |ty n=>cases(show u=Value.type n from r);rfl
section
variable {P:Program}{w:World}{H H':Hp}{h h':Heap}{a C dx:Addr}{fs fs':List (Str × V)}
theorem qJ (I:gH P w H h)(e:H a=some (.ins C dx fs)):∃mA,mJ h a dx C mA/\(∀f,iM (fs.lookup f) (mA f))/\PySem.Within mA (fs.map (·.1))/\fs.length<=1000/\H dx=some (.own a):=by
 obtain⟨d,z,ne,J,mA,n,r,q⟩:=(show gR P w H h a (.ins C dx fs) from I a _ e);exact⟨mA,⟨J,n,ne⟩,r,q,z,d⟩
end
structure Cls (K:W.Frag) (C:Addr):Prop where
 pg:W.plainGet K C Str.empty=true
 hd:W.hasDictIn K C=true
 po:W.plainOver K C=true
 sa:W.findIn K (.ref C) "__setattr__"=some (some (.builtin "object.__setattr__"))
theorem Cls.get {K:W.Frag}{C:Addr}(c:Cls K C)(f:Str):W.plainGet K C f=true:=c.pg
def lu (K:W.Frag) (C:Addr) (f:Str):Prop:=W.findIn K (.ref C) f=some none
theorem lu.taker {K:W.Frag}{C:Addr}{f:Str}(n:lu K C f):W.takerIn K C f=some none:=by
 unfold W.takerIn;rw[show W.findIn K (.ref C) f=some none from n];rfl
structure Meth (K:W.Frag) (C:Addr) (m:Str) (f:Addr):Prop where
 at_:W.findIn K (.ref C) m=some (some (.ref f))
 fn:W.isFn K (.ref f)=true
 kp:W.keepIn K (.ref f)=true
section
variable {X:Cx}{pins:List (Addr × Obj)}{σ:St}{H:Hp}{s:Shared}{a C dx:Addr}{fs:List (Str × V)}{f:Str}{v:V}{A:Around}{E:Value->Shared->Prop}
theorem Fz {b:Bool}{Q:Value->Shared->Prop}(I:Inv X pins σ H s)(e:H a=some (.ins C dx fs))(c:Cls X.K C)(n:lu X.K C f)(l:fs.lookup f=some v)
 (h:∀u s',Inv X pins σ H s'->RelV v u->Q u s'):wpAny (model X.prog X.w) A (getAttr (.ref a) f b) Q E s:=by
 obtain⟨mA,O,r,_,_,_⟩:=qJ I.hok e;obtain⟨u,L,J⟩:=iM.some_of (v:=v) (o:=mA f) (by rw[<-l];exact r f);exact get_map I.gT O (c.get f) c.hd n L (Ak J) (h u _ (I.tok _) J)
theorem tZ {m:Str}{g:Addr}{pl:Sem Bool}{Q:Value × List Value->Shared->Prop}(I:Inv X pins σ H s)(e:H a=some (.ins C dx fs))(c:Cls X.K C)(k:Meth X.K C m g)(l:fs.lookup m=none)
 (h:Q (.ref g,[.ref a]) s):wpAny (model X.prog X.w) A (getMethod (.ref a) m pl) Q E s:=by
 obtain⟨mA,O,r,_,_,_⟩:=qJ I.hok e;have J:mA m=none:=iM.none_of (by rw[<-l];exact r m);exact Fw I.gT O (c.get m) k.at_ k.fn J h
theorem FC {y:V}{u:Value}{Q:Unit->Shared->Prop}(I:Inv X pins σ H s)(e:H a=some (.ins C dx fs))(c:Cls X.K C)(n:lu X.K C f)(hl:fs.length<1000)(Y:RelV y u)
 (h:∀s',Inv X pins σ (upd H a (.ins C dx (i8 f y fs))) s'->Q () s'):wpAny (model X.prog X.w) A (setAttr (.ref a) f u) Q E s:=by
 obtain⟨mA,O,r,L,_,U⟩:=qJ I.hok e;have hz:(fs.map (·.1)).length<=sizeLine:=by rw[Q03,sizeLine_eq];omega
 refine Fx I.gT O c.sa c.po n.taker c.hd L hz λh' J sb=>h _ ?_;have hd:∃o,h'.get? dx=some o:=let⟨o,_,_,e',_⟩:=J.ns;⟨o,e'⟩
 refine I.write (x:=a) (e:=dx) (by rw[e];exact True.intro) (.inr U) (λb q hb z=>(sb.2 b hb).trans z) hd ?_;refine⟨by rw[eU O.ne];exact U,?_,O.ne,J.obj,_,J.ns,λg=>?_,λg hg=>?_⟩
 . have:=Aj f y fs;omega
 . show iM ((i8 f y fs).lookup g) (if g=f then some u else mA g);rw[Ai];by_cases q:g=f
   . rw[if_pos q,if_pos q];exact Y
   . rw[if_neg q,if_neg q];exact r g
 . by_cases q:g=f
   . rw[q];exact(tY f y fs).1
   . refine(tY f y fs).2 g (L g λz=>hg ?_);show(if g=f then some u else mA g)=none;rw[if_neg q];exact z
theorem Inv.made (I:Inv X pins σ H s):Inv X pins σ (upd (upd H s.heap.objs.size (.own (s.heap.objs.size+1))) (s.heap.objs.size+1) (.ins C s.heap.objs.size []))
 { s with heap:=(s.heap.push W.emptyDict).push (W.instObj C s.heap.objs.size) }:=by
 have J:(s.heap.push W.emptyDict).get? s.heap.objs.size=some W.emptyDict:=Q0n s.heap rfl
 have L:((s.heap.push W.emptyDict).push (W.instObj C s.heap.objs.size)).get? (s.heap.objs.size+1)=some (W.instObj C s.heap.objs.size):=by
  have:=Q0n (s.heap.push W.emptyDict) (o:=W.instObj C s.heap.objs.size) rfl
  rwa [Q1q] at this
 have U:(s.heap.push W.emptyDict).Ns s.heap.objs.size (λ_=>none):=⟨W.emptyDict,#[],_,J,rfl,(λe Y=>absurd Y (by simp)),λ_=>rfl⟩;have I1:=I.laid (a:=s.heap.objs.size) (o:=.own (s.heap.objs.size+1)) (h':=s.heap.push W.emptyDict) (t':=s.toks) (λb u q=>Q0a _ q) (Q00 _) ⟨_,J⟩;refine I1.laid (a:=s.heap.objs.size+1) (o:=.ins C s.heap.objs.size []) (t':=s.toks) (λb u q=>Q0a _ q) (Q1r (Q1q _ _)) ?_;have ne:s.heap.objs.size≠s.heap.objs.size+1:=Q0c (Q1 _);refine⟨by rw[eU ne,eW],Q07 _,ne,L,λ_=>none,(Heap.Ns1.of_empty U).at λo q=>Q0a _ q,λ_=>True.intro,λy hy=>absurd rfl hy⟩
theorem Al {prog:Program}{w:World}{env:Env}{e:Expr}{f:Str}{pos:Pos}{s:Shared}{Q:Value->Shared->Prop}(J:attributeBase e f env (eval e env)=eval e env)
 (h:wpAny (model prog w) A (eval e env) (λo I=>wpAny (model prog w) A (getAttr o f true) Q E I) E s):wpAny (model prog w) A (eval (.Attribute e f pos) env) Q E s:=
 Attribute_any_ h (by rw[arm_eval_Attribute,J])
end
def Am (K:W.Frag) (ta:TE) (f:Str):TE:=λσ H Q=>ta σ H λx H1=>∃a C dx fs v,x=.ref a/\H1 a=some (.ins C dx fs)/\Cls K C/\lu K C f/\fs.lookup f=some v/\Q v H1
def FD (K:W.Frag) (ta tv:TE) (f:Str):TS:=λD σ H=>tv σ H λy H1=>ta σ H1 λx H2=>∃a C dx fs,x=.ref a/\H2 a=some (.ins C dx fs)/\Cls K C/\lu K C f/\fs.length<1000/\
 D.nx σ (upd H2 a (.ins C dx (i8 f y fs)))
section
variable {X:Cx}{o e value:Expr}{f:Str}{pos pos' tpos:Pos}{ta tv:TE}
theorem jW (J:PE X e ta)(L:attributeBase e f X.env (eval e X.env)=eval e X.env):PE X (.Attribute e f pos) (Am X.K ta f):=by
 intro pins s σ H Q I h;refine Al L (fk (J pins s σ H _ I h) λu s1 zq=>?_);obtain⟨x,H1,U,Y,a,C,dx,fs,v,ex,ea,c,n,l,q⟩:=zq;subst ex;obtain rfl:u=Value.ref a:=Y;exact Fz U ea c n l λu' s2 I2 ru=>⟨v,H1,I2,ru,q⟩
theorem t7 (J:PE X o ta)(L:PE X value tv)(U:swapsWith value (some (.Attribute o f pos')) pos.line X.env=pure false):PS X (.Assign [.Attribute o f pos'] value pos) (FD X.K ta tv f):=by
 intro pins s σ H D I h;refine plainObj_wpAny_Assign_Attribute (fk (L pins s σ H _ I h) λu Y ⟨y,H1,I1,ry,q⟩=>fk (J pins Y σ H1 _ I1 q) λov s2 zq=>?_) U;obtain⟨x,H2,I2,rx,a,C,dx,fs,ex,ea,c,n,l,q2⟩:=zq;subst ex;obtain rfl:ov=Value.ref a:=rx;exact FC I2 ea c n l ry λs3 I3=>⟨σ,_,I3,q2⟩
end
section
variable {X:Cx}{pins:List (Addr × Obj)}{σ:St}{H:Hp}{s:Shared}{A:Around}{E:Value->Shared->Prop}{Q:Value->Shared->Prop}{c:Value}{b:Bool}
inductive je (K:W.Frag) (H:Hp):V->Value->Prop where
 |non:je K H .non (.type "NoneType")
 |bl (x:Bool):je K H (.bl x) (.type "bool")
 |int (i:Int):je K H (.int i) (.type "int")
 |str (x:Str):je K H (.str x) (.type "str")
 |flt (x:UInt64):je K H (.flt x) (.type "float")
 |lst {a:Addr} {xs:List V} (e:H a=some (.lst xs)):je K H (.ref a) (.type "list")
 |i6 {a:Addr} {o:Obj} {xs:List V} (e:H a=some (.i6 o (.lst xs))):je K H (.ref a) (.type "list")
 |tup {a:Addr} {xs:List V} (e:H a=some (.tup xs)):je K H (.ref a) (.type "tuple")
 |dK {a:Addr} {kvs:List (Key × V)} (e:H a=some (.dK kvs)):je K H (.ref a) (.type "dict")
 |dT {a:Addr} {kvs:List (List Key × V)} (e:H a=some (.dT kvs)):je K H (.ref a) (.type "dict")
 |ins {a C dx:Addr} {fs:List (Str × V)} (e:H a=some (.ins C dx fs)) (cl:Cls K C) (ha:W.findIn K (.ref C) "__class__"=some (some (.builtin "object.__class__")))
   (hn:W.specialIn K (.builtin "object.__class__") "__get__"=some (some (.builtin "getset_descriptor.__get__"))) (htk:W.takesIn K (.builtin "object.__class__")=some true)
   (hm:W.mroIn K C (.type "object")=some true):je K H (.ref a) (.ref C)
theorem FE {x:V}{u t:Value}(I:Inv X pins σ H s)(L:RelV x u)(ty:je X.K H x t)(e:W.kitOne X.K t c=some b)(h:∀tk,Q (.bool b) { s with toks:=tk }):
 wpAny (model X.prog X.w) A (call (.builtin "isinstance") [u,c]) Q E s:=by
 cases ty with
 |non=>cases(show u=Value.none from L);exact W.kia_one W.kitx_none I.gT True.intro e (λz=>nomatch z) h
 |bl y=>cases(show u=Value.bool y from L);exact W.kia_one W.kitx_bool I.gT True.intro e (λz=>nomatch z) h
 |int i=>obtain⟨t,q⟩:=(show ∃t,u=Value.int i t from L);cases q;exact W.kia_one W.kitx_int I.gT True.intro e (λz=>nomatch z) h
 |str y=>obtain⟨t,q⟩:=(show ∃t,u=Value.str y t from L);cases q;exact W.kia_one W.kitx_str I.gT True.intro e (λz=>nomatch z) h
 |flt y=>obtain⟨t,q⟩:=(show ∃t,u=Value.float y t from L);cases q;exact W.kia_one W.kitx_float I.gT True.intro e (λz=>nomatch z) h
 |@lst a xs U=>
  cases(show u=Value.ref a from L);obtain⟨_,_,n,_,h1⟩:=(show gR X.prog X.w H s.heap a (.lst xs) from I.hok a _ U);exact W.kia_one W.kitx_list I.gT ⟨_,h1,rfl⟩ e (λz=>nomatch z) h
 |@i6 a ob xs U=>
  cases(show u=Value.ref a from L);obtain⟨_,_,_,n,_,h1⟩:=(show gR X.prog X.w H s.heap a (.i6 ob (.lst xs)) from I.hok a _ U);exact W.kia_one W.kitx_list I.gT ⟨_,h1,rfl⟩ e (λz=>nomatch z) h
 |@tup a xs U=>
  cases(show u=Value.ref a from L);obtain⟨_,_,_,p⟩:=(show gR X.prog X.w H s.heap a (.tup xs) from I.hok a _ U);obtain⟨o,h1,h2,_⟩:=p;exact W.kia_one W.kitx_tuple I.gT ⟨o,h1,h2⟩ e (λz=>nomatch z) h
 |@dK a kvs U=>
  cases(show u=Value.ref a from L);obtain⟨_,_,vs,_,p⟩:=(show gR X.prog X.w H s.heap a (.dK kvs) from I.hok a _ U);obtain⟨o,es,ep,h1,h2,_⟩:=p;exact W.kia_one W.kitx_dict I.gT ⟨o,h1,h2.1⟩ e (λz=>nomatch z) h
 |@dT a kvs U=>
  cases(show u=Value.ref a from L);obtain⟨_,_,xs,_,o,es,ep,h1,h2,_⟩:=(show gR X.prog X.w H s.heap a (.dT kvs) from I.hok a _ U);exact W.kia_one W.kitx_dict I.gT ⟨o,h1,h2.1⟩ e (λz=>nomatch z) h
 |@ins a C dx fs U cl ha hn Y hm=>
  cases(show u=Value.ref a from L);obtain⟨mA,O,_⟩:=qJ I.hok U;obtain⟨od,J,_⟩:=O.look;exact W.kia_one (W.kitx_own (cl.get _) cl.hd ha hn Y hm) I.gT J e (λz=>nomatch z) h
end
structure gy (k:Nat) (A:Around):Prop where
 hd:A.handled=none
 dp:A.depth+3 * k+5<recursionLimit
 un:A.units+16 * k+200<cLine
theorem gy.mono {j k:Nat}{A:Around}(r:gy k A)(h:j<=k):gy j A:=⟨r.hd,by have:=r.dp;omega,by have:=r.un;omega⟩
theorem gy.deeper {k:Nat}{A:Around}(r:gy (k+1) A)(env:Env):gy k (A.deeper env):=
 ⟨r.hd,by have:=r.dp;show A.depth+1+3 * k+5<_;omega,by have:=r.un;show A.units+3+16 * k+200<_;omega⟩
theorem gy.in1 {k:Nat}{A:Around}(r:gy (k+1) A):gy k A.in1:=
 ⟨r.hd,by have:=r.dp;show A.depth+3 * k+5<_;omega,by have:=r.un;show A.units+1+16 * k+200<_;omega⟩
theorem FF {A:Around}{C:Addr}{us:List Value}{I:List (Str × Value)}:(A.under (.builtin "type.__call__" ⟨.ref C::us,I⟩)).depth=A.depth+1:=by
 first|rfl|simp[Around.under,Code.weight,Code.isCreation,Code.isGuard,Code.isCaller,Code.frames,Code.isFrame,guardIds]
theorem FG {A:Around}{C:Addr}{us:List Value}{I:List (Str × Value)}:(A.under (.builtin "type.__call__" ⟨.ref C::us,I⟩)).units=A.units+1:=by
 first|rfl|simp[Around.under,Code.cUnits,Code.frames,Code.isFrame]
theorem gy.make {k:Nat}{A:Around}(r:gy (k+1) A)(C:Addr)(us:List Value)(I:List (Str × Value)):gy k (A.under (.builtin "type.__call__" ⟨.ref C::us,I⟩)):=
 ⟨r.hd,by have:=r.dp;rw[FF];omega,by have:=r.un;rw[FG];omega⟩
theorem gy.depth {k:Nat}{A:Around}(r:gy k A):A.depth<recursionLimit:=by have:=r.dp;omega
theorem gy.units {k:Nat}{A:Around}(r:gy k A):A.units+64<cLine:=by have:=r.un;omega
theorem gy.An {k:Nat}{A:Around}(r:gy k A):A.units<cLine:=by have:=r.un;omega
def iS:TA:=λ_ H Q=>Q [] H
def g9 (ta:TE) (I:TA):TA:=λσ H Q=>ta σ H λx H1=>I σ H1 λxs H2=>Q (x::xs) H2
section
variable {X:Cx}{e:Expr}{es:List Expr}{te:TE}{t:TA}{pos:Pos}
theorem c_:PA X [] iS:=λ_ _ _ _ H Q I h=>Calls.spliced_nil ⟨[],H,I,.nil,h⟩
theorem a_ (J:PE X e te)(L:PA X es t)(U:starEach (e::es) X.env=(false,eval e X.env)::starEach es X.env:=by rfl):PA X (e::es) (g9 te t):=by
 intro pos pins s σ H Q I h;rw[U];show wpAny _ _ (spliced ((false,eval e X.env)::backTo pos (starEach es X.env))) _ _ s;refine Calls.spliced_cons (fk (J pins s σ H _ I h) λu Y zq=>?_);obtain⟨x,H1,I1,r1,q1⟩:=zq;exact fk (L pos pins Y σ H1 _ I1 q1) λus s2 ⟨xs,H2,I2,r2,q2⟩=>⟨x::xs,H2,I2,.cons r1 r2,q2⟩
def mK (t:TA):TE:=λσ H Q=>t σ H λxs H1=>xs.length<=sizeLine/\∀p,H1 p=none->Q (.ref p) (upd H1 p (.tup xs))
def Ao (t:TA):TE:=λσ H Q=>t σ H λxs H1=>xs.length<=sizeLine/\∀p,H1 p=none->Q (.ref p) (upd H1 p (.lst xs))
theorem gi {x1}(h:PA X es t):PE X (.Tuple es x1 pos) (mK t):=by
 intro pins s σ H Q I U;refine wpAny_Tuple_spliced (fk (h pos pins s σ H _ I U) λus J ⟨xs,H1,L,r,z,q⟩=>⟨by rw[<-r.length];exact z,?_⟩);have Y:H1 J.heap.objs.size=none:=L.hok.fresh (Q00 _);refine⟨.ref J.heap.objs.size,upd H1 J.heap.objs.size (.tup xs),L.laid (t':=J.toks) (λb u e=>Q0a _ e) (Q00 _) ?_,rfl,q _ Y⟩;exact⟨z,us,r,⟨_,Q0n _ rfl,rfl,_,rfl⟩⟩
theorem gu (h:PA X es t):PE X (.List es pos) (Ao t):=by
 intro pins s σ H Q I U;refine wpAny_List_spliced (fk (h pos pins s σ H _ I U) λus J ⟨xs,H1,L,r,z,q⟩=>⟨by rw[<-r.length];exact z,?_⟩);have Y:H1 J.heap.objs.size=none:=L.hok.fresh (Q00 _);refine⟨.ref J.heap.objs.size,upd H1 J.heap.objs.size (.lst xs),L.laid (t':=J.toks) (λb u e=>Q0a _ e) (Q00 _) ?_,rfl,q _ Y⟩;exact⟨z,us,0,r,Q0n _ rfl⟩
end
noncomputable abbrev Sp:=List V->Hp->VK->XK->Prop
noncomputable abbrev jf:=List Env->Hp->Shared->XK->Value->Shared->Prop
structure mL (P:Program) (w:World) (K:W.Frag) (mg:Str->Option Value) (base:Heap) (A:Around) (outer:List Env) (s:Shared) (H:Hp):Prop where
 frames:A.frames=some outer
 mod:Mod K mg base
 bs:∀b o,base.get? b=some o->s.heap.get? b=some o/\H b=none
 j9:base.objs.size<=s.heap.objs.size
 jF:s.heap.FunFrames base outer
 lM:∀b∈frs outer,H b=none
 hok:gH P w H s.heap
 bare:AllBare s.gens
def CE (outer:List Env) (P:Program) (w:World) (H:Hp) (s:Shared) (Q:VK) (u:Value) (s':Shared):Prop:=
 ∃v H',s'.os=s.os/\AllBare s'.gens/\Un (frs outer) [] H H' s.heap s'.heap/\gH P w H' s'.heap/\RelV v u/\Q v H'
def CR (CX:jf) (outer:List Env) (P:Program) (w:World) (H:Hp) (s:Shared) (Q:VK) (E:XK) (r:Result) (s':Shared):Prop:=
 match r with
 | .ok (.ret u)=>CE outer P w H s Q u s'
 | .ok _=>False
 | .error e=>CX outer H s E e s'
structure eZ (P:Program) (w:World) (K:W.Frag) (mg:Str->Option Value) (base:Heap) (CX:jf) (k:Nat) (f:Addr) (fd:FuncData) (ps:List Str) (sp:Sp):Prop where
 len:∀vs H Q E,sp vs H Q E->vs.length=ps.length
 run:∀(A:Around) (outer:List Env) (s:Shared) (H:Hp) (args:Args) (us:List Value) (vs:List V) (Q:VK) (E:XK),gy k A->mL P w K mg base A outer s H->BindsTo s fd args (ps.zip us)->Vals vs us->sp vs H Q E->
  codeAny (model P w) A (.call (.ref f) args) (CR CX outer P w H s Q E) s
theorem eZ.mono {P:Program}{w:World}{K:W.Frag}{mg:Str->Option Value}{base:Heap}{CX:jf}{j k:Nat}{f:Addr}{fd:FuncData}{ps:List Str}{sp:Sp}(F:eZ P w K mg base CX j f fd ps sp)(h:j<=k):
 eZ P w K mg base CX k f fd ps sp:=⟨F.len,λA outer s H args us vs Q E I=>F.run A outer s H args us vs Q E (I.mono h)⟩
theorem eZ.imp {P:Program}{w:World}{K:W.Frag}{mg:Str->Option Value}{base:Heap}{CX:jf}{k:Nat}{f:Addr}{fd:FuncData}{ps:List Str}{sp I:Sp}(F:eZ P w K mg base CX k f fd ps sp)
 (h:∀vs H Q E,I vs H Q E->sp vs H Q E):eZ P w K mg base CX k f fd ps I:=
 ⟨λvs H Q E q=>F.len vs H Q E (h _ _ _ _ q),λA outer s H args us vs Q E J L U Y hs=>F.run A outer s H args us vs Q E J L U Y (h _ _ _ _ hs)⟩
theorem mL.make {P:Program}{w:World}{K:W.Frag}{mg:Str->Option Value}{base:Heap}{A:Around}{outer:List Env}{s:Shared}{H:Hp}(e:mL P w K mg base A outer s H)(C:Addr)(us:List Value)(I:List (Str × Value)):
 mL P w K mg base (A.under (.builtin "type.__call__" ⟨.ref C::us,I⟩)) outer s H:=⟨by first|exact e.frames|(simpa[Around.under,Code.envs,Code.isFrame,pushEnvs] using e.frames),e.mod,e.bs,e.j9,e.jF,e.lM,e.hok,e.bare⟩
section
variable {X:Cx}{pins:List (Addr × Obj)}{σ:St}{H:Hp}{s s':Shared}
theorem Inv.env0 (I:Inv X pins σ H s):mL X.prog X.w X.K X.mg X.base X.A X.stack s H:=
 ⟨I.ok.frames,I.ok.mod,I.bs,Q0h I.ok.j9 I.sz,I.stack,I.oZ,I.hok,I.bare⟩
theorem Inv.after {Q:VK}{u:Value}(I:Inv X pins σ H s)(h:CE X.stack X.prog X.w H s Q u s'):EP X pins σ Q u s':=by
 obtain⟨v,H',os,J,un,L,r,q⟩:=h;obtain⟨Y,g,d,t,U⟩:=s';obtain rfl:U=s.os:=os;exact⟨v,H',I.call (h':=Y) (g':=g) (d':=d) (t':=t) (ch:=[]) un L J (λb z=>absurd z (by simp)),r,q⟩
end
def mM (sp:Sp) (ir:List V) (E:XK) (t:TA):TE:=λσ H Q=>t σ H λvs H1=>sp (vs++ir) H1 Q E
def t8 (C:Addr) (m:Str) (sp:Sp) (ir:List V) (E:XK) (ta:TE) (t:TA):TE:=λσ H Q=>ta σ H λx H1=>∃a dx fs,x=.ref a/\H1 a=some (.ins C dx fs)/\fs.lookup m=none/\
 t σ H1 λvs H2=>sp (x::(vs++ir)) H2 Q E
def FH (C:Addr) (sp:Sp) (ir:List V) (E:XK) (t:TA):TE:=λσ H Q=>t σ H λvs H1=>∀x dx,H1 x=none->H1 dx=none->dx≠x->
 sp (.ref x::(vs++ir)) (upd (upd H1 dx (.own x)) x (.ins C dx [])) (λv H2=>v=.non/\Q (.ref x) H2) E
def Binds (K:W.Frag) (fd:FuncData) (ps:List Str) (ds:List Value):Prop:=
 ∀(s:Shared) (us:List Value),K.In s.heap->(us++ds).length=ps.length->BindsTo s fd ⟨us,[]⟩ (ps.zip (us++ds))
theorem Binds.all {K:W.Frag}{fd:FuncData}{ps:List Str}(h:∀us:List Value,us.length=ps.length->bindArgs fd ⟨us,[]⟩=pure (ps.zip us)):Binds K fd ps []:=λs us _ hl=>by
 rw[Q10] at hl ⊢;exact .of_eq (h us hl)
def Passes (CX:jf) (X:Cx) (E:XK):Prop:=∀(pins:List (Addr × Obj)) (σ:St) (H:Hp) (s:Shared) (e:Value) (s':Shared),Inv X pins σ H s->CX X.stack H s E e s'->X.xe e s'
section
variable {X:Cx}{CX:jf}{k:Nat}{f C:Addr}{fd:FuncData}{ps:List Str}{sp:Sp}{ir:List V}{ds:List Value}{E:XK}{x m:Str}{p pos apos:Pos}{e o:Expr}{es:List Expr}{ta:TE}{t:TA}
theorem t9 {pins:List (Addr × Obj)}{σ:St}{H:Hp}{s:Shared}{Q:VK}{us:List Value}{vs:List V}(F:eZ X.prog X.w X.K X.mg X.base CX k f fd ps sp)(U:gy k X.A)(Y:Binds X.K fd ps ds)(hd:Vals ir ds)(hx:Passes CX X E)
 (I:Inv X pins σ H s) (r:Vals vs us) (h:sp (vs++ir) H Q E):wpAny (model X.prog X.w) X.A (call (.ref f) us) (EP X pins σ Q) X.xe s:=by
 have L:Vals (vs++ir) (us++ds):=r.append hd;have hl:(us++ds).length=ps.length:=by rw[<-L.length];exact F.len _ _ _ _ h
 refine wpAny_call (codeAny_mono (F.run X.A X.stack s H ⟨us,[]⟩ (us++ds) (vs++ir) Q E U I.env0 (Y s us I.gT hl) L h) λr s' J=>?_)
 cases r with
 |error e=>exact hx pins σ H s e s' I J
 |ok fl=>
  cases fl with
  |ret u=>exact I.after J
  |next=>exact False.elim J
  |brk=>exact False.elim J
  |cont=>exact False.elim J
theorem qK (F:eZ X.prog X.w X.K X.mg X.base CX k f fd ps sp)(Y:gy k X.A)(hg:Gl X x)(hm:X.mg x=some (.ref f))(hk:W.keepIn X.K (.ref f)=true)(hb:Binds X.K fd ps ds)(hd:Vals ir ds)(hx:Passes CX X E)
 (ha:PA X (e::es) t) (J:(x == ("__debug__":Str))=false:=by decide) (he:starEach (e::es) X.env=(false,eval e X.env)::starEach es X.env:=by rfl) (L:(backTo pos (starEach es X.env)).any (·.1)=false:=by rfl):
 PE X (.Call (.Name x p) (e::es) [] pos) (mM sp ir E t):=by
 intro pins s σ H Q I h;refine wpAny_Call_Name_kw (qz I hg hm ?_ J);refine W.callWith_K (h₀:=X.base) I.ok.mod.mx hk (fk (ha pos pins s σ H _ I h) λus s1 ⟨vs,H1,U,r,q⟩=>⟨U.gT,?_⟩) he L;exact t9 F Y hb hd hx U r q
theorem nS {pl:Sem Bool}(he:PE X o ta)(c:Cls X.K C)(U:Meth X.K C m f)(F:eZ X.prog X.w X.K X.mg X.base CX k f fd ps sp)(hr:gy k X.A)(hb:Binds X.K fd ps ds)(hd:Vals ir ds)(hx:Passes CX X E)(ha:PA X (e::es) t)
 (J:starEach (e::es) X.env=(false,eval e X.env)::starEach es X.env:=by rfl) (L:(backTo pos (starEach es X.env)).any (·.1)=false:=by rfl)
 (ht:eval (.Call (.Attribute o m apos) (e::es) [] pos) X.env=(do
   let Y <-eval o X.env
   standAt apos.atName
   let(f,first) <-holding [Y] (getMethod Y m pl)
   callWith pos f first (backTo pos (starEach (e::es) X.env)) (backToKw pos (keywordEach [] X.env))):=by rfl):
 PE X (.Call (.Attribute o m apos) (e::es) [] pos) (t8 C m sp ir E ta t):=by
 intro pins s σ H Q I h;refine W.methodCall_KW (pl:=pl) (fk (he pins s σ H _ I h) λu s1 zq=>?_) ht;obtain⟨x,H1,I1,rx,a,dx,fs,ex,ea,l,q⟩:=zq;subst ex;obtain rfl:u=Value.ref a:=rx;refine tZ I1 ea c U l ?_;refine W.callWith_K (first:=[.ref a]) (h₀:=X.base) I.ok.mod.mx U.kp (fk (ha pos pins s1 σ H1 _ I1 q) λus s2 ⟨vs,H2,I2,r,q2⟩=>⟨I2.gT,?_⟩) J L;exact t9 (us:=.ref a::us) (vs:=.ref a::vs) F hr hb hd hx I2 (.cons rfl r) q2
theorem FI {pl:Sem Bool}(Y:PE X o ta)(c:Cls X.K C)(L:Meth X.K C m f)(F:eZ X.prog X.w X.K X.mg X.base CX k f fd ps sp)(hr:gy k X.A)(hb:Binds X.K fd ps ds)(hd:Vals ir ds)(hx:Passes CX X E)
 (ht:eval (.Call (.Attribute o m apos) [] [] pos) X.env=(do
   let U <-eval o X.env
   standAt apos.atName
   let(f,first) <-holding [U] (getMethod U m pl)
   callWith pos f first (backTo pos (starEach [] X.env)) (backToKw pos (keywordEach [] X.env))):=by rfl):
 PE X (.Call (.Attribute o m apos) [] [] pos) (t8 C m sp ir E ta iS):=by
 intro pins s σ H Q I h;refine W.methodCall_KW (pl:=pl) (fk (Y pins s σ H _ I h) λu s1 zq=>?_) ht;obtain⟨x,H1,J,rx,a,dx,fs,ex,ea,l,q⟩:=zq;subst ex;obtain rfl:u=Value.ref a:=rx;refine tZ J ea c L l ?_;exact W.callWith_K0 (first:=[.ref a]) J.gT L.kp (t9 (us:=[.ref a]) (vs:=[.ref a]) F hr hb hd hx J (.cons rfl .nil) q)
structure Mk (K:W.Frag) (C f:Addr):Prop where
 makes:W.makesIn K C=true
 init:W.findIn K (.ref C) "__init__"=some (some (.ref f))
 fn:W.isFn K (.ref f)=true
 kp:W.keepIn K (.ref C)=true
theorem FJ {pins:List (Addr × Obj)}{σ:St}{H:Hp}{s:Shared}{Q:VK}{us:List Value}{vs:List V}(M:Mk X.K C f)(F:eZ X.prog X.w X.K X.mg X.base CX k f fd ps sp)(hr:gy (k+1) X.A)(hb:Binds X.K fd ps ds)(hd:Vals ir ds)
 (hx:Passes CX X E) (I:Inv X pins σ H s) (r:Vals vs us)
 (h:∀x dx,H x=none->H dx=none->dx≠x->sp (.ref x::(vs++ir)) (upd (upd H dx (.own x)) x (.ins C dx [])) (λv H2=>v=.non/\Q (.ref x) H2) E):
 wpAny (model X.prog X.w) X.A (call (.ref C) us) (EP X pins σ Q) X.xe s:=by
 have U:=h (s.heap.objs.size+1) s.heap.objs.size (I.hok.fresh (Q18 _)) (I.hok.fresh (Q00 _)) (Q0c (Q1 _));have L:=Inv.made (C:=C) I;have Y:Vals (V.ref (s.heap.objs.size+1)::(vs++ir)) (Value.ref (s.heap.objs.size+1)::(us++ds)):=.cons rfl (r.append hd)
 have hl:(Value.ref (s.heap.objs.size+1)::us++ds).length=ps.length:=by
  have e:=Y.length;rw[F.len _ _ _ _ U] at e;exact e.symm
 refine wpAny_call (Fy (f:=f) I.gT M.makes M.init (beq_iff_eq.mp M.fn) (codeAny_mono (F.run _ X.stack _ _ ⟨Value.ref (s.heap.objs.size+1)::us,[]⟩ (Value.ref (s.heap.objs.size+1)::(us++ds)) _ _ E (hr.make C us [])
  (L.env0.make C us []) (hb _ (Value.ref (s.heap.objs.size+1)::us) L.gT hl) Y U) λr s' J=>?_))
 cases r with
 |error e=>exact hx pins σ _ _ e s' L J
 |ok fl=>
  cases fl with
  |ret u=>
   obtain⟨v,H',I3,rv,ev,q3⟩:=L.after J;subst ev;exact⟨rv,⟨V.ref (s.heap.objs.size+1),H',I3,rfl,q3⟩⟩
  |next=>exact False.elim J
  |brk=>exact False.elim J
  |cont=>exact False.elim J
theorem FK (M:Mk X.K C f)(F:eZ X.prog X.w X.K X.mg X.base CX k f fd ps sp)(Y:gy (k+1) X.A)(hg:Gl X x)(hm:X.mg x=some (.ref C))(hb:Binds X.K fd ps ds)(hd:Vals ir ds)(hx:Passes CX X E)
 (ha:PA X (e::es) t) (J:(x == ("__debug__":Str))=false:=by decide) (he:starEach (e::es) X.env=(false,eval e X.env)::starEach es X.env:=by rfl) (L:(backTo pos (starEach es X.env)).any (·.1)=false:=by rfl):
 PE X (.Call (.Name x p) (e::es) [] pos) (FH C sp ir E t):=by
 intro pins s σ H Q I h;refine wpAny_Call_Name_kw (qz I hg hm ?_ J);refine W.callWith_K (h₀:=X.base) I.ok.mod.mx M.kp (fk (ha pos pins s σ H _ I h) λus s1 ⟨vs,H1,U,r,q⟩=>⟨U.gT,?_⟩) he L;exact FJ M F Y hb hd hx U r q
end
section
variable {X:Cx}{CX:jf}{k:Nat}{f C:Addr}{fd:FuncData}{ps ks:List Str}{sp:Sp}{E:XK}{x m:Str}{p pos apos kpos:Pos}{e o:Expr}{es:List Expr}{kws:List Keyword}{te ta:TE}{t tk:TA}{nm:Option Str}
variable {g:List Value->List Value->List Value}{gV:List V->List V->List V}
end
structure f_ (N P:List Str) (sc:Scope):Prop where
 kind:sc.kind=.function
 co:sc.isCoroutine=false
 gen:sc.isGenerator=false
 nd:N.Nodup
 pre:N.take P.length=P
 par:∀x∈P,sc.names.lookup x=some .local\/sc.names.lookup x=some .cell
 FL:∀y∈sc.names,y.2≠ .free
theorem LH {N Q:List Str}{sc:Scope}(h1:sc.kind=.function:=by rfl)(h2:sc.isCoroutine=false:=by rfl)(I:sc.isGenerator=false:=by rfl)(J:N.Nodup:=by decide +kernel)(L:N.take Q.length=Q:=by rfl)(U:∀x∈Q,sc.names.lookup x=some .local\/sc.names.lookup x=some .cell:=by decide +kernel)(Y:∀y∈sc.names,y.2≠ .free:=by decide +kernel):f_ N Q sc:=⟨h1,h2,I,J,L,U,Y⟩
theorem Ap {kindOf:Str->Option NameKind}{x:Str}:∀{binds:List (Str × Value)}{m:Str->Option Value},(∀v,(x,v) ∉ binds)->bindL kindOf binds m x=m x
 |[],_,_=>rfl
 |(n,v)::r,m,h=>by
  unfold bindL;rw[Ap λw hw=>h w (Q0e _ hw)];split
  . have:x≠n:=by rintro rfl;exact h v Q04
    simp[this]
  . rfl
theorem Aq {kindOf:Str->Option NameKind}{x:Str}:∀{binds:List (Str × Value)}{m:Str->Option Value},(∀v,(x,v) ∉ binds)->bindC kindOf binds m x=m x
 |[],_,_=>rfl
 |(n,v)::r,m,h=>by
  unfold bindC;rw[Aq λw hw=>h w (Q0e _ hw)];split
  . rfl
  . have:x≠n:=by rintro rfl;exact h v Q04
    simp[this]
theorem Ar {kindOf:Str->Option NameKind}{x:Str}{v:Value}:∀{P:List Str}{vs:List Value}{i:Nat}{m:Str->Option Value},P.Nodup->P[i]? =some x->vs[i]? =some v->kindOf x=some .local->
 bindL kindOf (P.zip vs) m x=some v
 |[],_,_,_,_,h,_,_=>by simp at h
 |_::_,[],_,_,_,_,h,_=>by simp at h
 |p::P,w::vs,0,m,I,h1,h2,J=>by
  simp at h1 h2;subst h1;subst h2;show bindL kindOf ((p,w)::P.zip vs) m p=_;unfold bindL;rw[Ap λv L=>(List.nodup_cons.mp I).1 (Q2b L).1,if_pos J];simp
 |p::P,w::vs,i+1,m,I,h1,h2,J=>by
  show bindL kindOf ((p,w)::P.zip vs) m x=_;unfold bindL;exact Ar (i:=i) (List.nodup_cons.mp I).2 (by simpa using h1) (by simpa using h2) J
theorem As {kindOf:Str->Option NameKind}{x:Str}{v:Value}:∀{P:List Str}{vs:List Value}{i:Nat}{m:Str->Option Value},P.Nodup->P[i]? =some x->vs[i]? =some v->kindOf x≠some .local->
 bindC kindOf (P.zip vs) m x=some v
 |[],_,_,_,_,h,_,_=>by simp at h
 |_::_,[],_,_,_,_,h,_=>by simp at h
 |p::P,w::vs,0,m,I,h1,h2,J=>by
  simp at h1 h2;subst h1;subst h2;show bindC kindOf ((p,w)::P.zip vs) m p=_;unfold bindC;rw[Aq λv L=>(List.nodup_cons.mp I).1 (Q2b L).1,if_neg J];simp
 |p::P,w::vs,i+1,m,I,h1,h2,J=>by
  show bindC kindOf ((p,w)::P.zip vs) m x=_;unfold bindC;exact As (i:=i) (List.nodup_cons.mp I).2 (by simpa using h1) (by simpa using h2) J
noncomputable def start (N:List Str) (vs:List V):St:=vs.map some++List.replicate (N.length - vs.length) none
noncomputable def fW (CX:jf) (P:Program) (w:World) (K:W.Frag) (mg:Str->Option Value) (base:Heap) (N:List Str) (qual:Str) (scope:Scope) (f:Addr) (J:Value) (A:Around) (outer:List Env) (s:Shared) (H:Hp) (E:XK):Cx where
 prog:=P
 w:=w
 K:=K
 mg:=mg
 base:=base
 A:=A.deeper (envOfC qual scope s.heap.objs.size f J)
 N:=N
 s₀:=s
 H₀:=H
 env:=envOfC qual scope s.heap.objs.size f J
 outer:=outer
 stack:=envOfC qual scope s.heap.objs.size f J::outer
 ex:=[]
 calm:=true
 fn:=λ_=>true
 pn:=[]
 xe:=λe s'=>wpAny (model P w) (A.deeper (envOfC qual scope s.heap.objs.size f J)) (leaving (envOfC qual scope s.heap.objs.size f J) e) (λ_ I=>CX outer H s E e I) (λL I=>CX outer H s E L I) s'
theorem Au {sc:Scope}{n:Nat}{x:Str}(h:sc.names.lookup x=some .cell):∃c,(cellsFrom n sc.names []).lookup x=some c:=by
 have q:=W.cellsFrom_some sc.names n [] (.inl h);exact Option.isSome_iff_exists.mp q
theorem FN {CX:jf}{P:Program}{w:World}{K:W.Frag}{mg:Str->Option Value}{base:Heap}{N ps:List Str}{qual:Str}{scope:Scope}{f:Addr}{Y:Value}{A:Around}{outer:List Env}{s s1:Shared}{H:Hp}{E:XK}{us:List Value}{vs:List V}
 (S:f_ N ps scope) (hd:A.handled=none) (I:mL P w K mg base A outer s H) (hl:vs.length=ps.length) (r:Vals vs us)
 (x:InCallC s s.heap.objs.size (bindL (envOfC qual scope s.heap.objs.size f Y).kindOf (ps.zip us) λ_=>none) (cellsFrom (s.heap.objs.size+1) scope.names []) (bindC (envOfC qual scope s.heap.objs.size f Y).kindOf (ps.zip us) λ_=>none) s1):
 Inv (fW CX P w K mg base N qual scope f Y A outer s H E) [] (start N vs) H s1:=by
 have aa:ps.length<=N.length:=by have:=congrArg List.length S.pre;rw[Q0o] at this;omega
 obtain⟨h1,tk,rfl,hk⟩:=x.done;have L:∀b:Addr,b ∉ (fW CX P w K mg base N qual scope f Y A outer s H E).ex:=λb z=>absurd (show b∈([]:List Addr) from z) (by simp)
 refine⟨⟨I.mod,S.kind,rfl,rfl,Q00 _,λy z c h1 h2=>?_,λy J=>?_,λy c _ h=>?_,λ_=>hd,Around.frames_deeper I.frames,.inr ⟨rfl,rfl⟩,λb z=>absurd z (L b),I.bs,I.j9,λb _ _=>L b,λb z=>absurd z (L b),I.jF,I.lM⟩,
  rfl,I.bare,Un.kept hk,⟨_,x.toInCall.ns,λi y v h1 h2 h3=>?_⟩,λy c h=>⟨_,x.cell y c h⟩,I.hok.fresh (Q00 _),λy c h=>?_,λp hp=>absurd (show p∈([]:List (Addr × Obj)) from hp) (by simp),I.hok.kept hk,?_⟩
 . exact name_of_addr x.apart (PySem.mem_of_lookup h1) (PySem.mem_of_lookup h2)
 . have J:scope.names.lookup y=some .cell\/scope.names.lookup y=some .free:=J;rcases J with J|J
   . exact Au J
   . exact absurd rfl (S.FL _ (PySem.mem_of_lookup J))
 . exact Q0p (x.above y c (PySem.mem_of_lookup h))
 . have hi:i<vs.length:=by
    unfold start at h2;by_cases hi:i<vs.length
    . exact hi
    . rw[Q15 (by simpa using hi)] at h2;rw[Q2u] at h2;split at h2 <;> cases h2
   have ha:vs[i]? =some v:=by
    unfold start at h2;rw[Q1s (by simpa using hi),Q0j] at h2
    cases e:vs[i]? with
    |none=>rw[e] at h2;cases h2
    |some a=>rw[e] at h2;cases h2;rfl
   obtain⟨u,hu,rv⟩:=r.get ha
   have hp:ps[i]? =some y:=by
    rw[<-S.pre,List.getElem?_take_of_lt (by omega)];exact h1
   have U:ps.Nodup:=by rw[<-S.pre];exact S.nd.sublist (Q1e _ _)
   refine⟨u,rv,?_⟩;rcases S.par y (Q0r hp) with k|k
   . exact .inl ⟨k,Ar U hp hu k⟩
   . obtain⟨c,e⟩:=Au (n:=s.heap.objs.size+1) k;refine .inr ⟨.inl k,c,e,?_⟩;have q:=x.cell y c e;rw[As U hp hu (by show scope.names.lookup y≠_;rw[k];decide)] at q;exact q
 . exact I.hok.fresh (Q0p (x.above y c (PySem.mem_of_lookup h)))
 . unfold start;show _=N.length;rw[Q09,Q03,Q1t];omega
theorem t_ {CX:jf}{P:Program}{w:World}{K:W.Frag}{mg:Str->Option Value}{base:Heap}{k:Nat}{f:Addr}{name qual:Str}{U:Arguments}{body:List Stmt}{scope:Scope}{dV kV ac pm L ct oc:Value}{an od:Option Addr}
 {af:Array (Option Value)} {N ps:List Str} {sp:Sp} (lk:K.lookup f=some ⟨oc,od,.func (W.fnOf name qual U body scope dV kV ac pm an L ct),af⟩) (ag:W.codeIn K L qual=true) (S:f_ N ps scope)
 (len:∀vs H Q E,sp vs H Q E->vs.length=ps.length)
 (aa:∀(A:Around) (outer:List Env) (s:Shared) (H:Hp) (vs:List V) (Q:VK) (E:XK),gy k (A.deeper (envOfC qual scope s.heap.objs.size f L))->sp vs H Q E->
   ∃t,iN (fW CX P w K mg base N qual scope f L A outer s H E) body t/\t { nx:=λ_ H'=>Q .non H',rt:=Q } (start N vs) H):
 eZ P w K mg base CX (k+1) f (W.fnOf name qual U body scope dV kV ac pm an L ct) ps sp:=by
 refine⟨len,λA outer s H args us vs Q E hr e0 hb r ae=>?_⟩;have hl:=len _ _ _ _ ae;have KX:K.In s.heap:=e0.mod.mx.keeps λb o e=>(e0.bs b o e).1;have ah:s.heap.NoLimit:=e0.mod.nolimit.keeps λb o e=>(e0.bs b o e).1
 have ab:∀y∈ps.zip us,scope.names.lookup y.1=some .local\/(scope.names.lookup y.1=some .cell/\((cellsFrom (s.heap.objs.size+1) scope.names []).lookup y.1).isSome=true):=λ⟨n,v⟩ hy=>by
  rcases S.par n (Q2b hy).1 with q|q
  . exact .inl q
  . exact .inr ⟨q,W.cellsFrom_some _ _ _ (.inl q)⟩
 refine codeAny_call_function hr.depth (KX _ _ lk) rfl S.co S.gen rfl (W.codeRec_of KX ag) (hb _ _ _ _ ?_);refine wpAny_newFunctionEnv_cells S.kind ab λenv he s1 x=>?_;subst he;refine⟨ah.keeps x.toInCall.keep,codeAny_func ?_⟩;obtain⟨t,ht,hq⟩:=aa A outer s H vs Q E (hr.deeper _) ae;have I:Inv (fW CX P w K mg base N qual scope f L A outer s H E) [] (start N vs) H s1:=FN S hr.hd e0 hl r x;refine Q0m (ht [] s1 (start N vs) H _ I hq) (λfl s' hs=>?_) λe s' hs=>hs
 have fin:∀{Y:St} {H':Hp} {v:V} {u:Value},Inv (fW CX P w K mg base N qual scope f L A outer s H E) [] Y H' s'->RelV v u->Q v H'->CE outer P w H s Q u s':=
  λ{Y H' v u} J rv q=>⟨v,H',J.os,J.bare,J.base,J.hok,rv,q⟩
 cases fl with
 |ret u=>
  obtain⟨v,Y,H',J,rv,q⟩:=hs;exact fin J rv q
 |next=>
  obtain⟨Y,H',J,q⟩:=hs;exact fin (v:=V.non) (u:=Value.none) J rfl q
 |brk=>
  obtain⟨_,_,_,q⟩:=hs;exact False.elim q
 |cont=>
  obtain⟨_,_,_,q⟩:=hs;exact False.elim q
section
variable {X:Cx}{x:Str}{p pos:Pos}{e:Expr}{es:List Expr}{t:TA}{id T:String}{r:List V->Hp->VK->Prop}
def ua (r:List V->Hp->VK->Prop) (t:TA):TE:=λσ H Q=>t σ H λvs H1=>r vs H1 Q
theorem fZ (hc:jG X (.builtin id) r)(U:Gl X x)(Y:X.mg x=none)(hv:bootBuiltins x=some (.builtin id))(ha:PA X (e::es) t)(hn:x≠"__name__":=by decide)(J:(x == ("__debug__":Str))=false:=by decide)
 (he:starEach (e::es) X.env=(false,eval e X.env)::starEach es X.env:=by rfl) (L:(backTo pos (starEach es X.env)).any (·.1)=false:=by rfl):PE X (.Call (.Name x p) (e::es) [] pos) (ua r t):=by
 intro pins s σ H Q I h;refine wpAny_Call_Name_kw (k_ I U Y hv ?_ hn J);exact PyProof.Rows.callWith_builtin1 (fk (ha pos pins s σ H _ I h) λus s1 ⟨vs,H1,I1,r1,q1⟩=>hc pins s1 σ H1 vs us Q I1 r1 q1) he L
theorem mO (hc:jG X (.type T) r)(U:Gl X x)(Y:X.mg x=none)(hv:bootBuiltins x=some (.type T))(ha:PA X (e::es) t)(hn:x≠"__name__":=by decide)(J:(x == ("__debug__":Str))=false:=by decide)
 (he:starEach (e::es) X.env=(false,eval e X.env)::starEach es X.env:=by rfl) (L:(backTo pos (starEach es X.env)).any (·.1)=false:=by rfl):PE X (.Call (.Name x p) (e::es) [] pos) (ua r t):=by
 intro pins s σ H Q I h;refine wpAny_Call_Name_kw (k_ I U Y hv ?_ hn J);exact PyProof.Rows.callWith_type1 (fk (ha pos pins s σ H _ I h) λus s1 ⟨vs,H1,I1,r1,q1⟩=>hc pins s1 σ H1 vs us Q I1 r1 q1) he L
end
end L2
local macro_rules|`(tactic|ac_rfl)=>`(tactic|try dsimp only[L2.fW,L2.Cx.fX])
namespace HT
open PyProof.Rows
section
open SeqAt
open PySem.AutoSeq1 (wpAny_loadPart')
open MeetsSeq MeetsSeq2 MeetsSeq3
end
section
variable {prog:Program}{w:World}{A:Around}{E:Value->Shared->Prop}{s:Shared}
noncomputable def iT (n d:Nat):Option Int->Nat
 |none=>d
 |some v=>if v<0 then(v+(n:Int)).toNat else min v.toNat n
theorem Av (n d:Nat):iT n d none=d:=rfl
theorem Aw (n d k:Nat):iT n d (some (k:Int))=min k n:=by
 show(if(k:Int)<0 then((k:Int)+(n:Int)).toNat else min (k:Int).toNat n)=min k n;rw[if_neg (by omega),Q1u]
end
end HT
namespace L2
open Spec PyProof.Rows
noncomputable abbrev TO:=St->Hp->(Option Int->Hp->Prop)->Prop
def PO (X:Cx) (e:Option Expr) (t:TO):Prop:=
 ∀(pins:List (Addr × Obj)) (s:Shared) (σ:St) (H:Hp) (Q:Option Int->Hp->Prop),Inv X pins σ H s->t σ H Q->
  wpAny (model X.prog X.w) X.A (evalPart e X.env) (λu s'=>∃o H',Inv X pins σ H' s'/\IsPart u o/\Q o H') X.xe s
def ub:TO:=λ_ H Q=>Q none H
def uc (t:TE):TO:=λσ H Q=>t σ H λx H1=>∃i,x=.int i/\Q (some i) H1
theorem intsAre_of {ns:List Int}:∀{us:List Value},Vals (ns.map V.int) us->IntsAre us ns:=by
 induction ns with
 |nil=>intro us r;rw[Q1v] at r;cases r;exact .nil
 |cons n ns I=>
  intro us r;rw[Q0x] at r
  cases r with
  |cons J L=>
   obtain⟨t,e⟩:=J;subst e;exact .cons n t (I L)
section
variable {X:Cx}{e:Expr}{te:TE}{lo hi:Option Expr}{tl th:TO}{pos p2:Pos}
theorem jH:PO X none ub:=by
 intro pins s σ H Q I h;rw[evalPart_none];exact Q0d ⟨none,H,I,.none,h⟩
theorem jI (h:PE X e te):PO X (some e) (uc te):=by
 intro pins s σ H Q I hw;rw[evalPart_some];refine fk (h pins s σ H _ I hw) λu Y zq=>?_;obtain⟨x,H1,J,L,U⟩:=zq;obtain⟨i,rfl,q⟩:=U;obtain⟨t,rfl⟩:=L;exact⟨some i,H1,J,.int i t,q⟩
def ud (X:Cx) (r:V->Option Int->Option Int->Hp->VK->Prop):Prop:=
 ∀(pins:List (Addr × Obj)) (s:Shared) (σ:St) (H:Hp) (x:V) (v I J:Value) (lo hi:Option Int) (L:Addr) (Q:VK),Inv X pins σ H s->RelV x v->s.heap.IsSliceOf L I J .none->IsPart I lo->IsPart J hi->r x lo hi H Q->
  ∃T id,typeLookup (.type T) "__getitem__"=pure (some (.builtin id))/\s.TypeIs v T/\wpAny (model X.prog X.w) X.A (getItem v (.ref L)) (EP X pins σ Q) X.xe s
def ue (r:V->Option Int->Option Int->Hp->VK->Prop) (te:TE) (tl th:TO):TE:=λσ H Q=>te σ H λx H1=>tl σ H1 λl H2=>th σ H2 λu I=>r x l u I Q
theorem jJ {r:V->Option Int->Option Int->Hp->VK->Prop}(hr:ud X r)(he:PE X e te)(hl:PO X lo tl)(hu:PO X hi th):PE X (.Subscript e (.Slice lo hi none p2) pos) (ue r te tl th):=by
 intro pins s σ H Q I h;refine Subscript_ (fk (he pins s σ H _ I h) λv s1 zq=>?_);obtain⟨x,H1,I1,r1,q1⟩:=zq;refine wpAny_Slice (fk (hl pins s1 σ H1 _ I1 q1) λL s2 ⟨l,H2,I2,pl,q2⟩=>fk (hu pins s2 σ H2 _ I2 q2) λU J zq=>?_);obtain⟨u,Y,I3,pu,q3⟩:=zq;rw[evalPart_none];refine Q0d ?_;have I4:Inv X pins σ Y { J with heap:=J.heap.push { cls:=.type "slice",data:=.fields #[L,U,.none] } }:=I3.kept (t':=J.toks) λb ob q=>Q0a _ q;obtain⟨T,id,hT,ht,hg⟩:=hr pins { J with heap:=J.heap.push { cls:=.type "slice",data:=.fields #[L,U,.none] } } σ Y x v L U l u J.heap.objs.size Q I4 r1 (Heap.IsSliceOf.new ..) pl pu q3;show wpAny (model X.prog X.w) X.A (subscriptTail e (.Slice lo hi none p2) v (.ref J.heap.objs.size)) (EP X pins σ Q) X.xe { J with heap:=J.heap.push { cls:=.type "slice",data:=.fields #[L,U,.none] } };exact tail_any (ops:=[.ref J.heap.objs.size,v]) ht hT hg (by with_unfolding_all rfl)
noncomputable def kL (xs:List V) (lo hi:Option Int):List V:=(xs.drop (HT.iT xs.length 0 lo)).take (HT.iT xs.length xs.length hi - HT.iT xs.length 0 lo)
theorem Ax (xs:List V)(lo hi:Option Int):(kL xs lo hi).length<=xs.length:=by
 unfold kL;rw[Q0o,Q11];omega
end
noncomputable def ke (n:Nat) (i:Int):Option Nat:=if 0<=i then(if i<n then some i.toNat else none) else if -(n:Int)<=i then some (i+n).toNat else none
noncomputable def gW {α:Type}(xs:List α) (i:Int):Option α:=(ke xs.length i).bind λj=>xs[j]?
theorem Ay {n:Nat}{i:Int}{j:Nat}(h:ke n i=some j):seqIndex? i n=some j/\j<n/\ -(n:Int)<=i/\i<n:=by
 unfold ke at h;by_cases I:0<=i
 . rw[if_pos I] at h;by_cases h1:i<n
   . rw[if_pos h1] at h;have e:i.toNat=j:=Option.some.inj h;exact⟨by rw[seqIndex_of I h1,e],by omega,by omega,h1⟩
   . rw[if_neg h1] at h;cases h
 . rw[if_neg I] at h;by_cases h1: -(n:Int)<=i
   . rw[if_pos h1] at h;have e:(i+n).toNat=j:=Option.some.inj h;exact⟨by rw[seqIndex_neg (by omega) h1,e],by omega,h1,by omega⟩
   . rw[if_neg h1] at h;cases h
theorem uf {α:Type}{xs:List α}{i:Int}{v:α}(h:gW xs i=some v):∃j,seqIndex? i xs.length=some j/\xs[j]? =some v/\j<xs.length/\ -(xs.length:Int)<=i/\i<xs.length:=by
 unfold gW at h
 cases e:ke xs.length i with
 |none=>rw[e] at h;cases h
 |some j=>
  rw[e] at h;obtain⟨h1,h2,I,J⟩:=Ay e;exact⟨j,h1,h,h2,I,J⟩
theorem gL {α:Type}{xs:List α}{j:Nat}{v:α}(h:xs[j]? =some v):gW xs (j:Int)=some v:=by
 have I:j<xs.length:=(List.getElem?_eq_some_iff.mp h).1
 have e:ke xs.length (j:Int)=some j:=by
  unfold ke;rw[if_pos (by omega),if_pos (by omega)];simp
 unfold gW;rw[e];exact h
def qL (b:Expr):Prop:=∀o i,subscripted b false o i=operate [o,i] (getItem o i)
def pd (X:Cx) (r:R2):Prop:=
 ∀(value I:Expr) (pins:List (Addr × Obj)) (s:Shared) (σ:St) (H:Hp) (x y:V) (v u:Value) (Q:VK),Inv X pins σ H s->RelV x v->RelV y u->r x y H Q->
  subscripted I false v u=operate [v,u] (getItem v u)->wpAny (model X.prog X.w) X.A (subscriptTail value I v u) (EP X pins σ Q) X.xe s
def ug (X:Cx) (id:String) (r:V->List V->Hp->VK->Prop):Prop:=
 ∀(pins:List (Addr × Obj)) (s:Shared) (σ:St) (H:Hp) (x:V) (xs:List V) (v:Value) (us:List Value) (Q:VK),Inv X pins σ H s->RelV x v->Vals xs us->r x xs H Q->
  wpAny (model X.prog X.w) X.A (call (.builtin id) (v::us)) (EP X pins σ Q) X.xe s
section
variable {X:Cx}{a b:Expr}{ta tb:TE}{pos:Pos}
theorem lV {r:R2}(J:pd X r)(L:PE X a ta)(U:PE X b tb)(Y:qL b):PE X (.Subscript a b pos) (gI r ta tb):=by
 intro pins s σ H Q I h;exact Subscript_ (tU L U I h λv u s2 x y H2 I2 rx ry q=>J a b pins s2 σ H2 x y v u Q I2 rx ry q (Y _ _))
def Az (K:W.Frag):R2:=λx y H Q=>∃p xs i v,x=.ref p/\y=.int i/\d_ K H p xs/\gW xs i=some v/\Q v H
def iO (K:W.Frag):R2:=λx y H Q=>∃p xs i v,x=.ref p/\y=.int i/\eX K H p xs/\gW xs i=some v/\Q v H
def FO:R2:=λx y H Q=>∃z i c,x=.str z/\y=.int i/\z.length<=sizeLine/\gW z.cps.toList i=some c/\Q (.str ⟨#[c]⟩) H
theorem uh:pd X (Az X.K):=by
 intro value Y pins s σ H x y v u Q I rx ry h hs;obtain⟨p,xs,i,z,rfl,rfl,hq,he,q⟩:=h
 cases rx;obtain⟨t,rfl⟩:=ry;obtain⟨L,r,pl,hz⟩:=I.list hq;obtain⟨j,h1,h2,h3,h4,h5⟩:=uf he;obtain⟨w,ew,U⟩:=r.get h2;have hl:=r.length;have hn:=nR;have fin:EP X pins σ Q w s:=⟨z,H,I,U,q⟩;by_cases h0:0<=i
 . have J:i.toNat=j:=by
    rw[seqIndex_of h0 h5] at h1;exact Option.some.inj h1
   exact item_listR pl.isList h0 (by omega) (by rw[J];simpa using ew) fin hs
 . have J:(i+(L.toArray.size:Int)).toNat=j:=by
    rw[seqIndex_neg (by omega) h4] at h1;rw[Q05,<-hl];exact Option.some.inj h1
   exact subscriptTail_builtinR (x:=w) pl.isList.typeIs slot_list_getitem.lookup
    (wpAny_getItem_list_neg (Q:=λr s'=>r=w/\EP X pins σ Q r s') pl.isList (by omega) (by rw[Q05] <;> omega) (by omega) (by rw[J];simpa using ew) ⟨rfl,fin⟩) hs
theorem FP:pd X (iO X.K):=by
 intro value L pins s σ H x y v u Q I U Y h hs;obtain⟨p,xs,i,z,rfl,rfl,hq,he,q⟩:=h
 cases U;obtain⟨t,rfl⟩:=Y;obtain⟨aa,r,pl,hz⟩:=I.tuple hq;obtain⟨j,h1,h2,h3,h4,h5⟩:=uf he;obtain⟨w,ew,J⟩:=r.get h2;have hl:=r.length;have hn:=nR;have fin:EP X pins σ Q w s:=⟨z,H,I,J,q⟩
 exact subscriptTail_builtinR (x:=w) pl.typeIs slot_tuple_getitem.lookup
  (getItem_tuple (j:=j) (Q:=λr s'=>r=w/\EP X pins σ Q r s') pl (by omega) (by omega) (by rw[Q05,<-hl];exact h1) (by simpa using ew) ⟨rfl,fin⟩) hs
theorem pf:pd X FO:=by
 intro value J pins s σ H x y v u Q I L U h Y;obtain⟨z,i,c,rfl,rfl,hz,he,q⟩:=h;obtain⟨t,rfl⟩:=L;obtain⟨t',rfl⟩:=U;obtain⟨j,h1,h2,h3,h4,h5⟩:=uf he;have hl:z.cps.toList.length=z.length:=by simp[Str.length]
 rw[hl] at h1 h4 h5;have hn:=nR
 exact tail_any (typeIs_str s z t) slot_str_getitem.lookup (getItem_str (c:=c) (by
  have e1:decide (i< -(2 ^ 63:Int))=false:=decide_eq_false (by omega);have e2:decide (i ≥ 2 ^ 63)=false:=decide_eq_false (by omega);rw[e1,e2,Bool.or_false]) (by rw[h1];simpa using h2) ⟨.str ⟨#[c]⟩,H,I.tok _,⟨_,rfl⟩,q⟩) Y
theorem FQ (I:List Value)(n j:Nat)(u:Value):Obj.mapSeq (·.setIfInBounds j u) { cls:=.type "list",data:=.seq I.toArray n }={ cls:=.type "list",data:=.seq (I.set j u).toArray n }:=by
 simp[Obj.mapSeq]
theorem Inv.lst {pins:List (Addr × Obj)}{σ:St}{H:Hp}{s:Shared}{p:Addr}{xs:List V}(I:Inv X pins σ H s)(h:H p=some (.lst xs)):
 ∃(J:List Value) (n:Nat),Vals xs J/\s.heap.get? p=some { cls:=.type "list",data:=.seq J.toArray n }/\xs.length<=sizeLine:=by
 obtain⟨z,J,n,r,e⟩:=I.hok p _ h;exact⟨J,n,r,e,z⟩
theorem Inv.FR {pins:List (Addr × Obj)}{σ:St}{H:Hp}{s:Shared}{p:Addr}{xs ys:List V}{J its':List Value}{n n':Nat}{f:Obj->Obj}(I:Inv X pins σ H s)(h:H p=some (.lst xs))
 (U:s.heap.get? p=some { cls:=.type "list",data:=.seq J.toArray n }) (L:f { cls:=.type "list",data:=.seq J.toArray n }={ cls:=.type "list",data:=.seq its'.toArray n' }) (r:Vals ys its') (Y:ys.length<=sizeLine) (t:Nat):
 Inv X pins σ (upd H p (.lst ys)) { s with heap:=s.heap.update p f,toks:=t }:=by
 have e:(s.heap.update p f).get? p=some { cls:=.type "list",data:=.seq its'.toArray n' }:=by
  rw[Q1f f U (by rw[L] <;> rfl),L]
 refine I.write (x:=p) (e:=p) (by rw[h];trivial) (.inl rfl) (λb u hb q=>(Q16 _ _ (Ne.symm hb)).trans q) ⟨_,e⟩ ?_;exact⟨Y,its',n',r,e⟩
def FT:V->V->V->Hp->(Hp->Prop)->Prop:=λo i v H Q=>∃p xs k j,o=.ref p/\i=.int k/\H p=some (.lst xs)/\ke xs.length k=some j/\Q (upd H p (.lst (xs.set j v)))
theorem set_list:zZ X FT:=by
 intro pins s σ H o i v ov iv u Q I ro ri rv h;obtain⟨p,xs,k,j,rfl,rfl,hp,hj,q⟩:=h
 cases ro;obtain⟨t,rfl⟩:=ri;obtain⟨J,n,r,L,hz⟩:=I.lst hp;obtain⟨h1,h2,Y,h4⟩:=Ay hj;have hl:=r.length;have hn:=nR
 have I':Inv X pins σ (upd H p (.lst (xs.set j v))) { s with heap:=s.heap.update p (Obj.mapSeq (·.setIfInBounds j u)) }:=
  I.FR hp L (FQ J n j u) (r.set rv j) (by rw[List.length_set];exact hz) s.toks
 by_cases h0:0<=k
 . have U:k.toNat=j:=by
    rw[seqIndex_of h0 h4] at h1;exact Option.some.inj h1
   exact W.ki_setAt L h0 (by omega) (by rw[Q05,<-hl];exact h4) (by rw[U];exact⟨_,I',q⟩)
 . have U:(k+(J.toArray.size:Int)).toNat=j:=by
    rw[seqIndex_neg (by omega) Y] at h1;rw[Q05,<-hl];exact Option.some.inj h1
   exact W.ki_setBack L (by omega) (by rw[Q05,<-hl];exact Y) (by omega) (by rw[U];exact⟨_,I',q⟩)
theorem FU (lo hi:Option Int)(n:Nat):(sliceBounds lo hi none n).1=((HT.iT n 0 lo:Nat):Int)/\(sliceBounds lo hi none n).2.1=((HT.iT n n hi:Nat):Int)/\(sliceBounds lo hi none n).2.2=1:=by
 refine⟨?_,?_,rfl⟩
 . cases lo with
   |none=>simp[sliceBounds,HT.iT]
   |some i=>
    simp only[sliceBounds,HT.iT,Q2v,show(1:Int) > 0 by decide,if_true];by_cases h:i<0
    . simp only[h,if_true] <;> omega
    . simp only[h,if_false] <;> omega
 . cases hi with
   |none=>simp[sliceBounds,HT.iT]
   |some i=>
    simp only[sliceBounds,HT.iT,Q2v,show(1:Int) > 0 by decide,if_true];by_cases h:i<0
    . simp only[h,if_true] <;> omega
    . simp only[h,if_false] <;> omega
theorem FV (I:List Value)(lo hi:Option Int):slicePick I.toArray lo hi none=((I.drop (HT.iT I.length 0 lo)).take (HT.iT I.length I.length hi - HT.iT I.length 0 lo)).toArray:=by
 obtain⟨h1,h2,J⟩:=FU lo hi I.toArray.size;unfold slicePick;rw[h1,h2,J];simp only[sliceRange_one,pick_run,Q05] <;> rfl
def ui (K:W.Frag):V->Option Int->Option Int->Hp->VK->Prop:=λx lo hi H Q=>∃a xs,x=.ref a/\d_ K H a xs/\∀p,H p=none->Q (.ref p) (upd H p (.lst (kL xs lo hi)))
theorem kg:ud X (ui X.K):=by
 intro pins s σ H x v vl vu lo hi sl Q I L U pl Y h;obtain⟨a,xs,rfl,hx,q⟩:=h
 cases L;obtain⟨aa,r,ht,hz⟩:=I.list hx;have J:=r.length;refine⟨"list",_,slot_list_getitem.lookup,ht.isList.typeIs,?_⟩;refine wpAny_getItem_list_slice ht.isList U pl Y .none (by simp) ?_ (by rw[Q05] <;> omega);rw[FV,<-J];refine⟨.ref s.heap.objs.size,_,I.laid (t':=s.toks) (o:=.lst (kL xs lo hi)) (λb ob q=>Q0a _ q) (Q00 _) ?_,rfl,q _ (I.hok.fresh (Q00 _))⟩;exact⟨Q0h (Ax xs lo hi) hz,_,0,(r.drop (HT.iT xs.length 0 lo)).take (HT.iT xs.length xs.length hi - HT.iT xs.length 0 lo),Q0n _ rfl⟩
noncomputable def kh:V->Bool
 | .non=>true
 | .bl _=>true
 | .int _=>true
 | .str _=>true
 |_=>false
noncomputable def kM:V->V->Bool
 | .non,.non=>true
 | .bl a,.bl b=>a == b
 | .bl a,.int b=>(if a then 1 else 0) == b
 | .int a,.bl b=>a == (if b then 1 else 0)
 | .int a,.int b=>a == b
 | .str a,.str b=>a == b
 |_,_=>false
theorem FW {A:Around}{s:Shared}{y x:V}{u v:Value}(J:RelV y u)(I:RelV x v)(U:kh y=true)(L:kh x=true):SeqAt.EqAt A s u v (kM y x):=by
 cases y with
 |non=>
  cases J
  cases x with
  |non=>cases I;exact SeqAt.EqAt.same _
  |bl b=>cases I;exact SeqAt.EqAt.none_bool b
  |int b=>obtain⟨t,rfl⟩:=I;exact SeqAt.EqAt.none_int b t
  |str b=>obtain⟨t,rfl⟩:=I;exact SeqAt.EqAt.none_str b t
  |_=>exact absurd (show false=true from L) Bool.false_ne_true
 |bl a=>
  cases J
  cases x with
  |non=>cases I;exact SeqAt.EqAt.bool_none a
  |bl b=>cases I;exact SeqAt.EqAt.bool_bool a b
  |int b=>obtain⟨t,rfl⟩:=I;exact SeqAt.EqAt.bool_int a b t
  |str b=>obtain⟨t,rfl⟩:=I;exact SeqAt.EqAt.bool_str a b t
  |_=>exact absurd (show false=true from L) Bool.false_ne_true
 |int a=>
  obtain⟨t',rfl⟩:=J
  cases x with
  |non=>cases I;exact SeqAt.EqAt.int_none a t'
  |bl b=>cases I;exact SeqAt.EqAt.int_bool a t' b
  |int b=>obtain⟨t,rfl⟩:=I;exact SeqAt.EqAt.int_int a t' b t
  |str b=>obtain⟨t,rfl⟩:=I;exact SeqAt.EqAt.int_str a t' b t
  |_=>exact absurd (show false=true from L) Bool.false_ne_true
 |str a=>
  obtain⟨t',rfl⟩:=J
  cases x with
  |non=>cases I;exact SeqAt.EqAt.str_none a t'
  |bl b=>cases I;exact SeqAt.EqAt.str_bool a t' b
  |int b=>obtain⟨t,rfl⟩:=I;exact SeqAt.EqAt.str_int a t' b t
  |str b=>obtain⟨t,rfl⟩:=I;exact SeqAt.EqAt.str_str a t' b t
  |_=>exact absurd (show false=true from L) Bool.false_ne_true
 |_=>exact absurd (show false=true from U) Bool.false_ne_true
noncomputable def lx (x:V) (u:Value):Bool:=match u with
 | .none=>kM .non x
 | .bool b=>kM (.bl b) x
 | .int i _=>kM (.int i) x
 | .str z _=>kM (.str z) x
 |_=>false
theorem AB {x y:V}{u:Value}(r:RelV y u)(f:kh y=true):lx x u=kM y x:=by
 cases y with
 |non=>cases r;rfl
 |bl b=>cases r;rfl
 |int i=>obtain⟨t,rfl⟩:=r;rfl
 |str z=>obtain⟨t,rfl⟩:=r;rfl
 |_=>exact absurd (show false=true from f) Bool.false_ne_true
theorem uk {x:V}:∀{xs:List V}{us:List Value},Vals xs us->xs.all kh=true->us.any (lx x)=xs.any λy=>kM y x
 |_,_,.nil,_=>rfl
 |y::xs,u::us,.cons r t,f=>by
  rw[Q1w,Bool.and_eq_true] at f;rw[Q19,Q19,AB r f.1,uk t f.2]
theorem um {A:Around}{s:Shared}{x:V}{v:Value}(J:RelV x v)(L:kh x=true):∀{xs:List V}{us:List Value},Vals xs us->xs.all kh=true->∀u∈us,SeqAt.EqAt A s u v (lx x u)
 |_,_,.nil,_=>λu I=>by cases I
 |y::xs,u::us,.cons r t,f=>λU I=>by
  rw[Q1w,Bool.and_eq_true] at f;rcases List.mem_cons.mp I with rfl|I
  . rw[AB r f.1];exact FW r J f.1 L
  . exact um J L t f.2 U I
noncomputable def inV (x:V) (xs:List V):Bool:=xs.any λy=>kM y x
def AD (K:W.Frag) (neg:Bool):R2:=λx y H Q=>∃p xs,y=.ref p/\(d_ K H p xs\/eX K H p xs)/\kh x=true/\xs.all kh=true/\Q (.bl (if neg then !inV x xs else inV x xs)) H
theorem AE:g8 X (compareOp .NotIn) (AD X.K true):=by
 intro pins s σ H x y v u Q I U ry h;obtain⟨p,xs,rfl,L,Y,fs,q⟩:=h
 cases ry;rcases L with L|L
 . obtain⟨J,r,pl,hz⟩:=I.list L;refine SeqAt.notIn_listAt (lx x) pl.isList (λw hw=>um U Y r fs w (by simpa using hw)) ⟨.bl _,H,I,rfl,?_⟩;rw[show J.toArray.any (lx x)=J.any (lx x) by simp,uk r fs];exact q
 . obtain⟨J,r,pl,hz⟩:=I.tuple L;refine SeqAt.notIn_tupleAt (lx x) pl (λw hw=>um U Y r fs w (by simpa using hw)) ⟨.bl _,H,I,rfl,?_⟩;rw[show J.toArray.any (lx x)=J.any (lx x) by simp,uk r fs];exact q
theorem iu:jG X (.builtin "len") (λxs H Q=>∃p ys,xs=[.ref p]/\(d_ X.K H p ys\/eX X.K H p ys)/\Q (.int ys.length) H):=by
 intro pins s σ H xs us Q I r h;obtain⟨p,ys,rfl,L,q⟩:=h;obtain⟨u,rfl,rx⟩:=vals1 r
 cases rx;have hn:=nR;rcases L with L|L
 . obtain⟨Y,U,pl,hz⟩:=I.list L;have J:=U.length;exact Calls.call_len_list pl.isList (by simp only[Q05] <;> omega) ⟨.int ys.length,H,I.tok _,⟨s.toks+1,by rw[Q05,J]⟩,q⟩
 . obtain⟨Y,U,pl,hz⟩:=I.tuple L;have J:=U.length;exact len_tuple pl (by simp only[Q05] <;> omega) ⟨.int ys.length,H,I.tok _,⟨s.toks+1,by rw[Q05,J]⟩,q⟩
theorem FX:jG X (.builtin "len") (λxs H Q=>∃z,xs=[.str z]/\z.length<=sizeLine/\Q (.int z.length) H):=by
 intro pins s σ H xs us Q I r h;obtain⟨z,rfl,J,q⟩:=h;obtain⟨u,rfl,t,rfl⟩:=vals1 r;have L:=nR;exact len_str (by omega) ⟨.int z.length,H,I.tok _,⟨_,rfl⟩,q⟩
theorem AG:jG X (.type "list") (λxs H Q=>∃p ys,xs=[.ref p]/\(d_ X.K H p ys\/eX X.K H p ys)/\∀l,H l=none->Q (.ref l) (upd H l (.lst ys))):=by
 intro pins s σ H xs us Q I r h;obtain⟨p,ys,rfl,U,q⟩:=h;obtain⟨u,rfl,rx⟩:=vals1 r
 cases rx
 have fin:∀(J:List Value),Vals ys J->ys.length<=sizeLine->∀(h':Heap) (c':Nat),(∀b o',s.heap.get? b=some o'->h'.get? b=some o')->
  h'.get? s.heap.objs.size=some { cls:=.type "list",dict:=none,data:=.seq J.toArray c',slots:=#[] }->EP X pins σ Q (.ref s.heap.objs.size) { s with heap:=h' }:=λJ L Y h' c' kp e=>
  ⟨.ref s.heap.objs.size,_,I.laid (t':=s.toks) kp (Q00 _) (show gR X.prog X.w _ h' _ (.lst ys) from⟨Y,J,c',L,e⟩),rfl,q _ (I.hok.fresh (Q00 _))⟩
 rcases U with U|U
 . obtain⟨J,L,pl,Y⟩:=I.list U;have aa:=L.length;obtain⟨o,ho,hc,n,hd⟩:=pl.isList;exact call_list_seq p (.inl rfl) ho hc hd (λh' c' kp e=>fin J L Y h' c' kp e) (by simp only[Q05] <;> omega)
 . obtain⟨J,L,pl,Y⟩:=I.tuple U;have aa:=L.length;obtain⟨o,ho,hc,n,hd⟩:=pl;exact call_list_seq p (.inr rfl) ho hc hd (λh' c' kp e=>fin J L Y h' c' kp e) (by simp only[Q05] <;> omega)
theorem qM:jG X (.type "tuple") (λxs H Q=>∃p ys,xs=[.ref p]/\((d_ X.K H p ys/\∀l,H l=none->Q (.ref l) (upd H l (.tup ys)))\/(eX X.K H p ys/\Q (.ref p) H))):=by
 intro pins s σ H xs us Q I r h;obtain⟨p,ys,rfl,h⟩:=h;obtain⟨u,rfl,rx⟩:=vals1 r
 cases rx;rcases h with⟨L,q⟩|⟨L,q⟩
 . obtain⟨J,U,pl,Y⟩:=I.list L;have aa:=U.length;refine call_tuple_list pl.isList (λh' kp=>?_) (by simp only[Q05] <;> omega);have I1:Inv X pins σ H { s with heap:=h' }:=I.kept (t':=s.toks) kp
   have I2:Inv X pins σ (upd H h'.objs.size (.tup ys)) { s with heap:=h'.push { cls:=.type "tuple",data:=.seq J.toArray } }:=
    I1.laid (t':=s.toks) (λb o e=>Q0a _ e) (Q00 _) (show gR X.prog X.w _ _ _ (.tup ys) from⟨Y,J,U,IsTup.new _ _⟩)
   exact⟨.ref h'.objs.size,_,I2,rfl,q _ (I1.hok.fresh (Q00 _))⟩
 . obtain⟨J,U,pl,Y⟩:=I.tuple L;exact call_tuple_same pl ⟨.ref p,H,I,rfl,q⟩
def AH (K:W.Frag) (T:String) (x:V) (H:Hp):Prop:=match x with
 | .str _=>T="str"
 | .int _=>T="int"
 | .ref p=>(T="list"/\∃xs,d_ K H p xs)\/(T="tuple"/\∃o,K.lookup p=some o/\o.cls=.type "tuple"/\o.dict=none)\/
    (T="dict"/\((∃kvs,H p=some (.dK kvs))\/∃kvs,H p=some (.dT kvs)))\/(T="set"/\∃S n,H p=some (.set S n))
 |_=>False
theorem FY {pins:List (Addr × Obj)}{σ:St}{H:Hp}{s:Shared}{T:String}{x:V}{v:Value}(I:Inv X pins σ H s)(r:RelV x v)(ty:AH X.K T x H):
 s.TypeIs v T/\∀a,v=.ref a->∃Y,s.heap.get? a=some Y/\Y.dict=none:=by
 cases x with
 |str z=>
  obtain⟨t,rfl⟩:=r
  cases(show T="str" from ty);exact⟨typeIs_str s z t,λ_ e=>nomatch e⟩
 |int i=>
  obtain⟨t,rfl⟩:=r
  cases(show T="int" from ty);exact⟨typeIs_int s i t,λ_ e=>nomatch e⟩
 |ref p=>
  cases r;rcases ty with⟨rfl,xs,hq⟩|⟨rfl,o,J,hc,L⟩|⟨rfl,J⟩|⟨rfl,S,n,J⟩
  . obtain⟨aa,_,pl,_⟩:=I.list hq;refine⟨pl.isList.typeIs,λa e=>?_⟩
    cases e;obtain⟨o,n,e,c,L,_⟩:=pl;exact⟨o,e,L⟩
  . refine⟨⟨o,I.gT p o J,hc⟩,λa e=>?_⟩
    cases e;exact⟨o,I.gT _ o J,L⟩
  . have z:∃o,s.heap.get? p=some o/\o.ExactDict:=by
     rcases J with⟨kvs,J⟩|⟨kvs,J⟩
     . obtain⟨_,_,_,_,o,_,_,e,ex,_⟩:=I.hok p _ J;exact⟨o,e,ex⟩
     . obtain⟨_,_,_,_,o,_,_,e,ex,_⟩:=I.hok p _ J;exact⟨o,e,ex⟩
    obtain⟨o,e,ex⟩:=z;refine⟨⟨o,e,ex.1⟩,λa U=>?_⟩
    cases U;exact⟨o,e,ex.2.1⟩
  . obtain⟨o,_,_,_,e,ex,_⟩:=I.hok p _ J;refine⟨⟨o,e,ex.1⟩,λa U=>?_⟩
    cases U;exact⟨o,e,ex.2.1⟩
 |_=>exact False.elim ty
def FZ (K:W.Frag) (T:String) (r:V->List V->Hp->VK->Prop) (to:TE) (t:TA):TE:=λσ H Q=>to σ H λx H1=>AH K T x H1/\t σ H1 λxs H2=>r x xs H2 Q
variable {o e:Expr}{es:List Expr}{to:TE}{t:TA}{name:Str}{apos cpos:Pos}{T id:String}{r:V->List V->Hp->VK->Prop}
theorem mP (pa:PlainAttrs T)(slot:Slot T name id)(ab:typeOf (.builtin id)=pure (.type "method_descriptor"))(hm:ug X id r)(ho:PE X o to)(ha:PA X (e::es) t)
 (L:attributeBase o name X.env (eval o X.env)=eval o X.env:=by rfl)
 (aa:((backTo cpos (starEach (e::es) X.env)).all (λx=> !x.1) && (backToKw cpos (keywordEach [] X.env)).all (λx=>x.1.isSome)
   && decide ((e::es).length+([]:List Keyword).length+(if([]:List Keyword).isEmpty then 0 else 1)<30))=true:=by rfl)
 (U:(apos.endLine == cpos.line)=true:=by rfl) (hs:starEach (e::es) X.env=(false,eval e X.env)::starEach es X.env:=by rfl) (J:(backTo cpos (starEach es X.env)).any (·.1)=false:=by rfl):
 PE X (.Call (.Attribute o name apos) (e::es) [] cpos) (FZ X.K T r to t):=by
 intro pins s σ H Q I h;refine wpAny_Call_method_late L aa U rfl (fk (ho pins s σ H _ I h) λv s1 zq=>?_);obtain⟨x,H1,I1,r1,ty,q1⟩:=zq;obtain⟨h1,h2⟩:=FY I1 r1 ty;refine⟨T,id,pa,slot,ab,h1,h2,?_⟩;have hA:=ha cpos pins s1 σ H1 _ I1 q1;rw[hs] at hA ⊢;refine Calls.callWith_builtin (by show(false || (backTo cpos (starEach es X.env)).any (·.1))=false;rw[J] <;> rfl) (Calls.evalArgs_plain ?_);exact fk hA λus s2 ⟨vs,H2,I2,r2,q2⟩=>hm pins s2 σ H2 x vs v us Q I2 r1 r2 q2
/- xs.append(e),list.index on a Y tuple .. ae ug ac of 06m -/
end
def F0 (X:Cx) (id:String) (r:V->List V->Hp->VK->Prop):Prop:=
 ∀(pins:List (Addr × Obj)) (s:Shared) (σ:St) (H:Hp) (x:V) (xs:List V) (v:Value) (us:List Value) (Q:VK),Inv X pins σ H s->RelV x v->Vals xs us->r x xs H Q->
  wpAny (model X.prog X.w) X.A (call (.builtin id) (v::us)) (EP X pins σ Q) X.xe s
theorem Vals.one:∀{x:V}{us:List Value},Vals [x] us->∃u,us=[u]/\RelV x u
 |_,_,.cons r .nil=>(Zr rfl r)
section
variable {X:Cx}{pins:List (Addr × Obj)}{σ:St}{H:Hp}{s:Shared}{l b:Addr}{xs ys zs:List V}
theorem Inv.F1 {J its':List Value}{n:Nat}{f:Array Value->Array Value}{t':Nat}(I:Inv X pins σ H s)(L:H l=some (.lst xs))
 (e:s.heap.get? l=some { cls:=.type "list",data:=.seq J.toArray n }) (U:f J.toArray=its'.toArray) (Y:Vals ys its') (hz:ys.length<=sizeLine):
 Inv X pins σ (upd H l (.lst ys)) { s with heap:=s.heap.update l (Obj.mapSeq f),toks:=t' }:=by
 have q:=PySem.IsL.update e f;rw[U] at q;refine I.write (x:=l) (e:=l) (by rw[L];exact trivial) (.inl rfl) (λb' u hb hu=>(Q16 s.heap (Obj.mapSeq f) (Ne.symm hb)).trans hu) ⟨_,q⟩ ?_;exact⟨hz,its',_,Y,q⟩
theorem Inv.F2 {J:List Value}{t':Nat}(I:Inv X pins σ H s)(L:Vals ys J)(U:ys.length<=sizeLine):
 Inv X pins σ (upd H s.heap.objs.size (.lst ys)) { s with heap:=s.heap.push { cls:=.type "list",data:=.seq J.toArray },toks:=t' }:=
 I.laid (λ_ _ q=>Q0a _ q) (Q00 _) ⟨U,J,0,L,Q0n _ rfl⟩
theorem Inv.fresh (I:Inv X pins σ H s):H s.heap.objs.size=none:=I.hok.fresh (Q00 _)
theorem Inv.uo (I:Inv X pins σ H s)(L:H l=some (.lst xs)):xs.length<=sizeLine/\∃(J:List Value) (n:Nat),Vals xs J/\xs.length=J.length/\s.heap.get? l=some { cls:=.type "list",data:=.seq J.toArray n }:=by
 obtain⟨z,J,n,r,e⟩:=I.hok l _ L;exact⟨z,J,n,r,r.length,e⟩
end
section
variable {X:Cx}
def F3:V->List V->Hp->VK->Prop:=λx vs H Q=>∃l xs y,x=.ref l/\vs=[y]/\H l=some (.lst xs)/\xs.length<sizeLine/\Q .non (upd H l (.lst (xs++[y])))
theorem nU:F0 X "list.append" F3:=by
 intro pins s σ H x vs v us Q I U Y h;obtain⟨l,xs,y,rfl,rfl,L,hz,q⟩:=h
 cases U;obtain⟨u,rfl,ru⟩:=Y.one;obtain⟨z,J,n,r,hl,e⟩:=I.uo L;refine call_meets F.slot_list_append ⟨_,e,rfl⟩ F.entry_list_append (F.args_list_append_2 _ _) (PySem.list_append l J.toArray n u (by rw[Q05];omega)) ⟨e,?_⟩;refine⟨.non,_,I.F1 (its':=J++[u]) L e (by simp) (r.append (.cons ru .nil)) ?_,rfl,q⟩;rw[Q09,Q1g];omega
def uq:R2:=λx y H Q=>∃l b xs zs,x=.ref l/\y=.ref b/\H l=some (.lst xs)/\H b=some (.lst zs)/\xs.length+zs.length<=sizeLine/\∀p,H p=none->Q (.ref p) (upd H p (.lst (xs++zs)))
theorem iU:g8 X (binaryOp .Add) uq:=by
 intro pins s σ H x y v u Q I U Y h;obtain⟨l,b,xs,zs,rfl,rfl,hH,hB,hz,q⟩:=h
 cases U
 cases Y;obtain⟨z,L,n,r,hl,e⟩:=I.uo hH;obtain⟨z2,J,n2,r2,aa,e2⟩:=I.uo hB;refine PySem.P.add_list e e2 ?_ (by rw[Q05,Q05];omega);have ea:L.toArray++J.toArray=(L++J).toArray:=by simp
 rw[ea];exact⟨.ref _,_,I.F2 (t':=s.toks) (r.append r2) (by rw[Q09];omega),rfl,q _ I.fresh⟩
end
section
variable {prog:Program}{w:World}{A:Around}{E:Value->Shared->Prop}{s:Shared}
end
section
variable {X:Cx}
end
section
variable {κ:Type} [DecidableEq κ]
noncomputable def h_ (kvs:List (κ × V)) (k:κ):Option V:=(kvs.find? λI=>decide (I.1=k)).map (·.2)
noncomputable def putK (kvs:List (κ × V)) (k:κ) (v:V):List (κ × V):=
 if(kvs.any λI=>decide (I.1=k))=true then kvs.map (λI=>if I.1=k then(I.1,v) else I) else kvs++[(k,v)]
noncomputable def ly (kvs:List (κ × V)) (k:κ):List (κ × V):=kvs.filter λI=>decide (I.1≠k)
theorem ph {p:κ × V}{r:List (κ × V)}{k:κ}(e:p.1=k):h_ (p::r) k=some p.2:=by simp[h_,Q1a,e]
theorem pj {p:κ × V}{r:List (κ × V)}{k:κ}(e:¬p.1=k):h_ (p::r) k=h_ r k:=by simp[h_,Q1a,e]
theorem pq (k:κ):∀kvs:List (κ × V),(kvs.any λI=>decide (I.1=k))=(h_ kvs k).isSome
 |[]=>rfl
 |p::r=>by
  rw[Q19];by_cases e:p.1=k
  . simp only[ph e,decide_eq_true e,Bool.true_or,Option.isSome_some]
  . rw[pj e,decide_eq_false e,Bool.false_or];exact pq k r
theorem ur (kvs:List (κ × V))(k:κ)(v:V):(putK kvs k v).length<=kvs.length+1:=by
 unfold putK;split
 . rw[Q03];omega
 . rw[Q09,Q0g,Q1x];omega
theorem iM.px {o:Option V}{u:Option Value}(r:iM o u):o.isSome=u.isSome:=by
 cases o with
 |none=>cases u with
  |none=>rfl
  |some _=>exact(show False from r).elim
 |some _=>cases u with
  |none=>exact(show False from r).elim
  |some _=>rfl
theorem KV.val {kvs:List (κ × V)}{vs:List (κ × Value)}(r:KV kvs vs)(k:κ):iM (h_ kvs k) (valueAt vs k):=by
 unfold KV at r
 induction r with
 |nil=>exact True.intro
 |@cons p q ps I h t L=>
  obtain⟨h1,h2⟩:=h;by_cases e:p.1=k
  . have J:q.1=k:=h1.symm.trans e;have b:valueAt (q::I) k=some q.2:=by simp[valueAt,Q1a,J]
    rw[ph e,b];exact h2
  . have J:¬q.1=k:=λz=>e (h1.trans z);have b:valueAt (q::I) k=valueAt I k:=by simp[valueAt,Q1a,J]
    rw[pj e,b];exact L
theorem KV.any {kvs:List (κ × V)}{vs:List (κ × Value)}(r:KV kvs vs)(k:κ):(kvs.any λI=>decide (I.1=k))=vs.any λI=>decide (I.1=k):=by
 unfold KV at r
 induction r with
 |nil=>rfl
 |cons h t J=>rw[Q19,Q19,J,h.1]
theorem KV.repl {kvs:List (κ × V)}{vs:List (κ × Value)}(r:KV kvs vs)(k:κ){y:V}{u:Value}(J:RelV y u):
 KV (kvs.map λI=>if I.1=k then(I.1,y) else I) (vs.map λI=>if I.1=k then(I.1,u) else I):=by
 unfold KV at r ⊢
 induction r with
 |nil=>exact .nil
 |@cons p q ps U h t L=>
  rw[Q0x,Q0x];refine .cons ?_ L;obtain⟨h1,h2⟩:=h;by_cases e:p.1=k
  . rw[if_pos e,if_pos (h1.symm.trans e)];exact⟨h1,J⟩
  . rw[if_neg e,if_neg (λz=>e (h1.trans z))];exact⟨h1,h2⟩
theorem KV.put {kvs:List (κ × V)}{vs:List (κ × Value)}(r:KV kvs vs)(k:κ){y:V}{u:Value}(I:RelV y u):KV (putK kvs k y) (stored vs k u):=by
 unfold putK stored;rw[r.any k];by_cases e:(vs.any λJ=>decide (J.1=k))=true
 . rw[if_pos e,if_pos e];exact r.repl k I
 . rw[if_neg e,if_neg e];exact Paired.snoc r ⟨rfl,I⟩
theorem KV.drop {kvs:List (κ × V)}{vs:List (κ × Value)}(r:KV kvs vs)(k:κ):KV (ly kvs k) (without vs k):=by
 unfold KV at r ⊢;unfold ly without
 induction r with
 |nil=>exact .nil
 |@cons p q ps L h t I=>
  obtain⟨h1,h2⟩:=h;rw[Q1y,Q1y];by_cases e:p.1=k
  . have a:¬decide (p.1≠k)=true:=by simp[e]
    have b:¬decide (q.1≠k)=true:=by simp[h1.symm.trans e]
    rw[if_neg a,if_neg b];exact I
  . have J:¬q.1=k:=λz=>e (h1.trans z);have a:decide (p.1≠k)=true:=by simp[e]
    have b:decide (q.1≠k)=true:=by simp[J]
    rw[if_pos a,if_pos b];exact .cons ⟨h1,h2⟩ I
theorem KV.length {kvs:List (κ × V)}{vs:List (κ × Value)}(r:KV kvs vs):kvs.length=vs.length:=Paired.length r
theorem F4 (kvs:List (κ × V))(k:κ):(ly kvs k).length<=kvs.length:=Q2w _ _
end
theorem mQ {P:Program}{w:World}{k:Key}{u:Value}(r:RelV (kV k) u):(i5 P w).is k u=true:=by
 cases k with
 |inl i=>obtain⟨t,e⟩:=(show ∃t,u=Value.int i t from r);subst e;exact ET P w i t
 |inr x=>obtain⟨t,e⟩:=(show ∃t,u=Value.str x t from r);subst e;exact EU P w x t
theorem AI {P:Program}{w:World}:∀{ks:List Key}{us:List Value},Vals (ks.map kV) us->ItemsAre (i5 P w) ks us
 |[],_,r=>by rw[Q1v] at r;cases r;exact .nil
 |k::ks,_,r=>by
  rw[Q0x] at r
  cases r with
  |cons h t=>exact .cons (mQ h) (AI t)
abbrev KT (H:Hp):List (List Key × V)->List (List Key × Addr × Value)->Prop:=Paired λp q=>p.1=q.1/\H q.2.1=some (.tup (p.1.map kV))/\RelV p.2 q.2.2
theorem KT.val {H:Hp}{kvs:List (List Key × V)}{xs:List (List Key × Addr × Value)}(r:KT H kvs xs)(k:List Key):iM (h_ kvs k) ((atKey xs k).map (·.2)):=by
 induction r with
 |nil=>exact True.intro
 |@cons p q ps I h t L=>
  obtain⟨h1,_,h2⟩:=h;by_cases e:p.1=k
  . have J:q.1=k:=h1.symm.trans e;have b:atKey (q::I) k=some q.2:=by simp[atKey,Q1a,J]
    rw[ph e,b];exact h2
  . have J:¬q.1=k:=λz=>e (h1.trans z);have b:atKey (q::I) k=atKey I k:=by simp[atKey,Q1a,J]
    rw[pj e,b];exact L
theorem KT.repl {H:Hp}{kvs:List (List Key × V)}{xs:List (List Key × Addr × Value)}(r:KT H kvs xs)(k:List Key){y:V}{u:Value}(J:RelV y u):
 KT H (kvs.map λI=>if I.1=k then(I.1,y) else I) (xs.map (putAt k u)):=by
 induction r with
 |nil=>exact .nil
 |@cons p q ps Y h t L=>
  rw[Q0x,Q0x];refine .cons ?_ L;obtain⟨h1,h2,U⟩:=h;unfold putAt;by_cases e:p.1=k
  . rw[if_pos e,if_pos (h1.symm.trans e)];exact⟨h1,h2,J⟩
  . rw[if_neg e,if_neg (λz=>e (h1.trans z))];exact⟨h1,h2,U⟩
theorem KT.put {H:Hp}{kvs:List (List Key × V)}{xs:List (List Key × Addr × Value)}(r:KT H kvs xs)(k:List Key){b:Addr}{y:V}{u:Value}(J:H b=some (.tup (k.map kV)))(I:RelV y u):
 KT H (putK kvs k y) (storedH xs k b u):=by
 have e:(kvs.any λL=>decide (L.1=k))=(atKey xs k).isSome:=by
  rw[pq,(r.val k).px,Q2c]
 unfold putK storedH;rw[e];by_cases q:(atKey xs k).isSome=true
 . rw[if_pos q,if_pos q];exact r.repl k I
 . rw[if_neg q,if_neg q];exact Paired.snoc r ⟨rfl,J,I⟩
theorem KT.keeps {H H':Hp}{kvs:List (List Key × V)}{xs:List (List Key × Addr × Value)}(r:KT H kvs xs)(ht:∀b ys,H b=some (.tup ys)->H' b=some (.tup ys)):KT H' kvs xs:=
 Paired.oW r λ_ _ z=>⟨z.1,ht _ _ z.2.1,z.2.2⟩
section
variable {P:Program}{w:World}{H:Hp}{h:Heap}{a:Addr}
theorem AJ {u:HO}(ok:gH P w H h)(e:Rd H a u):gR P w H h a u:=e.ok ok
theorem nV {kvs:List (Key × V)}(ok:gH P w H h)(e:Rd H a (.dK kvs)):kvs.length<=sizeLine/\(a == sysModules)=false/\∃vs,KV kvs vs/\h.DictOf (i5 P w) a vs:=
 show gR P w H h a (.dK kvs) from AJ ok e
theorem qN {kvs:List (Key × V)}(ok:gH P w H h)(e:H a=some (.dK kvs)):kvs.length<=sizeLine/\(a == sysModules)=false/\∃vs,KV kvs vs/\h.DictOf (i5 P w) a vs:=nV ok (.inl e)
theorem pz {ks:List Key}(ok:gH P w H h)(e:H a=some (.tup (ks.map kV))):(tupleKind (i5 P w)).is h ks a:=by
 obtain⟨_,I,r,o,h1,h2,n,J⟩:=(show gR P w H h a (.tup (ks.map kV)) from ok a _ e);exact⟨o,I.toArray,n,h1,h2,J,by simpa using AI r⟩
theorem pA {kvs:List (List Key × V)}(ok:gH P w H h)(e:Rd H a (.dT kvs)):kvs.length<=sizeLine/\(a == sysModules)=false/\
 ∃xs,KT H kvs xs/\h.DictOfH (tupleKind (i5 P w)) a xs:=by
 obtain⟨z,y,xs,r,o,es,L,h1,h2,U,Y,h5⟩:=(show gR P w H h a (.dT kvs) from AJ ok e);refine⟨z,y,xs,r,o,es,L,h1,h2,U,Y,λx I=>?_,h5⟩
 have all:∀{l:List (List Key × V)} {m:List (List Key × Addr × Value)},KT H l m->∀x∈m,(tupleKind (i5 P w)).is h x.1 x.2.1:=by
  intro l m q
  induction q with
  |nil=>intro x I;exact nomatch I
  |@cons p q ps qs J t ih=>
   intro x I;rcases List.mem_cons.mp I with e|I
   . subst e;exact pz ok (by rw[<-J.1];exact J.2.1)
   . exact ih x I
 exact all r x I
theorem F5 {kvs:List (List Key × V)}(ok:gH P w H h)(e:H a=some (.dT kvs)):kvs.length<=sizeLine/\(a == sysModules)=false/\
 ∃xs,KT H kvs xs/\h.DictOfH (tupleKind (i5 P w)) a xs:=pA ok (.inl e)
end
def gj (H:Hp) (a:Addr) (y:V) (r:Option V):Prop:=
 (∃kvs k,Rd H a (.dK kvs)/\y=kV k/\r=h_ kvs k)\/∃kvs k b,Rd H a (.dT kvs)/\y=.ref b/\H b=some (.tup (k.map kV))/\r=h_ kvs k
def ki (H:Hp) (a:Addr) (y v:V) (H':Hp):Prop:=
 (∃kvs k,H a=some (.dK kvs)/\y=kV k/\kvs.length<sizeLine/\H'=upd H a (.dK (putK kvs k v)))\/
 ∃kvs k b,H a=some (.dT kvs)/\y=.ref b/\H b=some (.tup (k.map kV))/\kvs.length<sizeLine/\H'=upd H a (.dT (putK kvs k v))
theorem gj.k {H:Hp}{a:Addr}{kvs:List (Key × V)}{k:Key}(e:H a=some (.dK kvs)):gj H a (kV k) (h_ kvs k):=.inl ⟨kvs,k,.inl e,rfl,rfl⟩
theorem ki.k {H:Hp}{a:Addr}{kvs:List (Key × V)}{k:Key}{v:V}(e:H a=some (.dK kvs))(hl:kvs.length<sizeLine):ki H a (kV k) v (upd H a (.dK (putK kvs k v))):=.inl ⟨kvs,k,e,rfl,hl,rfl⟩
section
variable {X:Cx}{pins:List (Addr × Obj)}{σ:St}{H:Hp}{s:Shared}{a:Addr}{y v:V}{u r:Value}{o:Option V}{A:Around}{E:Value->Shared->Prop}
theorem Inv.big (I:Inv X pins σ H s):sysModules<s.heap.objs.size:=by
 have h:mainGlobals<s.heap.objs.size:=(I.mod.glob.keeps I.bk).lt;exact Nat.lt_trans (by decide) h
theorem F6 {Q:Value->Shared->Prop}(hu:A.units+1<cLine)(I:Inv X pins σ H s)(g:gj H a y (some v))(ry:RelV y u)(h:∀U s',Inv X pins σ H s'->RelV v U->Q U s'):
 wpAny (model X.prog X.w) A (getItem (.ref a) u) Q E s:=by
 rcases g with⟨kvs,k,e,Y,l⟩|⟨kvs,k,b,e,Y,eb,l⟩
 . subst Y;obtain⟨z,hd,vs,J,dd⟩:=nV I.hok e;obtain⟨U,hw,L⟩:=iM.some_of (v:=v) (o:=valueAt vs k) (by rw[l];exact J.val k);exact wpAny_getItem_of (mQ ry) dd.mapOf hw (h U _ (I.tok _) L)
 . subst Y
   cases(show u=Value.ref b from ry);obtain⟨z,hd,xs,J,dd⟩:=pA I.hok e;obtain⟨U,hw,L⟩:=iM.some_of (v:=v) (o:=(atKey xs k).map (·.2)) (by rw[l];exact J.val k);obtain⟨p,hp,aa⟩:=Option.map_eq_some_iff.mp hw;refine wpAny_getItem_heap (tupleKind_room_in1 hu) (pz I.hok eb) dd hp ?_;rw[aa];exact h U _ (I.tok _) L
theorem F7 {Q:Value->Shared->Prop}(hu:A.units+1<cLine)(I:Inv X pins σ H s)(g:gj H a y o)(ry:RelV y u)(h:∀s',Inv X pins σ H s'->Q (.bool o.isSome) s'):
 wpAny (model X.prog X.w) A (compareOp .In u (.ref a)) Q E s:=by
 rcases g with⟨kvs,k,e,L,l⟩|⟨kvs,k,b,e,L,eb,l⟩
 . subst L;obtain⟨z,U,vs,J,Y⟩:=nV I.hok e;refine wpAny_in_of (mQ ry) U Y.mapOf ?_;rw[<-(J.val k).px,<-l];exact h _ (I.tok _)
 . subst L
   cases(show u=Value.ref b from ry);obtain⟨z,U,xs,J,Y⟩:=pA I.hok e;refine wpAny_in_heap (tupleKind_room_in1 hu) (pz I.hok eb) U Y ?_;have q:=(J.val k).px;rw[Q2c] at q;rw[<-q,<-l];exact h _ (I.tok _)
theorem F8 {Q:Value->Shared->Prop}(hu:A.units+1<cLine)(I:Inv X pins σ H s)(g:gj H a y o)(ry:RelV y u)(h:∀s',Inv X pins σ H s'->Q (.bool (!o.isSome)) s'):
 wpAny (model X.prog X.w) A (compareOp .NotIn u (.ref a)) Q E s:=by
 rcases g with⟨kvs,k,e,L,l⟩|⟨kvs,k,b,e,L,eb,l⟩
 . subst L;obtain⟨z,U,vs,J,Y⟩:=nV I.hok e;refine wpAny_notIn_of (mQ ry) U Y.mapOf ?_;rw[<-(J.val k).px,<-l];exact h _ (I.tok _)
 . subst L
   cases(show u=Value.ref b from ry);obtain⟨z,U,xs,J,Y⟩:=pA I.hok e;refine wpAny_notIn_heap (tupleKind_room_in1 hu) (pz I.hok eb) U Y ?_;have q:=(J.val k).px;rw[Q2c] at q;rw[<-q,<-l];exact h _ (I.tok _)
theorem qO {h':Heap}{t':Nat}{J:HO}(I:Inv X pins σ H s)(mu:oX (H a))(L:Heap.SameBut a s.heap h')(U:∃q,h'.get? a=some q)(new:gR X.prog X.w (upd H a J) h' a J):
 Inv X pins σ (upd H a J) { s with heap:=h',toks:=t' }:=
 I.write (x:=a) (e:=a) mu (.inl rfl) (λb q Y z=>(L.2 b Y).trans z) U new
theorem uu {P:Program}{w:World}{H':Hp}{h':Heap}{kvs:List (Key × V)}{vs:List (Key × Value)}(z:kvs.length<=sizeLine)(J:(a == sysModules)=false)(I:KV kvs vs)(L:h'.DictOf (i5 P w) a vs):
 gR P w H' h' a (.dK kvs):=⟨z,J,vs,I,L⟩
theorem F9 {H':Hp}{Q:Unit->Shared->Prop}(hu:A.units+1<cLine)(I:Inv X pins σ H s)(g:ki H a y v H')(ry:RelV y u)(rv:RelV v r)(h:∀s',Inv X pins σ H' s'->Q () s'):
 wpAny (model X.prog X.w) A (setItem (.ref a) u r) Q E s:=by
 rcases g with⟨kvs,k,e,Y,l,eH⟩|⟨kvs,k,b,e,Y,eb,l,eH⟩
 . subst Y eH;obtain⟨z,hd,vs,J,dd⟩:=qN I.hok e;have hz:vs.length<=sizeLine:=by rw[<-J.length];exact z
   have hl:(putK kvs k v).length<=sizeLine:=by have:=ur kvs k v;omega
   refine wpAny_setItem_pairs (hsz:=hz) (mQ ry) dd λh' L hs=>h _ ?_;have he:∃q,h'.get? a=some q:=let⟨q,_,_,U,_⟩:=L;⟨q,U⟩
   exact qO I (by rw[e];exact True.intro) hs he (uu hl hd (J.put k rv) L)
 . subst Y eH
   cases(show u=Value.ref b from ry);obtain⟨z,hd,xs,J,dd⟩:=F5 I.hok e;have hz:xs.length<=sizeLine:=by rw[<-Paired.length J];exact z
   have hl:(putK kvs k v).length<=sizeLine:=by have:=ur kvs k v;omega
   refine wpAny_setItem_heap (hsz:=hz) (tupleKind_room_in1 hu) (pz I.hok eb) dd λh' L hs=>h _ ?_;obtain⟨q,es,ep,U,h2,h3,h4,_,h5⟩:=L;refine qO I (by rw[e];exact True.intro) hs ⟨q,U⟩ ⟨hl,hd,_,(J.put k eb rv).keeps λc ys ec=>?_,q,es,ep,U,h2,h3,h4,h5⟩;rw[eU (gN ec e (λz=>nomatch z))];exact ec
end
section
variable {X:Cx}{pins:List (Addr × Obj)}{σ:St}{H:Hp}{s:Shared}{a:Addr}{kvs:List (Key × V)}{k:Key}{u:Value}{A:Around}{E:Value->Shared->Prop}
theorem F_ {v:V}{J:List Value}{Q:Value->Shared->Prop}(I:Inv X pins σ H s)(e:H a=some (.dK kvs))(ry:RelV (kV k) u)(l:h_ kvs k=some v)(hm:J=[]\/∃x,J=[x])
 (h:∀U s',Inv X pins σ (upd H a (.dK (ly kvs k))) s'->RelV v U->Q U s'):wpAny (model X.prog X.w) A (call (.builtin "dict.pop") (.ref a::u::J)) Q E s:=by
 obtain⟨z,hd,vs,L,dd⟩:=qN I.hok e;obtain⟨U,hw,aa⟩:=iM.some_of (v:=v) (o:=valueAt vs k) (by rw[<-l];exact L.val k)
 have hp:(keyPart u).isSome=true:=by
  cases k with
  |inl i=>obtain⟨t,q⟩:=(show ∃t,u=Value.int i t from ry);subst q;rfl
  |inr x=>obtain⟨t,q⟩:=(show ∃t,u=Value.str x t from ry);subst q;rfl
 have ha:argsOk "dict.pop" ⟨.ref a::u::J,[]⟩:=by
  rcases hm with q|⟨x,q⟩
  . subst q;exact PySem.F.args_dict_pop_2 _ _
  . subst q;exact PySem.F.args_dict_pop_3 _ _ _
 refine call_meetsIn PySem.F.slot_dict_pop dd.typeIs PySem.F.entry_dict_pop ha (meets_dict_pop_there (i5 X.prog X.w) a (mQ ry) J hm hp)
  ⟨vs,U,dd,by rw[<-L.length];exact z,hw,λh' Y hs=>h U _ ?_ aa⟩
 have he:∃q,h'.get? a=some q:=let⟨q,_,_,hq,_⟩:=Y;⟨q,hq⟩
 exact qO I (by rw[e];exact True.intro) hs he (uu (Q0h (F4 kvs k) z) hd (L.drop k) Y)
theorem Ga {Q:Value->Shared->Prop}(I:Inv X pins σ H s)(e:Rd H a (.dK kvs))(h:∀t s',Inv X pins σ H s'->Q (.int kvs.length t) s'):wpAny (model X.prog X.w) A (call (.builtin "len") [.ref a]) Q E s:=by
 obtain⟨z,L,vs,J,U⟩:=nV I.hok e;refine call_len_dict L U (by rw[<-J.length];rw[sizeLine_eq] at z;omega) ?_;rw[<-J.length];exact h _ _ (I.tok _)
end
def AK (i:Expr):Prop:=∀I J,subscripted i false I J=operate [I,J] (getItem I J)
theorem Gb {prog:Program}{w:World}{A:Around}{E:Value->Shared->Prop}{s:Shared}{env:Env}{value I:Expr}{pos:Pos}{T id:String}{Q:Value->Shared->Prop}
 (hl:typeLookup (.type T) "__getitem__"=pure (some (.builtin id))) (hs:AK I)
 (h:wpAny (model prog w) A (eval value env) (λo U=>wpAny (model prog w) A (eval I env) (λi J=>J.TypeIs o T/\wpAny (model prog w) A (getItem o i) Q E J) E U) E s):
 wpAny (model prog w) A (eval (.Subscript value I pos) env) Q E s:=by
 refine Subscript_ (Q0m h (λo U aa=>Q0m aa (λi J L=>?_) λ_ _ x=>x) λ_ _ x=>x);obtain⟨hT,L⟩:=L;unfold subscriptTail;refine Q0 ?_;rw[getitemInPython_of_ne hT.not_modules];refine Q0 (wpAny_specialOf hT hl ?_)
 have fin:wpAny (model prog w) A (subscripted I false o i) (λr Y=>wpAny (model prog w) A (letTemporaryGo value o r >>= λ_=>pure r) Q E Y) E J:=by
  rw[hs o i];exact wpAny_operating (Q0m L (λr Y ab=>Q0 (wpAny_letTemporaryGo (Q0d ab))) λ_ _ x=>x)
 first
  |exact Q0d (Q0 fin)
  |exact Q0 (Q0d (Q0 fin))
  |exact Q0 fin
theorem Gc {X:Cx}{pins:List (Addr × Obj)}{σ:St}{H:Hp}{s:Shared}{a:Addr}{y:V}{o:Option V}(I:Inv X pins σ H s)(g:gj H a y o):s.TypeIs (.ref a) "dict":=by
 rcases g with⟨kvs,k,e,_,_⟩|⟨kvs,k,b,e,_,_,_⟩
 . obtain⟨_,_,vs,_,J⟩:=nV I.hok e;exact J.typeIs
 . obtain⟨_,_,xs,_,J⟩:=pA I.hok e;exact J.typeIs
def qP (td ty:TE):TE:=λσ H Q=>td σ H λx H1=>ty σ H1 λy H2=>∃a v,x=.ref a/\gj H2 a y (some v)/\Q v H2
def Gd (ty td:TE):TE:=λσ H Q=>ty σ H λy H1=>td σ H1 λx H2=>∃a o,x=.ref a/\gj H2 a y o/\Q (.bl o.isSome) H2
def Ge (ty td:TE):TE:=λσ H Q=>ty σ H λy H1=>td σ H1 λx H2=>∃a o,x=.ref a/\gj H2 a y o/\Q (.bl (!o.isSome)) H2
def Gf (td ty tv:TE):TS:=λD σ H=>tv σ H λv H1=>td σ H1 λx H2=>ty σ H2 λy J=>∃a I,x=.ref a/\ki J a y v I/\D.nx σ I
section
variable {X:Cx}{o i e value:Expr}{pos pos' tpos:Pos}{td ty tv:TE}
theorem iF (U:X.A.units+1<cLine)(Y:PE X o td)(hi:PE X i ty)(hs:AK i):PE X (.Subscript o i pos) (qP td ty):=by
 intro pins s σ H Q I h;refine Gb PySem.F.slot_dict_getitem.lookup hs (fk (Y pins s σ H _ I h) λu s1 ⟨x,H1,I1,rx,q1⟩=>fk (hi pins s1 σ H1 _ I1 q1) λiv s2 zq=>?_);obtain⟨y,H2,L,ry,a,v,ex,g,q2⟩:=zq;subst ex;obtain rfl:u=Value.ref a:=rx;exact⟨Gc L g,F6 U L g ry λw' s3 I3 J=>⟨v,H2,I3,J,q2⟩⟩
theorem AL (J:X.A.units+1<cLine)(hi:PE X i ty)(L:PE X o td):PC X .In i o (Gd ty td):=by
 intro pins s σ H Q I h;refine fk (hi pins s σ H _ I h) λiv U ⟨y,H1,Y,ry,q1⟩=>fk (L pins U σ H1 _ Y q1) λu s2 zq=>?_;obtain⟨x,H2,I2,rx,a,ov,ex,g,q2⟩:=zq;subst ex;obtain rfl:u=Value.ref a:=rx;exact F7 J I2 g ry λs3 I3=>⟨.bl ov.isSome,H2,I3,rfl,q2⟩
theorem AM (J:X.A.units+1<cLine)(hi:PE X i ty)(L:PE X o td):PC X .NotIn i o (Ge ty td):=by
 intro pins s σ H Q I h;refine fk (hi pins s σ H _ I h) λiv U ⟨y,H1,Y,ry,q1⟩=>fk (L pins U σ H1 _ Y q1) λu s2 zq=>?_;obtain⟨x,H2,I2,rx,a,ov,ex,g,q2⟩:=zq;subst ex;obtain rfl:u=Value.ref a:=rx;exact F8 J I2 g ry λs3 I3=>⟨.bl (!ov.isSome),H2,I3,rfl,q2⟩
theorem nW (J:X.A.units+1<cLine)(L:PE X o td)(hi:PE X i ty)(U:PE X value tv)(Y:swapsWith value (some (.Subscript o i pos')) pos.line X.env=pure false):
 PS X (.Assign [.Subscript o i pos'] value pos) (Gf td ty tv):=by
 intro pins s σ H D I h;refine wpAny_Assign_Subscript (fk (U pins s σ H _ I h) λr s1 ⟨v,H1,I1,rv,q1⟩=>fk (L pins s1 σ H1 _ I1 q1) λu s2 ⟨x,H2,I2,rx,q2⟩=>fk (hi pins s2 σ H2 _ I2 q2) λiv s3 zq=>?_) Y;obtain⟨y,H3,I3,ry,a,H4,ex,g,q3⟩:=zq;subst ex;obtain rfl:u=Value.ref a:=rx;exact F9 J I3 g ry rv λs4 I4=>⟨σ,H4,I4,q3⟩
end
theorem AN {P:Program}{w:World}{H:Hp}(h:Heap)(I:sysModules<h.objs.size):gR P w H (h.push { cls:=.type "dict",data:=.dict #[] }) h.objs.size (.dK []):=
 ⟨Q07 _,beq_eq_false_iff_ne.mpr (Ne.symm (Q0c I)),[],.nil,Heap.DictOf.new h⟩
def Gg:TE:=λ_ H Q=>∀p,H p=none->Q (.ref p) (upd H p (.dK []))
section
variable {X:Cx}{pos:Pos}
theorem qQ:PE X (.Dict [] [] pos) Gg:=λpins s σ H Q I h=>
 wpAny_Dict_empty ⟨.ref s.heap.objs.size,_,I.laid (a:=s.heap.objs.size) (o:=.dK []) (t':=s.toks) (λ_ _ q=>Q0a _ q) (Q00 _) (AN s.heap I.big),rfl,h _ (I.hok.fresh (Q00 _))⟩
end
def uv:List (TE × TE)->St->Hp->(List (V × V)->Hp->Prop)->Prop
 |[],_,H,Q=>Q [] H
 |(tk,tv)::r,σ,H,Q=>tk σ H λx H1=>tv σ H1 λy H2=>uv r σ H2 λps I=>Q ((x,y)::ps) I
abbrev VV:List (V × V)->List (Value × Value)->Prop:=Paired λp q=>RelV p.1 q.1/\RelV p.2 q.2
def qR (X:Cx) (pos:Pos) (keys:List (Option Expr)) (I:List Expr) (J:List (TE × TE)):Prop:=
 ∀(pins:List (Addr × Obj)) (s:Shared) (σ:St) (H:Hp) (Q:List (V × V)->Hp->Prop),Inv X pins σ H s->uv J σ H Q->
  wpAny (model X.prog X.w) X.A (evalPairs (pairTrees keys I X.env pos)) (λvs s'=>∃ps H',Inv X pins σ H' s'/\VV ps vs/\Q ps H') X.xe s
theorem pB {X:Cx}{pos:Pos}:qR X pos [] [] []:=λpins s σ H Q I h=>pairTrees_nil_walk ⟨[],H,I,.nil,h⟩
theorem kP {X:Cx}{pos:Pos}{k v:Expr}{ks:List (Option Expr)}{vs:List Expr}{tk tv:TE}{J:List (TE × TE)}(U:PE X k tk)(Y:PE X v tv)(hr:qR X pos ks vs J):
 qR X pos (some k::ks) (v::vs) ((tk,tv)::J):=λpins s σ H Q I h=>
 pairTrees_cons_walk (fk (U pins s σ H _ I h) λu s1 ⟨x,H1,I1,rx,q1⟩=>fk (Y pins s1 σ H1 _ I1 q1) λw2 s2 ⟨y,H2,I2,ry,q2⟩=>
  fk (hr pins s2 σ H2 _ I2 q2) λws s3 ⟨ps,H3,I3,L,q3⟩=>⟨(x,y)::ps,H3,I3,.cons ⟨rx,ry⟩ L,q3⟩)
noncomputable def lz (kvs I:List (Key × V)):List (Key × V):=I.foldl (λJ L=>putK J L.1 L.2) kvs
theorem KV.merge:∀{I:List (Key × V)}{rs:List (Key × Value)}{kvs:List (Key × V)}{vs:List (Key × Value)},KV I rs->KV kvs vs->KV (lz kvs I) (merged vs rs):=by
 intro I rs kvs vs r;unfold KV at r
 induction r generalizing kvs vs with
 |nil=>intro q;exact q
 |@cons p q ps U h t J=>
  intro L
  have e:KV (putK kvs p.1 p.2) (stored vs q.1 q.2):=by
   have:=L.put p.1 h.2;rw[<-h.1];exact this
  exact J e
theorem AO:∀(I kvs:List (Key × V)),(lz kvs I).length<=kvs.length+I.length
 |[],kvs=>by show kvs.length<=kvs.length+0;omega
 |p::r,kvs=>by
  have h1:=AO r (putK kvs p.1 p.2);have h2:=ur kvs p.1 p.2;show(lz (putK kvs p.1 p.2) r).length<=_;rw[Q0g];omega
theorem AQ {P:Program}{w:World}:∀{kvs:List (Key × V)}{I:List (Value × Value)},VV (kvs.map λJ=>(kV J.1,J.2)) I->∃rs,Carries (i5 P w) I rs/\KV kvs rs
 |[],_,r=>by rw[Q1v] at r;cases r;exact⟨[],True.intro,.nil⟩
 |p::kvs,_,r=>by
  rw[Q0x] at r
  cases r with
  |@cons a b as bs h t=>
   obtain⟨rs,c,q⟩:=AQ (P:=P) (w:=w) t;obtain⟨U,L⟩:=b;exact⟨(p.1,L)::rs,⟨mQ h.1,rfl,c⟩,.cons ⟨rfl,h.2⟩ q⟩
def Gh (I:List (TE × TE)):TE:=λσ H Q=>∀p,H p=none->uv I σ (upd H p (.dK [])) λps H2=>H2 p=some (.dK [])/\∃kvs:List (Key × V),ps=kvs.map (λJ=>(kV J.1,J.2))/\kvs.length<=15/\Q (.ref p) (upd H2 p (.dK (lz [] kvs)))
theorem pC {X:Cx}{pos:Pos}{keys:List (Option Expr)}{J:List Expr}{L:List (TE × TE)}(h:qR X pos keys J L)(Y:keys.all (·.isSome)=true)(hl:keys.length=J.length)(h0:keys≠[])
 (aa:keys.length<=15):PE X (.Dict keys J pos) (Gh L):=by
 intro pins s σ H Q I q;have hn:=I.hok.fresh (Q00 s.heap.objs.size);have I1:=I.laid (a:=s.heap.objs.size) (o:=.dK []) (h':=s.heap.push { cls:=.type "dict",data:=.dict #[] }) (t':=s.toks) (λ_ _ q=>Q0a _ q) (Q00 _) (AN s.heap I.big);refine wpAny_Dict_walk (knd:=i5 X.prog X.w) Y hl h0 aa (fk (h pins _ σ _ _ I1 (q _ hn)) λws s2 zq=>?_);obtain⟨ps,H2,I2,ab,e,kvs,ep,lk,q2⟩:=zq;subst ep;obtain⟨rs,c,rk⟩:=AQ (P:=X.prog) (w:=X.w) ab;obtain⟨z,hd,ac,r0,dd⟩:=qN I2.hok e
 cases r0;refine⟨rs,c,dd,λh' U hs=>⟨.ref s.heap.objs.size,_,?_,rfl,q2⟩⟩
 have hz:(lz [] kvs).length<=sizeLine:=by
  have h1:=AO kvs [];rw[Q1x] at h1;rw[sizeLine_eq];omega
 have he:∃q,h'.get? s.heap.objs.size=some q:=let⟨q,_,_,hq,_⟩:=U;⟨q,hq⟩
 exact qO I2 (by rw[e];exact True.intro) hs he (uu hz hd (rk.merge .nil) U)
section
variable {X:Cx}{pins:List (Addr × Obj)}{σ:St}{H:Hp}{s:Shared}{a:Addr}{y d:V}{u r:Value}{o:Option V}{A:Around}{E:Value->Shared->Prop}
end
section
variable {X:Cx}{o e f:Expr}{apos cpos:Pos}{td ty tx:TE}
end
section
variable {X:Cx}{pins:List (Addr × Obj)}{σ:St}{H:Hp}{s:Shared}{a:Addr}{kvs:List (Key × V)}{A:Around}{E:Value->Shared->Prop}
end
section
variable {X:Cx}{pins:List (Addr × Obj)}{σ:St}{H:Hp}{s:Shared}{a:Addr}{y:V}{u:Value}{A:Around}{E:Value->Shared->Prop}
end
end L2
namespace AR
open W Calls PyProof.Rows
theorem Gi {P:Params}{h:Heap}:∀(ns:List Int) (vs:List Value),WellAll P h vs (ns.map WData.int)->IntsAre vs ns:=by
 intro ns
 induction ns with
 |nil=>
  intro vs w;rw[Q1v] at w
  cases w;exact .nil
 |cons n ns I=>
  intro vs w;rw[Q0x] at w
  cases w with
  |cons a b=>
   cases a;exact .cons _ _ (I _ b)
theorem Gj {l:OpenLaw}{n:Nat}(hn:l.most=some n){P:Params}{h:Heap}{args:List WData}{I:List Value}
 (J:l.row.toRowW.claim.pre args=true) (aa:WellAll P h I args):
 ∃a vs ns,I=[Value.ref a]/\args=[WData.list (ns.map WData.int)]/\h.get? a=some { cls:=.type "list",data:=.seq vs.toArray }/\IntsAre vs ns/\ns.length<=n:=by
 have ab:WShape.hasAll [] args [.list .int]=true:=(pre_splitW J).1;have hc:l.pre.holds [] { args:=args }=true:=(pre_splitW J).2;obtain⟨d,r,rfl,h1,h2⟩:=hasAllW_cons ab;obtain rfl:=hasAllW_nil h2;obtain⟨xs,rfl,h3⟩:=hasW_list h1;obtain⟨ns,rfl⟩:=items_int h3
 have L:ns.length<=n:=by
  unfold OpenLaw.pre at hc
  have Y:(WTm.not (.lt (.lit (.int (n:Int))) (.len (.arg 0)))).holds [] { args:=[.list (ns.map .int)] }=true:=by
   have Y:=(holds_andW hc).1;rw[hn] at Y;exact Y
  have h5:=condW_of Y (w_not (w_lt w_lit (w_len_list (w_arg rfl))));rw[Q03] at h5;refine Q12 λq=>?_;have q':(n:Int)<((ns.length:Nat):Int):=by omega
  first
   |(rw[decide_eq_true q'] at h5;exact absurd h5 (by decide))
   |(simp at h5;omega)
 cases aa with
 |cons w1 w2=>
  cases w2
  cases w1 with
  |list ho U=>exact⟨_,_,ns,rfl,rfl,ho,Gi ns _ U,L⟩
theorem Gk (l:OpenLaw)(args:List WData):l.row.toRowW.claim.post args (.bool true) args=true:=
 postW_of (r:=l.row.toRowW) (X:=(true == true))
  (show WShape.has [] (.bool true) .bool=true by first|rfl|decide|simp[WShape.has,WShape.arms,WShape.armsAll])
  (show(WTm.eq .res (.lit (.bool true))).value [] { args:=args,res:=some (.bool true),after:=args }=some (.bool (true == true)) from w_eq_bool (w_res rfl) w_lit) rfl
theorem Gm {l:OpenLaw}{n:Nat}{q:Program}{loose:List Str}{XP:(Str->Option Value)->Heap->Prop}{YP:World->Heap->Prop}{d:DefRec}
 (hn:l.most=some n) (ae:d.params.defaults=[])
 (call:∀(w:World) (s₀ I:Shared) (mg mb:Str->Option Value) (U:Addr) (o:Obj) (pm cd J:Value) (a:Addr) (vs:List Value) (ns:List Int),
   Ground q loose [] XP w s₀ mg mb I.heap->YP w I.heap->
   I.heap.get? U=some o->o.data=.func (docDef d.name d.params d.body d.scope pm cd J)->I.heap.CodeRec cd d.name->mg d.name=some (.ref U)->
   I.heap.get? a=some { cls:=.type "list",data:=.seq vs.toArray }->IntsAre vs ns->ns.length<=n->I.gens=#[]->
   codeAny (model l.prog w) callerA (.call (.ref U) ⟨[.ref a],[]⟩) (λr s'=>r=.ok (.ret (.bool true))/\OldK I.heap s'.heap/\s'.os=I.os/\AllBare s'.gens) I):
 WalkO q loose XP YP l.row.toRowW d [] (λf vs=>PySem.call f vs):=by
 intro w s₀ I mg mb G Y U o pm cd J dV kV ho hd af hD ag hg args ai as aa aj ak ah al;obtain rfl:dV=.none:=Dflts.none hD ae;obtain rfl:kV=.none:=Dflts.noKw hD;obtain⟨a,vs,ns,rfl,rfl,ab,L,ac⟩:=Gj hn aa ah;refine enter_call (codeAny_mono (call w s₀ I mg mb U o pm cd J a vs ns G Y ho (fd_plain hd) af ag ab L ac hg) λr s' hq=>?_);obtain⟨rfl,h2,h3,h4⟩:=hq;exact⟨.inl ⟨.bool true,.bool true,[],rfl,λ_=>rfl,.bool true,Gk l _,λ_=>⟨List.Pairwise.nil,λ_ hm=>(nomatch hm)⟩⟩,h2,h3,h4⟩
section
variable {prog:Program}{w:World}{A:Around}{E:Value->Shared->Prop}{s:Shared}{K:Frag}
end
end AR
namespace L2
open Spec PyProof.Rows
theorem AU:∀{vs:List Value}{ns:List Int},IntsAre vs ns->Vals (ns.map V.int) vs
 |_,_,.nil=>.nil
 |_,_,.cons n t h=>.cons ⟨t,rfl⟩ (AU h)
abbrev e_:jf:=λ_ _ _ _ _ _=>False
abbrev E0:XK:=λ_ _ _=>False
theorem km {X:Cx}:Passes e_ X E0:=λ_ _ _ _ _ _ _ h=>h.elim
structure ko (K:W.Frag) (x qual:Str) (st:Stmt) (f:Addr) (fd:FuncData):Prop where
 ex:∃(oc:Value) (od:Option Addr) (kV doc pm:Value) (an:Option Addr) (cdv ct:Value) (osl:Array (Option Value)),
  fd=W.fnOf x qual (iJ st) (h8 st) (fo st) .none kV doc pm an cdv ct/\K.lookup f=some ⟨oc,od,.func fd,osl⟩/\W.codeIn K cdv qual=true
 kp:W.keepIn K (.ref f)=true
variable {P:Program}{w:World}{K:W.Frag}{mg:Str->Option Value}{base:Heap}
def FnBody (P:Program) (w:World) (K:W.Frag) (mg:Str->Option Value) (base:Heap) (N ps:List Str) (qual:Str) (st:Stmt) (f:Addr) (k:Nat) (vs:List V) (H:Hp) (Q:VK) (E:XK):Prop:=vs.length=ps.length/\∀(I:Value) (A:Around) (outer:List Env) (s:Shared),N.Nodup->gy k (A.deeper (envOfC qual (fo st) s.heap.objs.size f I))->(A.deeper (envOfC qual (fo st) s.heap.objs.size f I)).units+1<cLine->∃t,iN (fW e_ P w K mg base N qual (fo st) f I A outer s H E).fX (h8 st) t/\t { nx:=λ_ H'=>Q .non H',rt:=Q } (start N vs) H
theorem ko.ok {x qual:Str}{st:Stmt}{f:Addr}{fd:FuncData}{N ps:List Str}{k:Nat}{sp:Sp}(F:ko K x qual st f fd)(S:f_ N ps (fo st))
 (I:∀(vs:List V) (H:Hp) (Q:VK) (E:XK),sp vs H Q E->FnBody P w K mg base N ps qual st f k vs H Q E):eZ P w K mg base e_ (k+1) f fd ps sp:=by
 obtain⟨oc,od,kV,aa,pm,an,J,ct,ab,rfl,lk,L⟩:=F.ex;refine t_ lk L S (λvs H Q E h=>(I vs H Q E h).1) λA outer s H vs Q E Y U=>?_;obtain⟨t,h,q⟩:=(I vs H Q E U).2 J A outer s S.nd Y (Q1h (Q2d (by decide:1<=64) _) Y.units);exact⟨t,h.fX,q⟩
theorem ko.binds {x qual:Str}{st:Stmt}{f:Addr}{fd:FuncData}{ps:List Str}(F:ko K x qual st f fd)
 (h:∀(kV I L:Value) (U:Option Addr) (J ct:Value) (us:List Value),us.length=ps.length->bindArgs (W.fnOf x qual (iJ st) (h8 st) (fo st) .none kV I L U J ct) ⟨us,[]⟩=pure (ps.zip us)):Binds K fd ps []:=by
 obtain⟨oc,od,kV,I,L,U,J,ct,Y,rfl,lk,aa⟩:=F.ex;exact .all (h kV I L U J ct)
theorem pE {x qual:Str}{st:Stmt}{f:Addr}{oc:Value}{od U:Option Addr}{L:Array (Option Value)}{kV J Y I ct:Value}(l:K.lookup f=some ⟨oc,od,.func (W.fnOf x qual (iJ st) (h8 st) (fo st) .none kV J Y U I ct),L⟩)
 (c:W.codeIn K I qual=true) (k:W.keepIn K (.ref f)=true):ko K x qual st f (W.fnOf x qual (iJ st) (h8 st) (fo st) .none kV J Y U I ct):=⟨⟨oc,od,kV,J,Y,U,I,ct,L,rfl,l,c⟩,k⟩
theorem pF {A:Around}{k:Nat}(I:gy k A):A.units+1<cLine:=Q1h (Q2d (by decide:1<=64) _) I.units
theorem ig {n:Nat}(h:n<=1000):n<sizeLine:=Q1h h (by decide)
section
variable {X:Cx}
theorem pv (i:Nat){x:Str}{pos:Pos}(J:X.N[i]? =some x:=by rfl)(L:tG X.env.scope x:=by first|exact Or.inl rfl|exact Or.inr (Or.inl rfl)|exact Or.inr (Or.inr rfl))(U:(x == ("__debug__":Str))=false:=by decide)
 (I:(x == ("__classdict__":Str))=false:=by decide):PE X (.Name x pos) (gf i):=E2 J L U I
end
theorem fL {A B:Prop}(h:B):if false=true then A else B:=by
 rw[if_neg Bool.false_ne_true];exact h
theorem fY {A B:Prop}(h:A):if true=true then A else B:=by
 rw[if_pos rfl];exact h
theorem gm {c A B:Prop} [Decidable c](h1:c->A)(h2:¬c->B):if c then A else B:=by
 by_cases h:c
 . rw[if_pos h];exact h1 h
 . rw[if_neg h];exact h2 h
theorem kq {c A B:Prop} [Decidable c](hc:c)(h:B):if(!decide c)=true then A else B:=by
 rw[decide_eq_true hc];exact fL h
def Same (H H':Hp):Prop:=∀b o,H b=some o->H' b=some o
theorem Same.refl (H:Hp):Same H H:=λ_ _ h=>h
theorem Same.trans {H H1 H2:Hp}(a:Same H H1)(b:Same H1 H2):Same H H2:=λc o h=>b c o (a c o h)
theorem Same.free {H H':Hp}(e:Same H H'){l:Addr}(h:H' l=Option.none):H l=Option.none:=by
 cases q:H l with
 |none=>rfl
 |some o=>
  rw[e l o q] at h
  cases h
section
variable {X:Cx}
theorem AV:jG X (.builtin "len") (λxs H Q=>∃a kvs,xs=[V.ref a]/\H a=some (.dK kvs)/\Q (.int kvs.length) H):=by
 intro pins s σ H xs us Q I r h;obtain⟨a,kvs,rfl,J,q⟩:=h;obtain⟨u,rfl,L⟩:=vals1 r
 cases L;exact Ga I (.inl J) λt s' U=>⟨.int kvs.length,H,U,⟨t,rfl⟩,q⟩
end
section
variable {κ:Type} [DecidableEq κ]
theorem Gn {kvs:List (κ × V)}{k:κ}{v:V}(h:h_ kvs k=some v):k∈kvs.map (·.1):=by
 have q:(kvs.any λI=>decide (I.1=k))=true:=by
  rw[pq,h]
  all_goals rfl
 obtain⟨p,hp,e⟩:=List.any_eq_true.mp q;exact List.mem_map.mpr ⟨p,hp,of_decide_eq_true e⟩
end
theorem AW {g:Str->NameKind->NameKind}{x:Str}:∀names:List (Str × NameKind),
 (names.map λy=>(y.1,g y.1 y.2)).lookup x=(names.lookup x).map (g x)
 |[]=>rfl
 |(n,k)::r=>by
  show List.lookup x ((n,g n k)::_)=_;rw[Q17,Q17,AW r]
  cases I:x == n with
  |true=>rw[eq_of_beq I];rfl
  |false=>rfl
noncomputable def kQ (env:Env) (n:Str) (k:NameKind):NameKind:=
 if(k == .free && env.scope.kind == .function && env.kindOf n == some .cell)=true then .cell else k
theorem AX (scope:Scope)(env:Env)(x:Str):
 (relabel scope env).names.lookup x=(scope.names.lookup x).map (kQ env x):=by
 rw[<-AW (g:=kQ env) scope.names];show List.lookup x (scope.names.map _)=_;congr 1;apply Q2x;rintro⟨n,k⟩ _;show(if _ then _ else _)=(n,kQ env n k);unfold kQ;split <;> rfl
theorem Gp {env:Env}{x:Str}{k:NameKind}(h:kQ env x k=.local):k=.local:=by
 unfold kQ at h;split at h
 . cases h
 . exact h
theorem Gq {env:Env}{x:Str}{k:NameKind}(h:kQ env x k=.cell):k=.free\/k=.cell:=by
 unfold kQ at h;split at h
 . rename_i c;left;simp only[Bool.and_eq_true] at c;exact eq_of_beq c.1.1
 . exact .inr h
theorem Gr {env:Env}{x:Str}{k:NameKind}(h:kQ env x k=.free):k=.free:=by
 unfold kQ at h;split at h
 . cases h
 . exact h
theorem uw {env:Env}:∀(names:List (Str × NameKind)) (J:List (Str × Addr)),(∀y∈names,y.2=.free->∃c,env.cells.lookup y.1=some c)->
 (∀x c,J.lookup x=some c->env.cells.lookup x=some c)->
 ∃cl:List (Str × Addr),(forIn names J λy cs=>if(y.2 == NameKind.free)=true then(do let a <-cellOf env y.1;pure (ForInStep.yield ((y.1,a)::cs))) else pure (ForInStep.yield cs))=(pure cl:Sem _)/\
  (∀x c,cl.lookup x=some c->env.cells.lookup x=some c)/\(∀x,((x,NameKind.free)∈names\/(J.lookup x).isSome=true)->cl.lookup x=env.cells.lookup x)
 |[],J,_,L=>⟨J,rfl,L,λx I=>by
    rcases I with I|I
    . cases I
    . obtain⟨c,e⟩:=Option.isSome_iff_exists.mp I;rw[e,L x c e]⟩
 |(n,k)::r,J,U,L=>by
  by_cases Y:k=.free
  . subst Y;obtain⟨c,e⟩:=U (n,.free) Q04 rfl;have e:env.cells.lookup n=some c:=e
    have aa:∀x d,((n,c)::J).lookup x=some d->env.cells.lookup x=some d:=λx d h=>by
     rw[Q17] at h
     cases I:x == n with
     |true=>
      rw[I] at h
      cases h;rw[eq_of_beq I];exact e
     |false=>
      rw[I] at h;exact L x d h
    obtain⟨cl,h1,h2,h3⟩:=uw r ((n,c)::J) (λy hy=>U y (Q0e _ hy)) aa;refine⟨cl,?_,h2,λx I=>h3 x ?_⟩
    . rw[Q2y];have ec:cellOf env n=pure c:=by unfold cellOf;rw[e]
      simp only[beq_self_eq_true,if_true,ec,pure_bind];exact h1
    . rcases I with I|I
      . rcases List.mem_cons.mp I with q|q
        . right
          cases q;rw[Q17,beq_self_eq_true];rfl
        . exact .inl q
      . right;rw[Q17]
        cases x == n with
        |true=>rfl
        |false=>exact I
  . obtain⟨cl,h1,h2,h3⟩:=uw r J (λy hy=>U y (Q0e _ hy)) L;refine⟨cl,?_,h2,λx I=>h3 x ?_⟩
    . rw[Q2y];have eb:(k == NameKind.free)=false:=by simpa using Y
      simp only[eb,Bool.false_eq_true,if_false,pure_bind];exact h1
    . rcases I with I|I
      . rcases List.mem_cons.mp I with q|q
        . cases q;exact absurd rfl Y
        . exact .inl q
      . exact .inr I
theorem qS {scope:Scope}{env:Env}(J:∀y∈scope.names,y.2=.free->∃c,env.cells.lookup y.1=some c):
 ∃cl:List (Str × Addr),closureFor scope env=pure cl/\(∀x c,cl.lookup x=some c->env.cells.lookup x=some c)/\(∀x,(x,NameKind.free)∈scope.names->cl.lookup x=env.cells.lookup x):=by
 obtain⟨cl,h1,h2,L⟩:=uw scope.names [] J (λx c h=>by cases h);refine⟨cl,?_,h2,λx U=>L x (.inl U)⟩;unfold closureFor
 have e:(forIn scope.names ([]:List (Str × Addr)) λy I=>do
  let mut I:=I
  match y with
  |(name,kind)=>if(kind == NameKind.free)=true then I:=(name,<-cellOf env name)::I
  pure (ForInStep.yield I))=(pure cl:Sem _):=by
  rw[<-h1]
 first
  |exact(by simpa using e)
  |(show(forIn scope.names ([]:List (Str × Addr)) _ >>= λI=>pure I)=_;rw[bind_pure];exact e)
structure jv (X:Cx) (own:List Str) (scope:Scope):Prop where
 kind:scope.kind=.function
 cell:∀y∈scope.names,y.2≠ .cell
 names:∀y∈scope.names,y.2=.local->scope.names.lookup y.1=some .local
 free:∀y∈scope.names,y.2=.free->X.env.kindOf y.1=some .cell\/X.env.kindOf y.1=some .free
 nd:(own++X.N).Nodup
 outer:∀x∈X.N,scope.names.lookup x≠some .local
noncomputable def iG (X:Cx) (own:List Str) (scope:Scope) (cl:List (Str × Addr)) (C:Addr) (L:List Addr) (I:Shared) (J:Hp):Cx:=
 { X with N:=own++X.N,s₀:=I,H₀:=J,env:=compEnvC scope cl C X.env,outer:=X.stack,ex:=L,fn:=λ_=>false,pn:=[],xe:=λ_ _=>False }
def pG (X:Cx) (I:List Expr) (t:TT):Prop:=
 ∀(pins:List (Addr × Obj)) (s:Shared) (σ:St) (H:Hp) (Q:Bool->Hp->Prop),Inv X pins σ H s->t σ H Q->
  wpAny (model X.prog X.w) X.A (forIn I true λc r=>if r=true then do let ok <-isTrue c X.env (eval c X.env);pure (ForInStep.yield ok) else pure (ForInStep.yield r)) (TP X pins σ Q) X.xe s
def jX:TT:=λ_ H Q=>Q true H
theorem kT {X:Cx}:pG X [] jX:=λpins s σ H Q I h=>wpAny_tests_nil ⟨H,I,h⟩
theorem pH {X:Cx}{c:Expr}{t:TT}(h:PT X c t):pG X [c] t:=λpins s σ H Q I q=>wpAny_tests_one (h pins s σ H Q I q)
def AY (k:Nat) (Y:TI) (g:TG) (tt:TT) (te:TE):TE:=λσ H Q=>Y σ H λJ H1=>
 ∃W:Nat->Nat->List V->Hp->Prop,(∃m,W 0 m [] H1)/\∀i m ys H,W i m ys H->
  (J.stop i H/\∀p,H p=none->Q (.ref p) (upd H p (.lst ys)))\/
  (J.go i H/\ys.length<sizeLine/\∀x H',J.jU i H x H'->g x (List.replicate k none++σ) H' λI H2=>I.drop k=σ/\
    tt I H2 λb U=>if b=true then te I U λy H4=>∃L,L<m/\W (i+1) L (ys++[y]) H4 else ∃L,L<m/\W (i+1) L ys U)
section
variable {prog:Program}{w:World}{A:Around}{R:Result->Shared->Prop}{s:Shared}
theorem Gs {ah J iter:Expr}{ai:List Expr}{scope:Scope}{pos:Pos}{it ag:Value}{env:Env}(I:Nat->Shared->Prop)
 (turn:∀n s,I n s->wpAny (model prog w) A (pyNext it) (λr L=>
   match r with
   |none=>R (.ok .next) L
   |some v=>wpAny (model prog w) A (letOwnedTupleGo J it v) (λ_ Y=>wpAny (model prog w) A (assign J env v) (λ_ aa=>
     wpAny (model prog w) A (forIn ai true λc r=>if r=true then do let ok <-isTrue c env (eval c env);pure (ForInStep.yield ok) else pure (ForInStep.yield r)) (λok U=>
      if ok=true then wpAny (model prog w) A (eval ah env) (λx ab=>
       wpAny (model prog w) A (call (.builtin "list.append") [ag,x]) (λ_ ac=>∃m,m<n/\I m ac) (λ_ _=>False) ab) (λ_ _=>False) U
      else ∃m,m<n/\I m U) (λ_ _=>False) aa) (λ_ _=>False) Y) (λ_ _=>False) L) (λ_ _=>False) s)
 (n:Nat) (h:I n s):
 codeAny (model prog w) A (.compLoop (.ListComp ah [⟨J,iter,ai,0⟩] scope pos) 0 it ag env) R s:=by
 refine codeAny_loop rfl I (λn s hI=>?_) n h;show wpAny _ A ((compTurn _ 0 it ag env).onRaise _) _ _ s;refine wpAny_noted ?_;rw[compTurn_list]
 have no:∀{α:Type} {t:Sem α} {Q Q':α->Shared->Prop} {E:Value->Shared->Prop} {s:Shared},wpAny (model prog w) A t Q (λ_ _=>False) s->(∀a s,Q a s->Q' a s)->wpAny (model prog w) A t Q' E s:=
  λh k=>Q0m h k λ_ _ z=>z.elim
 refine Q0 (wpAny_standAt (Q0 (no (turn n s hI) λr L ae=>?_)))
 cases r with
 |none=>exact Q0d ae
 |some v=>
  refine Q0 (no ae λ_ Y aj=>?_);refine Q0 (no aj λ_ aa ak=>Q0 (no ak λok U af=>?_))
  cases ok with
  |false=>exact Q0d ⟨rfl,af⟩
  |true=>
   refine Q0 (Q0 (no af λx ab al=>?_));exact Q0 (no al λ_ ac am=>Q0d (Q0d ⟨rfl,am⟩))
end
noncomputable abbrev jg (us:List Value) (n:Nat):Obj:={ cls:=.type "list",data:=.seq us.toArray n }
section
variable {X:Cx}{own:List Str}{scope:Scope}
theorem jv.cells (S:jv X own scope){pins:List (Addr × Obj)}{σ:St}{H:Hp}{s:Shared}(I:Inv X pins σ H s):
 ∀y∈scope.names,y.2=.free->∃c,X.env.cells.lookup y.1=some c:=λy J L=>I.ok.has y.1 (S.free y J L)
theorem jv.freeOf (S:jv X own scope){x:Str}(h:(relabel scope X.env).names.lookup x=some .cell\/(relabel scope X.env).names.lookup x=some .free):(x,NameKind.free)∈scope.names:=by
 rw[AX] at h
 cases e:scope.names.lookup x with
 |none=>rw[e] at h;rcases h with h|h <;> cases h
 |some k=>
  rw[e] at h;have I:(x,k)∈scope.names:=PySem.mem_of_lookup e
  have J:k=.free:=by
   rcases h with h|h
   . rcases Gq (Option.some.inj h) with q|q
     . exact q
     . exact absurd q (S.cell _ I)
   . exact Gr (Option.some.inj h)
  rw[<-J];exact I
theorem jv.Gu (S:jv X own scope){x:Str}(I:x∈X.N):(relabel scope X.env).names.lookup x≠some .local:=λh=>by
 rw[AX] at h
 cases e:scope.names.lookup x with
 |none=>rw[e] at h;cases h
 |some k=>
  rw[e] at h;have:=Gp (Option.some.inj h);subst this;exact S.outer x I e
theorem AZ {k:Nat}{σ:St}{i:Nat}{v:V}(h:(List.replicate k none++σ)[i]? =some (some v)):k<=i/\σ[i - k]? =some (some v):=by
 by_cases hi:i<k
 . rw[Q1s (by simpa using hi),Q2u] at h;split at h <;> cases h
 . refine⟨Q12 hi,?_⟩;rw[Q15 (by simpa using hi)] at h;simpa using h
theorem Inv.block {pins:List (Addr × Obj)}{σ:St}{H:Hp}{s:Shared}{fp:List Addr}{cl:List (Str × Addr)}{C D:Addr}{L:Heap}{m:Str->Option Value}{t':Nat}{us:List Value}{n:Nat}(I:Inv X pins σ H s)(S:jv X own scope)
 (hf:∀b∈fp,iK X pins H b) (ag:∀b∈fp,b<s.heap.objs.size)
 (J:∀x c,cl.lookup x=some c->X.env.cells.lookup x=some c) (aa:∀x,(x,NameKind.free)∈scope.names->cl.lookup x=X.env.cells.lookup x)
 (hC:s.heap.objs.size<=C) (hD:s.heap.objs.size<=D) (ah:D≠C) (hn:L.Ns C m) (Y:∀b o,s.heap.get? b=some o->L.get? b=some o) (af:L.get? D=some (jg us n)):
 Inv (iG X own scope cl C fp s H) [(D,jg us n)] (List.replicate own.length none++σ) H { s with heap:=L,toks:=t' }:=by
 have ok:=I.ok
 have nL:∀b:Addr,s.heap.objs.size<=b->b ∉ frs X.stack:=λb U z=>by
  rcases List.mem_cons.mp (I.nM b z) with e|e
  . exact absurd I.lt (by rw[<-e];exact Nat.not_lt.mpr U)
  . exact I.nL U e
 have fresh:∀b:Addr,s.heap.objs.size<=b->H b=none:=λb U=>I.hok.fresh U
 have al:∀x c,cl.lookup x=some c->c<s.heap.objs.size:=λx c e=>by
  obtain⟨v,q⟩:=I.cell x c (J x c e);exact q.lt
 refine⟨⟨ok.mod,S.kind,ok.glob,ok.blt,hC,λx y c e1 e2=>ok.inj x y c (J x c e1) (J y c e2),λx hx=>?_,λx c hx _=>(nomatch hx),ok.hd,ok.frames,.inl rfl,λb U=>?_,I.bs,Q0h ok.j9 I.sz,λb o e U=>?_,λb U z=>?_,I.stack,I.oZ⟩,
  rfl,I.bare,Un.kept Y,⟨m,hn,λi x v e1 e2 e3=>?_⟩,λx c e=>?_,fresh C hC,λx c e=>?_,λp hp=>?_,I.hok.kept Y,?_⟩
 . have hm:=S.freeOf (x:=x) hx;obtain⟨c,e⟩:=ok.has x (S.free _ hm rfl);exact⟨c,by rw[show(iG X own scope cl C fp s H).env.cells=cl from rfl,aa x hm];exact e⟩
 . refine⟨Q0c (Q0b (ag b U) hC),λx c e z=>?_⟩;exact(hf b U).2.2.2.2.1 x c (J x c e) z
 . rcases(hf b U).2.2.2.1 with z|z
   . exact ok.nK b o e z
   . exact absurd (Q0b (Q01 e) (Q0h ok.j9 z)) (Q0l _)
 . rcases List.mem_cons.mp (I.nM b z) with q|q
   . exact(hf b U).2.1 q
   . exact(hf b U).2.2.1 q
 . obtain⟨hk,ai⟩:=AZ e2
   have ab:X.N[i - own.length]? =some x:=by
    have e1:(own++X.N)[i]? =some x:=e1;rw[Q15 hk] at e1;exact e1
   have aj:x∈X.N:=Q0r ab
   have ac:(relabel scope X.env).names.lookup x=some .cell\/(relabel scope X.env).names.lookup x=some .free:=by
    rcases e3 with q|q
    . exact absurd q (S.Gu aj)
    . exact q
   have hm:=S.freeOf ac;have ae:=S.free _ hm rfl;obtain⟨mX,am,ak⟩:=I.loc;obtain⟨u,r,lk⟩:=ak _ x v ab ai (.inr ae);refine⟨u,r,.inr ⟨ac,?_⟩⟩;rcases lk with⟨q,_⟩|⟨_,c,ec,hc⟩
   . rcases ae with z|z
     . rw[z] at q;cases q
     . rw[z] at q;cases q
   . obtain⟨o,ho,hd⟩:=hc;exact⟨c,(aa x hm).trans ec,o,Y _ _ ho,hd⟩
 . obtain⟨v,o,ho,hd⟩:=I.cell x c (J x c e);exact⟨v,o,Y _ _ ho,hd⟩
 . exact I.i7 x c (J x c e)
 . have e:p=(D,jg us n):=by
    have hp:p∈([]++[(D,jg us n)]:List (Addr × Obj)):=hp;simpa using hp
   subst e
   exact⟨af,fresh D hD,ah,nL D hD,λv z=>by
    have z:Data.seq us.toArray n=Data.cell v:=z
    cases z⟩
 . show _=(own++X.N).length;rw[Q09,Q09,Q1t,I.len]
theorem Inv.unblock {pins:List (Addr × Obj)}{σ aa:St}{H H3:Hp}{s s3:Shared}{fp:List Addr}{cl:List (Str × Addr)}{C D:Addr}{h':Heap}{us:List Value}{n:Nat}{ys:List V}{pl:List (Addr × Obj)}(I:Inv X pins σ H s)
 (hf:∀b∈fp,iK X pins H b) (J:Inv (iG X own scope cl C fp s H) pl aa H3 s3) (ab:(D,jg us n)∈pl) (hC:s.heap.objs.size<=C) (hD:s.heap.objs.size<=D) (ac:D≠C)
 (r:Vals ys us) (hz:ys.length<=sizeLine) (hs:Heap.SameBut C s3.heap h'):Inv X pins σ (upd H3 D (.lst ys)) { s3 with heap:=h' }/\H3 D=none:=by
 obtain⟨eD,Y,_,_,_⟩:=J.pin (D,jg us n) (Q08 _ ab);have nC:H3 C=none:=J.free;have kC:∀b o,b≠C->s3.heap.get? b=some o->h'.get? b=some o:=λb o L e=>(hs.2 b L).trans e;refine⟨I.call' (ch:=fp) J.os ⟨λb o e nb L U=>?_,λb o e nb L U=>?_,λb o e nb U=>?_,λb o e U=>?_,λb xs e=>?_,λb o u e=>?_,λb ps e=>?_⟩ (λb o e=>?_) J.bare (λb L=>?_),Y⟩
 . exact kC b o (Q0c (Q0b (Q01 e) hC)) (J.base.keep b o e nb L U)
 . obtain⟨sl,e1⟩:=J.base.slot b o e nb L U;exact⟨sl,kC b _ (Q0c (Q0b (Q01 e) hC)) e1⟩
 . rw[eU (Q0c (Q0b (Q01 e) hD))];exact J.base.free b o e nb U
 . obtain⟨o',e1⟩:=J.base.there b o e U;exact⟨o',kC b _ (Q0c (Q0b (Q01 e) hC)) e1⟩
 . have q:=J.base.tups b xs e;rw[eU (ff q Y)];exact q
 . have q:=J.base.jr b o u e;rw[eU (ff q Y)];exact q
 . obtain⟨mo,q⟩:=J.base.js b ps e;exact⟨mo,by rw[eU (ff q Y)];exact q⟩
 . by_cases L:b=D
   . subst L;rw[eW] at e;cases e;exact⟨hz,us,n,r,kC b _ ac eD⟩
   . rw[eU L] at e;refine(J.hok b o e).stay (λc v hc q=>kC c v ?_ q) (λc q=>by rw[eU (ff q Y)];exact q) λc xs q=>by rw[eU (ff q Y)];exact q
     rcases hc with z|z
     . rw[z];exact ff e nC
     . exact ff z nC
 . obtain⟨_,f1,_,f3,f4,f5⟩:=hf b L;exact⟨f3,f1,f4,f5⟩
theorem A0 {tg iter ar:Expr}{au:List Expr}{pos:Pos}{g:TG}{tt:TT}{te:TE}{pins:List (Addr × Obj)}{σ:St}{H2:Hp}{I:Shared}{it:Addr}{U:List Addr}{tn:Nat->Heap->Prop}{J:It}{cl:List (Str × Addr)}{Fin:List V->Hp->Prop}{W:Nat->Nat->List V->Hp->Prop}{m0:Nat}
 {RR:Value->Addr->Result->Shared->Prop} (hc:X.calm=true) (S:jv X own scope) (ai:∀x c,cl.lookup x=some c->X.env.cells.lookup x=some c) (aG:∀x,(x,NameKind.free)∈scope.names->cl.lookup x=X.env.cells.lookup x)
 (I2:Inv X pins σ H2 I) (T:Turn X.prog X.w X.K tg J U it tn) (ay:tn 0 I.heap) (f2:∀b∈U,iK X pins H2 b) (w0:W 0 m0 [] H2)
 (turn:∀i m ys H,W i m ys H->(J.stop i H/\Fin ys H)\/
   (J.go i H/\ys.length<sizeLine/\∀x H',J.jU i H x H'->g x (List.replicate own.length none++σ) H' λav H2=>av.drop own.length=σ/\
     tt av H2 λb H3=>if b=true then te av H3 λy H4=>∃m',m'<m/\W (i+1) m' (ys++[y]) H4 else ∃m',m'<m/\W (i+1) m' ys H3))
 (hg:∀cl C U ac ae,PG (iG X own scope cl C U ac ae) tg g) (ht:∀cl C U ac ae,pG (iG X own scope cl C U ac ae) au tt) (he:∀cl C U ac ae,PE (iG X own scope cl C U ac ae) ar te)
 (aK:∀(C D:Addr) (s5:Shared) (H5:Hp) (ys:List V) (us:List Value) (k:Nat),I.heap.objs.size<=C->I.heap.objs.size<=D->D≠C->Inv (iG X own scope cl C U I H2) [(D,jg us k)] (List.replicate own.length none++σ) H5 s5->Vals ys us->ys.length<=sizeLine->Fin ys H5->RR (.ref D) C (.ok .next) s5):
 wpAny (model X.prog X.w) X.A (newList []) (λaz af=>wpAny (model X.prog X.w) X.A (newFunctionEnv scope X.env.globals cl [] X.env.qual none .none (some X.env)) (λal aH=>
  codeAny (model X.prog X.w) X.A (.compStart (.ListComp ar [⟨tg,iter,au,0⟩] scope pos) 0 (.ref it) az { al with scope:=relabel scope X.env }) (RR az al.locals) aH) X.xe af) X.xe I:=by
 have ak:∀b∈U,b<I.heap.objs.size:=λb L=>by
  obtain⟨o,e,_⟩:=T.obj _ _ ay b L;exact Q01 e
 refine wpAny_newObj_type (wpAny_newFunctionEnv S.cell (by intro y hy;simp at hy) (λag aa Y=>?_) S.kind);dsimp only at aa Y ⊢;generalize hG:I.heap.push { cls:=.type "list",dict:=none,data:=.seq ([]:List Value).toArray }=G at aa Y ⊢;have aA:G.objs.size=I.heap.objs.size+1:=by rw[<-hG,Q1q]
 have hC:I.heap.objs.size<=G.objs.size:=by rw[aA];exact Q18 _
 have aw:I.heap.objs.size≠G.objs.size:=by rw[aA];exact Q0c (Q1 _)
 have aB:∀b o,I.heap.get? b=some o->ag.get? b=some o:=λb o e=>
  Y.extBut b o (Q0c (Q0b (Q01 e) hC)) (Q0a _ (hG ▸ Q0a _ e))
 have aI:ag.get? I.heap.objs.size=some (jg [] 0):=Y.extBut _ _ aw (Q0a _ (hG ▸ Q0n _ rfl));have I3:=I2.block (cl:=cl) (t':=I.toks+([]:List (Str × Value)).length) S f2 ak ai aG hC (Q00 _) aw aa aB aI;have aC:tn 0 ag:=T.keep _ _ _ ay λb _ o e=>aB b o e;have aL:∀b∈U,H2 b=none:=λb L=>(f2 b L).1
 have aj:∀{H':Hp} {us:List Value} {n:Nat},(∀b∈U,H' b=none)->∀b∈U,iK (iG X own scope cl G.objs.size U I H2) [(I.heap.objs.size,jg us n)] H' b:=λ{H' us n} hn b L=>by
  refine⟨hn b L,Q0c (Q0b (ak b L) hC),λz=>?_,.inl L,λx c e=>(f2 b L).2.2.2.2.1 x c (ai x c e),λp hp=>?_⟩
  . rcases List.mem_cons.mp (I2.nM b z) with q|q
    . exact(f2 b L).2.1 q
    . exact(f2 b L).2.2.1 q
  . have hp:p∈([]++[(I.heap.objs.size,jg us n)]:List (Addr × Obj)):=hp;have e:p=(I.heap.objs.size,jg us n):=by simpa using hp
    subst e;exact Q0v (ak b L)
 have am:∀af:Shared,af={ I with heap:=ag,toks:=I.toks+([]:List (Str × Value)).length }->
  codeAny (model X.prog X.w) X.A (.compLoop (.ListComp ar [⟨tg,iter,au,0⟩] scope pos) 0 (.ref it) (.ref I.heap.objs.size) (compEnvC scope cl G.objs.size X.env))
   (RR (.ref I.heap.objs.size) G.objs.size) af:=by
  rintro af rfl
  refine Gs (λn s'=>∃i ys us k H',Inv (iG X own scope cl G.objs.size U I H2) [(I.heap.objs.size,jg us k)] (List.replicate own.length none++σ) H' s'/\Vals ys us/\ys.length<=sizeLine/\tn i s'.heap/\(∀b∈U,H' b=none)/\W i n ys H')
   ?_ m0 ⟨0,[],[],0,H2,I3,.nil,Q07 _,aC,aL,w0⟩
  intro n s4 zq;obtain⟨i,ys,us,k,H4,I4,r4,z4,aD,aE,w4⟩:=zq;rcases turn i n ys H4 w4 with⟨stop,qn⟩|⟨go,aM,step⟩
  . refine fk (T.done (iG X own scope cl G.objs.size U I H2) rfl rfl rfl hc i _ s4 _ H4 (λ_ _=>False) I4 (aj aE) aD stop) λr s5 ⟨hr,I5⟩=>?_;subst hr;exact aK G.objs.size I.heap.objs.size s5 H4 ys us k hC (Q00 _) aw I5 r4 z4 qn
  . refine fk (T.item (iG X own scope cl G.objs.size U I H2) rfl rfl rfl hc i _ s4 _ H4 (λ_ _=>False) I4 (aj aE) aD go) λr s5 ⟨u,hr,h5⟩=>?_;subst hr;refine fk h5 λ_ s6 zq=>?_;obtain⟨x,H6,I6,r6,y6,ah,aP⟩:=zq;have aQ:=I6.pinned (aj aP) (T.obj _ _ ah);refine fk (hg cl G.objs.size U I H2 _ s6 _ H6 x u _ aQ r6 (step x H6 y6)) λ_ s7 zq=>?_;obtain⟨ab,H7,I7,d7,q7⟩:=zq;refine fk (ht cl G.objs.size U I H2 _ s7 ab H7 _ I7 q7) λb s8 ⟨H8,I8,q8⟩=>?_;have an:(List.replicate own.length none++σ).length=ab.length:=by rw[I7.len,<-I6.len]
    have ao:∀(j:Nat) v,(List.replicate own.length none++σ)[j]? =some (some v)->ab[j]? =some (some v):=λj v e=>by
     obtain⟨hk,e'⟩:=AZ e;rw[<-d7,List.getElem?_drop] at e';rw[<-e'];congr 1;omega
    cases b with
    |false=>
     have q8:∃m',m'<n/\W (i+1) m' ys H8:=q8;obtain⟨m',hm,w8⟩:=q8;refine⟨m',hm,i+1,ys,us,k,H8,I8.lh.weak an ao,r4,z4,T.keep _ _ _ ah λb L o e=>?_,λb L=>?_,w8⟩
     . exact(I8.pin (b,o) (Q08 _ (Q08 _ (o8 L e)))).1
     . obtain⟨o,e,d⟩:=T.obj _ _ ah b L;exact(I8.pin (b,o) (Q08 _ (Q08 _ (o8 L e)))).2.1
    |true=>
     have q8:te ab H8 λy H9=>∃m',m'<n/\W (i+1) m' (ys++[y]) H9:=q8;show wpAny _ _ _ _ _ _;refine fk (he cl G.objs.size U I H2 _ s8 ab H8 _ I8 q8) λyv s9 zq=>?_;obtain⟨y,H9,I9,r9,m',hm,w9⟩:=zq;obtain⟨eD,nD,aF,aT,_⟩:=I9.pin (I.heap.objs.size,jg us k) (Q08 _ (Q0s _ Q04));have hl:=r4.length;refine append_at (hsz:=by rw[Q05,<-hl];exact z4) eD λax ap aJ=>?_
     have aq:∀b∈U,∀o,s6.heap.get? b=some o->s9.heap.get? b=some o/\H9 b=none:=λb L o e=>by
      have q:=I9.pin (b,o) (Q08 _ (Q08 _ (o8 L e)));exact⟨q.1,q.2.1⟩
     have aU:∀b∈U,b≠I.heap.objs.size:=λb L=>Q0c (ak b L);have aV:Inv (iG X own scope cl G.objs.size U I H2) [] ab H9 s9:=I9.my λp hp=>(nomatch hp)
     have aW:Inv (iG X own scope cl G.objs.size U I H2) [] ab H9 { s9 with heap:=ax }:=
      aV.turned (t':=s9.toks) (λb o L e=>ap.extBut b o L e) nD aF (.inr (Q00 _)) (λx c e z=>by
        obtain⟨v,q⟩:=I2.cell x c (ai x c e);exact absurd q.lt (by rw[z];exact Q0l _)) λp hp=>(nomatch hp)
     have aX:Inv (iG X own scope cl G.objs.size U I H2) [(I.heap.objs.size,jg (us++[yv]) (k+1))] ab H9 { s9 with heap:=ax }:=aW.my λp hp=>by
      have e:p=(I.heap.objs.size,jg (us++[yv]) (k+1)):=by simpa using hp
      subst e
      refine⟨?_,nD,aF,aT,λv z=>by
       have z:Data.seq (us++[yv]).toArray (k+1)=Data.cell v:=z
       cases z⟩
      show ax.get? _=some { cls:=.type "list",data:=.seq (us++[yv]).toArray (k+1) };rw[<-List.push_toArray];exact aJ
     refine⟨m',hm,i+1,ys++[y],us++[yv],k+1,H9,aX.weak an ao,r4.append (.cons r9 .nil),by rw[Q09,Q1g];exact aM,T.keep _ _ _ ah λb L o e=>ap.extBut b o (aU b L) (aq b L o e).1,λb L=>?_,w9⟩;obtain⟨o,e,d⟩:=T.obj _ _ ah b L;exact(aq b L o e).2
 exact codeAny_compStart_list (am _ rfl) (T.self _ 0 _ _ _ aC (am _ rfl))
theorem kr {tg iter aa:Expr}{ab:List Expr}{pos:Pos}{wi:TI}{g:TG}{tt:TT}{te:TE}(hc:X.calm=true)(S:jv X own scope)(hi:PI X tg iter wi)
 (hg:∀cl C fp L U,PG (iG X own scope cl C fp L U) tg g) (ht:∀cl C fp L U,pG (iG X own scope cl C fp L U) ab tt)
 (he:∀cl C fp L U,PE (iG X own scope cl C fp L U) aa te) (hs:∀x,foldedSetIterable iter X.env x=pure x:=by intro _;rfl):
 PE X (.ListComp aa [⟨tg,iter,ab,0⟩] scope pos) (AY own.length wi g tt te):=by
 intro pins s σ H Q I h;obtain⟨cl,Y,ac,ae⟩:=qS (S.cells I);rw[eval_ListComp];refine wpAny_comprehension_free (use:=none) rfl hs Y S.kind S.names ?_;refine fk (hi pins s σ H _ I h) λv s1 h1=>fk h1 λak s2 h2=>?_;obtain⟨it,fp,tn,J,H2,af,I2,T,ag,f2,W,⟨m0,w0⟩,turn⟩:=h2;subst af;refine A0 (RR:=λah C=>compPost (model X.prog X.w) X.A X.xe none (EP X pins σ Q) ah C) hc S ac ae I2 T ag f2 w0 turn hg ht he ?_;intro C D s5 H5 ys us k hC hD ai I5 r5 z5 fin;obtain⟨m5,n5,_⟩:=id I5.loc;refine⟨m5,n5,λh' aj=>?_⟩;obtain⟨I6,nD⟩:=I2.unblock f2 I5 Q04 hC hD ai r5 z5 aj;exact⟨.ref D,_,I6,rfl,fin _ nD⟩
theorem qT {i:Nat}{y:Str}{py Y:Pos}{tg iter aa:Expr}{ab:List Expr}{pos:Pos}{wi:TI}{g:TG}{tt:TT}{te:TE}(hN:X.N.Nodup)(hy:X.N[i]? =some y)(hL:Loc X.env.scope y)(hc:X.calm=true)(S:jv X own scope)(hi:PI X tg iter wi)
 (hg:∀cl C fp L U,PG (iG X own scope cl C fp L U) tg g) (ht:∀cl C fp L U,pG (iG X own scope cl C fp L U) ab tt)
 (he:∀cl C fp L U,PE (iG X own scope cl C fp L U) aa te) (hf:X.fn y=true\/X.env.scope.names.lookup y=some .local:=by first|exact .inl rfl|exact .inr rfl|assumption)
 (ak:swapsWith (.ListComp aa [⟨tg,iter,ab,0⟩] scope pos) (some (.Name y py)) Y.line X.env=pure true:=by rfl) (hs:∀x,foldedSetIterable iter X.env x=pure x:=by intro _;rfl):
 PS X (.Assign [.Name y py] (.ListComp aa [⟨tg,iter,ab,0⟩] scope pos) Y) (jT (AY own.length wi g tt te) (gK i)):=by
 intro pins s σ H E I h;obtain⟨cl,ac,ah,ai⟩:=qS (S.cells I);rw[exec_Assign_Name_used _ _ _ _ ak];refine Q0 (wpAny_standAt (Q0 ?_));show wpAny _ _ (do let _ <-comprehension _ scope X.env _ (newList []) false (eval iter X.env) (some (assign (.Name y py) X.env))) _ _ s
 refine Q0 (fk (wpAny_comprehension_free (use:=some (assign (.Name y py) X.env)) (Q:=λ_ s'=>SP X pins E .next s') rfl hs ac S.kind S.names
  (fk (hi pins s σ H _ I h) λv s1 h1=>fk h1 λaq s2 h2=>?_)) λ_ s' hq=>Q0d (Q0d hq))
 obtain⟨it,fp,tn,J,H2,al,I2,T,am,f2,W,⟨m0,w0⟩,turn⟩:=h2;subst al;refine A0 (RR:=λan C=>compPost (model X.prog X.w) X.A X.xe (some (assign (.Name y py) X.env)) (λ_ s'=>SP X pins E .next s') an C) hc S ah ai I2 T am f2 w0 turn hg ht he ?_;intro C D s5 H5 ys us k hC hD af I5 r5 z5 fin;obtain⟨m5,n5,_⟩:=id I5.loc;obtain⟨I6,nD⟩:=I2.unblock f2 I5 Q04 hC hD af r5 z5 (Heap.SameBut.refl C s5.heap);obtain⟨oC,es,ep,eC,dC,rC⟩:=id n5;have nC:upd H5 D (.lst ys) C=none:=by rw[eU (Ne.symm af)];exact I5.free
 have ag:C≠X.env.locals:=Q0v (Q0b I2.lt hC)
 have ae:∀x c,X.env.cells.lookup x=some c->c≠C:=λx c e z=>by
  obtain⟨v,q⟩:=I2.cell x c e;exact absurd q.lt (by rw[z];exact Nat.not_lt.mpr hC)
 have aj:∀p∈X.pn++pins,p.1≠C:=λp hp z=>by
  have:=Q01 (I2.pin p hp).1;rw[z] at this;exact absurd this (Nat.not_lt.mpr hC)
 have I7:Inv X (pins++[(C,oC)]) σ (upd H5 D (.lst ys)) s5:=by
  refine I6.my λp hp=>?_;rcases List.mem_append.mp hp with z|z
  . exact I6.pin p (Q08 _ z)
  . have e:p=(C,oC):=by simpa using z
    subst e
    exact⟨eC,nC,ag,I2.nL hC,λv z=>by
     have z:oC.data=Data.cell v:=z;rw[dC] at z;cases z⟩
 show wpAny _ _ (assign (.Name y py) X.env (.ref D)) _ _ s5;refine wpAny_assign_Name (o4 (v:=.ref D) I7 hN hy hL rfl (λs8 I8=>?_) hf);obtain⟨ao,ar,_⟩:=I8.pin (C,oC) (Q08 _ (Q08 _ Q04));refine⟨_,⟨oC,es,ep,ao,dC,rC⟩,λh' ap=>?_⟩
 have I9:Inv X pins (σ.set i (some (.ref D))) (upd H5 D (.lst ys)) { s8 with heap:=h' }:=
  I8.lh.turned (t':=s8.toks) (λb o hb e=>(ap.2 b hb).trans e) nC ag (.inr (Q0h I2.sz hC)) ae aj
 exact⟨_,_,I9,fin _ nD⟩
end
section
variable {X:Cx}
theorem Gv {e:Expr}:PT X e (λ_ _ _=>False):=λ_ _ _ _ _ _ h=>h.elim
theorem iV:jG X (.builtin "isinstance") (λxs H Q=>∃x T t b,xs=[x,.ty T]/\je X.K H x t/\W.kitOne X.K t (.type T)=some b/\Q (.bl b) H):=by
 intro pins s σ H xs us Q I r h;obtain⟨x,T,t,b,rfl,ty,e,q⟩:=h;obtain⟨u,c,rfl,J,L⟩:=vals2 r
 cases L;exact FE I J ty e λtk=>⟨.bl b,H,I.tok tk,rfl,q⟩
theorem ux:jG X (.builtin "len") (λxs H Q=>(∃a kvs,xs=[V.ref a]/\H a=some (.dK kvs)/\Q (.int kvs.length) H)\/∃p ys,xs=[.ref p]/\(d_ X.K H p ys\/eX X.K H p ys)/\Q (.int ys.length) H):=by
 intro pins s σ H xs us Q I r h;rcases h with h|h
 . exact AV pins s σ H xs us Q I r h
 . exact iu pins s σ H xs us Q I r h
theorem A1:∀{ss:List Str}{vs:List Value},Vals (ss.map V.str) vs->StrsAre vs ss
 |[],_,r=>by cases r;exact .nil
 |y::r,_,h=>by
  cases h with
  |cons a b=>
   obtain⟨t,e⟩:=a;subst e;exact .cons y t (A1 b)
theorem A2:∀{vs:List Value}{ss:List Str},StrsAre vs ss->Vals (ss.map V.str) vs
 |_,_,.nil=>.nil
 |_,_,.cons y t h=>.cons ⟨t,rfl⟩ (A2 h)
theorem Gw:jG X (.builtin "sorted") (λxs H Q=>∃a ss,xs=[.ref a]/\d_ X.K H a (ss.map V.str)/\ss.length<64/\
 ∀p J,H p=none->J.Perm ss->sortedS J=true->Q (.ref p) (upd H p (.lst (J.map V.str)))):=by
 intro pins s σ H xs us Q I r h;obtain⟨a,ss,rfl,Y,aa,q⟩:=h;obtain⟨u,rfl,ru⟩:=vals1 r
 cases ru;obtain⟨L,U,pl,hz⟩:=I.list Y;have hl:L.length=ss.length:=by rw[<-U.length,Q03]
 refine sorted_strs pl.isList (A1 U) (by omega) λout J h1 h2 h3=>?_;obtain⟨e,he⟩:=sortedAll_at s.heap L out;refine⟨.ref (s.heap.objs.size+1),upd H (s.heap.objs.size+1) (.lst (J.map V.str)),I.laid (t':=s.toks) (λ_ _=>sortedAll_old) (Q18 _) ?_,rfl,q _ J (I.hok.fresh (Q18 _)) h2 h3⟩;refine⟨?_,out.toList,e,A2 h1,he⟩;rw[Q03,h2.length_eq];have:ss.length<=1000:=by omega
 exact Q0p (ig this)
noncomputable def mR (I:List Value) (i:Nat):Bool:=match I[i]? with
 |some (.bool b)=>b
 |_=>false
theorem Gx:∀{bs:List Bool}{I:List Value},Vals (bs.map V.bl) I->(List.range I.length).all (mR I)=bs.all id:=by
 intro bs I r
 have key:∀i,i<bs.length->mR I i=bs.getD i false:=λi hi=>by
  have e:(bs.map V.bl)[i]? =some (.bl bs[i]):=by rw[Q0j,Q02 hi];rfl
  obtain⟨u,L,U⟩:=r.get e
  cases U;unfold mR;rw[L,Q06,Q02 hi];rfl
 have hl:I.length=bs.length:=by rw[<-r.length,Q03]
 rw[hl,Bool.eq_iff_iff,Q13,Q13];constructor
 . intro h b Y;obtain⟨i,hi,e⟩:=Q1b Y;have q:=h i (List.mem_range.mpr hi);rw[key i hi,Q06,Q02 hi,Q2z,e] at q;exact q
 . intro h i hi;have J:=List.mem_range.mp hi;rw[key i J,Q06,Q02 J,Q2z];exact h _ (Q0y J)
theorem qU (hc:X.calm=true):jG X (.builtin "all") (λxs H Q=>∃(a:Addr) (bs:List Bool),xs=[.ref a]/\d_ X.K H a (bs.map V.bl)/\Q (.bl (bs.all id)) H):=by
 intro pins s σ H xs us Q I r h;obtain⟨a,bs,rfl,hq,q⟩:=h;obtain⟨u,rfl,ru⟩:=vals1 r
 cases ru;obtain⟨J,Y,pl,hz⟩:=I.list hq;have aa:a<s.heap.objs.size:=by obtain⟨_,e,_⟩:=pl.isList;exact Q01 e
 refine call_all_walk (wpAny_pyIter_list pl.isList ?_);refine⟨s.heap.objs.size,_,_,_,_,_,mR J,rfl,Walks.list (show X.A.in1.handled=none from I.ok.hd hc) s.heap.objs.size a (Q0c aa) J.toArray,⟨⟨_,Q0n _ rfl,rfl,rfl⟩,pl.isList.push _⟩,λi v s' Q' E' hP hQ=>?_,λh' tk hk=>?_⟩
 . have e:J[i]? =some v:=by simpa using hP
   have hi:i<J.length:=(List.getElem?_eq_some_iff.mp e).1;have hb:i<(bs.map V.bl).length:=by rw[Y.length];exact hi
   obtain⟨w',ew,L⟩:=Y.get (Q02 hb);rw[e] at ew;cases ew;rw[List.getElem_map] at L
   cases L;refine wpAny_truthy_bool ?_;have U:mR J i=bs[i]'(by simpa using hb):=by unfold mR;rw[e]
   rw[U] at hQ;exact hQ
 . have e:(List.range J.toArray.size).all (mR J)=bs.all id:=by rw[Q05];exact Gx Y
   rw[e];have ns:H s.heap.objs.size=none:=I.hok.fresh (Q00 _);refine⟨.bl (bs.all id),H,I.kept (h':=h') (t':=tk) λb o U=>hk b o ?_ (Q0a _ U),rfl,q⟩;intro hm;have:b=s.heap.objs.size:=by simpa using hm
   exact absurd (Q01 U) (by rw[this];exact Q0l _)
noncomputable def Ite (K:W.Frag) (a:Addr):It:=
 ⟨λi H=>∃xs x,d_ K H a xs/\xs[i]? =some x,
  λi H x H'=>∃p y,H p=none/\x=.ref p/\(∀xs,d_ K H a xs->xs[i]? =some y)/\H'=upd H p (.tup [.int i,y]),
  λi H=>∃xs,d_ K H a xs/\xs.length<=i⟩
theorem Gy {P:Program}{w:World}{K:W.Frag}{ac:List Expr}{k:Nat}{tpos:Pos}{a e it:Addr}(aa:e≠it):
 Turn P w K (.Tuple ac k tpos) (Ite K a) [e,it] e (λi h=>∃L,IsEnum h e it (i:Int) L/\h.IsListIter it a i) where
 mem:=by simp
 obj:=λi h st b J=>by
  obtain⟨L,h1,h2⟩:=st;have J:b=e\/b=it:=by simpa using J
  rcases J with rfl|rfl
  . exact⟨_,h1,λv z=>by
     have z:Data.fields _=Data.cell v:=z
     cases z⟩
  . obtain⟨o,q,c,d⟩:=h2;exact⟨o,q,λv z=>by rw[d] at z;cases z⟩
 keep:=λi h h' st k=>by
  obtain⟨L,h1,h2⟩:=st;exact⟨L,k e (by simp) _ h1,h2.at λo q=>k it (by simp) o q⟩
 item:=by
  intro X hP hw hK hc i pins s σ H E I hf st hg;subst hP hw hK;obtain⟨L,h1,h2⟩:=st;obtain⟨xs,x,hq,hx⟩:=hg;obtain⟨ae,rv,p,hz⟩:=I.list hq;obtain⟨u,hu,ru⟩:=rv.get hx;obtain⟨e0,e1,e2,e3,e4,e5⟩:=hf e (by simp);obtain⟨f0,f1,f2,f3,f4,f5⟩:=hf it (by simp);have Y:H s.heap.objs.size=none:=I.hok.fresh (Q00 _);refine wpAny_pyNext_enum_item h1 h2 p.isList (x:=u) (by simpa using hu) aa λh' q1 q2 q3 q4 q5=>?_;refine(Zr rfl (wpAny_letOwnedTupleGo_enum (s:={ s with heap:=h',toks:=s.toks+1 }) q1 λU g1 g2=>?_));have af:∀b o,s.heap.get? b=some o->b≠s.heap.objs.size:=λb o q=>Q0c (Q01 q);have kk:∀b o,b≠e->b≠it->s.heap.get? b=some o->U.get? b=some o:=λb o n1 n2 q=>g2.extBut b o n1 (q5 b o n1 n2 q);have pe:s.heap.objs.size≠e:=Q0v (Q01 h1);have tup:U.get? s.heap.objs.size=some { cls:=.type "tuple",data:=.seq #[.int i s.toks,u] }:=g2.extBut _ _ pe q3
  have I1:Inv X pins σ (upd H s.heap.objs.size (.tup [.int i,x])) { s with heap:=U,toks:=s.toks+1 }:=by
   refine I.step (g':=s.gens) (d':=s.drawn) (ch:=[e,it]) (λb J=>?_) (λb o _ _ hc q _=>?_) (λb o _ _ hc q _=>?_) (λb o _ q n=>?_) (λb o hc q=>?_) (λb ys q=>?_) (λb o v q=>?_) (λb ps q=>?_) (λm hm=>?_) (λb o q=>?_) I.bare
   . have J:b=e\/b=it:=by simpa using J
     rcases J with rfl|rfl
     . exact⟨e3,e1,e4,e5⟩
     . exact⟨f3,f1,f4,f5⟩
   . exact kk b o (λz=>hc (by simp[z])) (λz=>hc (by simp[z])) q
   . exact⟨o.slots,kk b o (λz=>hc (by simp[z])) (λz=>hc (by simp[z])) q⟩
   . rw[eU (af b o q)];exact n
   . exact⟨o,kk b o (λz=>hc (by simp[z])) (λz=>hc (by simp[z])) q⟩
   . rw[eU (ff q Y)];exact q
   . rw[eU (ff q Y)];exact q
   . exact⟨#[],by rw[eU (ff q Y),q];simp⟩
   . obtain⟨o,es,ep,ho,r⟩:=hm;exact⟨o,es,ep,kk _ o (Ne.symm e1) (Ne.symm f1) ho,r⟩
   . by_cases J:b=s.heap.objs.size
     . subst J;rw[eW] at q;cases q;refine⟨xv,[.int i s.toks,u],.cons ⟨_,rfl⟩ (.cons ru .nil),?_⟩;exact⟨_,tup,rfl,_,rfl⟩
     . rw[eU J] at q;refine(I.hok b o q).stay (λc v ab z=>kk c v ?_ ?_ z) (λc z=>by rw[eU (ff z Y)];exact z) λc ys z=>by rw[eU (ff z Y)];exact z
       . rcases ab with z|z
         . rw[z];exact ff q e0
         . exact ff z e0
       . rcases ab with z|z
         . rw[z];exact ff q f0
         . exact ff z f0
  refine⟨.ref s.heap.objs.size,_,I1,rfl,⟨s.heap.objs.size,x,Y,rfl,λys hy=>by rw[I.qB hy hq];exact hx,rfl⟩,⟨u,?_,q2.extBut g2.extBut (Ne.symm aa)⟩,λb J=>?_⟩
  . have ei:((i+1:Nat):Int)=(i:Int)+1:=by omega
    show IsEnum U e it ((i+1:Nat):Int) u;rw[ei];exact g1
  . have ag:b=e\/b=it:=by simpa using J
    have ah:b<s.heap.objs.size:=by
     rcases ag with rfl|rfl
     . exact Q01 h1
     . obtain⟨o,q,_⟩:=h2;exact Q01 q
    rw[eU (Q0c ah)];exact(hf b J).1
 done:=by
  intro X hP hw hK hc i pins s σ H E I hf st hg;subst hP hw hK;obtain⟨L,h1,h2⟩:=st;obtain⟨xs,hq,hx⟩:=hg;obtain⟨ae,rv,p,hz⟩:=I.list hq;obtain⟨f0,f1,f2,f3,f4,f5⟩:=hf it (by simp);have hl:=rv.length;exact wpAny_pyNext_enum_end (I.ok.hd hc) h1 h2 p.isList (by simp;omega) λh' eb=>⟨rfl,I.turned (t':=s.toks) (λb o J q=>eb b o J q) f0 f1 f3 f4 f5⟩
 self:=λA i s Q E st q=>by
  obtain⟨L,h1,_⟩:=st;exact wpAny_pyIter_enum h1 q
def Gz (K:W.Frag) (ta:TA):TI:=λσ H R=>ta σ H λvs H1=>∃a,vs=[.ref a]/\(∃xs,d_ K H1 a xs)/\R (Ite K a) H1
theorem GA:bootBuiltins "enumerate"=some (.type "enumerate"):=by decide +kernel
theorem A4 {a:Expr}{ta:TA}{p pos tpos:Pos}{U:List Expr}{k:Nat}(hg:Gl X "enumerate")(hm:X.mg "enumerate"=none)(ha:PA X [a] ta)(hs:starEach [a] X.env=[(false,eval a X.env)]:=by rfl):
 PI X (.Tuple U k tpos) (.Call (.Name "enumerate" p) [a] [] pos) (Gz X.K ta):=by
 intro pins s σ H R I h;refine Call_ (k_ I hg hm GA (PyProof.Rows.callWith_type1 (fk (ha pos pins s σ H _ I h) λus J zq=>?_) hs rfl));obtain⟨vs,H1,Y,r1,q1⟩:=zq;obtain⟨l,e,⟨xs,hq⟩,q⟩:=q1;subst e;obtain⟨u,rfl,ru⟩:=vals1 r1
 cases ru;obtain⟨aa,rv,pl,hz⟩:=Y.list hq;refine call_enumerate_list pl.isList λh' q1 q2 q3 q4=>?_;refine wpAny_pyIter_enum q1 ?_;have I2:Inv X pins σ H1 { J with heap:=h' }:=Y.kept (t':=J.toks) q4;refine⟨J.heap.objs.size+1,[J.heap.objs.size+1,J.heap.objs.size],_,_,H1,rfl,I2,Gy (Q0v (Q1 _)),⟨.none,q1,q2⟩,λb L=>?_,q⟩
 have L:J.heap.objs.size<=b:=by
  have L:b=J.heap.objs.size+1\/b=J.heap.objs.size:=by simpa using L
  rcases L with z|z
  . rw[z];exact Q18 _
  . rw[z];exact Q00 _
 exact Y.mC L (Y.hok.fresh L)
theorem boot_zip:bootBuiltins "zip"=some (.type "zip"):=by decide +kernel
theorem GB:g8 X (binaryOp .Mult) (λx y H Q=>∃z i,x=.str z/\y=.int i/\MulOk z i/\Q (.str (Txt.mul z i)) H):=by
 intro pins s σ H x y v u Q I J L h;obtain⟨z,i,rfl,rfl,ok,q⟩:=h;obtain⟨t,rfl⟩:=J;obtain⟨t',rfl⟩:=L;exact SB.mul ok λU k=>⟨.str (Txt.mul z i),H,I.tok k,⟨_,rfl⟩,q⟩
theorem A5 {v:Value}{o:Option Int}(h:IsPart v o):(v=.none/\o=none)\/∃i t,v=.int i t/\o=some i:=by
 cases h with
 |none=>exact .inl ⟨rfl,rfl⟩
 |int i t=>exact .inr ⟨i,t,rfl,rfl⟩
theorem A6:ud X (λx lo hi H Q=>∃z,x=.str z/\z.length<=sizeLine/\Q (.str (Txt.slice z lo hi)) H):=by
 intro pins s σ H x v vl vu lo hi sl Q I rx hs pl pu h;obtain⟨z,rfl,hz,q⟩:=h;obtain⟨t,rfl⟩:=rx
 have fin:∀{lo hi:Option Int} (q:Q (.str (Txt.slice z lo hi)) H),(Txt.slice z lo hi).length<=sizeLine/\∀t' k,EP X pins σ Q (.str (Txt.slice z lo hi) t') { s with toks:=k }:=
  λq=>⟨Q0h (Txt.slice_le z _ _) hz,λt' k=>⟨.str _,H,I.tok k,⟨t',rfl⟩,q⟩⟩
 refine⟨"str",_,F.slot_str_getitem.lookup,typeIs_str _ _ _,?_⟩;obtain⟨o,J,hc,L⟩:=hs;rcases A5 pl with⟨U,rfl⟩|⟨i,Y,U,rfl⟩ <;> rcases A5 pu with⟨e2,rfl⟩|⟨j,tj,e2,rfl⟩ <;> subst U <;> subst e2
 . exact wpAny_getItem_str_slice (l:=none) (u:=none) (st:=none) ⟨o,J,hc,L⟩ rfl (post_val_or_str (fin q))
 . exact wpAny_getItem_str_slice (l:=none) (u:=some (j,tj)) (st:=none) ⟨o,J,hc,L⟩ rfl (post_val_or_str (fin q))
 . exact wpAny_getItem_str_slice (l:=some (i,Y)) (u:=none) (st:=none) ⟨o,J,hc,L⟩ rfl (post_val_or_str (fin q))
 . exact wpAny_getItem_str_slice (l:=some (i,Y)) (u:=some (j,tj)) (st:=none) ⟨o,J,hc,L⟩ rfl (post_val_or_str (fin q))
end
theorem yes {σ:St}{H:Hp}{Q:Bool->Hp->Prop}(h:Q true H):jX σ H Q:=h
section
variable {K:W.Frag}{σ:St}{H:Hp}{Q:VK}{D:Ends}
theorem pI {i:Nat}{a b:Str}{T U:TS}(h:σ[i]? =some (some (.str a)))(I:decide (V.str a=V.str b)=true)(q:T D σ H):ju (kK (gI lr (gf i) (tC (.str b)))) T U D σ H:=
 ⟨_,h,rfl,Zr rfl (by rw[I];exact fY q)⟩
theorem jh {i:Nat}{a b:Str}{T U:TS}(h:σ[i]? =some (some (.str a)))(I:decide (V.str a=V.str b)=false)(q:U D σ H):ju (kK (gI lr (gf i) (tC (.str b)))) T U D σ H:=
 ⟨_,h,rfl,Zr rfl (by rw[I];exact fL q)⟩
theorem kU {i:Nat}{p:Addr}{xs:List V}{a b:Str}{T U:TS}(h:σ[i]? =some (some (.ref p)))(h2:H p=some (.tup xs))(I:xs[0]? =some (.str a))(J:decide (V.str a=V.str b)=true)(q:T D σ H):
 ju (kK (gI lr (gI (iO K) (gf i) (tC (.int 0))) (tC (.str b)))) T U D σ H:=
 ⟨_,h,p,xs,0,.str a,rfl,rfl,eX.of h2,gL (j:=0) I,rfl,Zr rfl (by rw[J];exact fY q)⟩
theorem gY {i:Nat}{p:Addr}{xs:List V}{a b:Str}{T U:TS}(h:σ[i]? =some (some (.ref p)))(h2:H p=some (.tup xs))(I:xs[0]? =some (.str a))(J:decide (V.str a=V.str b)=false)(q:U D σ H):
 ju (kK (gI lr (gI (iO K) (gf i) (tC (.int 0))) (tC (.str b)))) T U D σ H:=
 ⟨_,h,p,xs,0,.str a,rfl,rfl,eX.of h2,gL (j:=0) I,rfl,Zr rfl (by rw[J];exact fL q)⟩
end
end L2
namespace L2
noncomputable def uy (own N:List Str) (scope sc:Scope):Bool:=
 scope.names.all (λy=>decide (y.2≠ .cell)) && scope.names.all (λy=>decide (y.2=.local->scope.names.lookup y.1=some .local)) &&
 scope.names.all (λy=>decide (y.2=.free->sc.names.lookup y.1=some .cell\/sc.names.lookup y.1=some .free)) && decide (own++N).Nodup && N.all λx=>decide (scope.names.lookup x≠some .local)
theorem jv.of {X:Cx}{own N:List Str}{scope sc:Scope}(I:X.env.scope=sc)(J:X.N=N)(k:scope.kind=.function)(c:uy own N scope sc=true):jv X own scope:=by
 unfold uy at c;simp only[Bool.and_eq_true,Q13,decide_eq_true_eq] at c;obtain⟨⟨⟨⟨L,U⟩,Y⟩,c4⟩,c5⟩:=c;exact⟨k,L,U,λy hy hf=>by rw[show X.env.kindOf y.1=X.env.scope.names.lookup y.1 from rfl,I];exact Y y hy hf,by rw[J];exact c4,by rw[J];exact c5⟩
end L2
namespace lA
open W PyProof.Rows
noncomputable def f6 {α:Type}(f:Nat->Nat->Bool):KasT α->α
 | .ret a=>a
 | .ask i j k=>f6 f (k (f i j))
theorem nX {α I:Type}(f:Nat->Nat->Bool)(g:α->KasT I):∀t:KasT α,f6 f (t.bind g)=f6 f (g (f6 f t))
 | .ret _=>rfl
 | .ask i j k=>nX f g (k (f i j))
def Bn {α:Type}(n:Nat) (R:α->Prop):KasT α->Prop
 | .ret a=>R a
 | .ask i j k=>i<n/\j<n/\∀b,Bn n R (k b)
theorem Bn.bind {α I:Type}{n:Nat}{R:α->Prop}{S:I->Prop}{g:α->KasT I}:∀{t:KasT α},Bn n R t->(∀a,R a->Bn n S (g a))->Bn n S (t.bind g)
 | .ret a,h,k=>k a h
 | .ask i j q,h,k=>⟨h.1,h.2.1,λb=>Bn.bind (h.2.2 b) k⟩
theorem A7 {α:Type}{n:Nat}{R:α->Prop}{f:Nat->Nat->Bool}{I:Nat->Nat->(Bool->Shared->Prop)->Shared->Prop}{Q:α->Shared->Prop}{s:Shared}
 (h:∀i j (C:Bool->Shared->Prop),i<n->j<n->C (f i j) s->I i j C s):∀{t:KasT α},Bn n R t->Q (f6 f t) s->t.kasWp I Q s
 | .ret a,_,q=>q
 | .ask i j k,b,q=>h i j _ b.1 b.2.1 (A7 h (b.2.2 (f i j)) q)
def Lt (n:Nat) (p:Array Nat):Prop:=0<n/\∀x∈p,x<n
theorem Lt.at {n:Nat}{p:Array Nat}(h:Lt n p)(i:Nat):p.getD i 0<n:=by
 rw[Q1i]
 cases e:p[i]? with
 |none=>exact h.1
 |some x=>exact h.2 x (Array.mem_of_getElem? e)
theorem Lt.perm {n:Nat}{p q:Array Nat}(h:Lt n p)(hp:q.Perm p):Lt n q:=⟨h.1,λx I=>h.2 x (hp.mem_iff.mp I)⟩
theorem lB (p:Array Nat)(i j:Nat):(kas_rev p i j).Perm p:=mirror_perm _ _ _ _
theorem GC (p:Array Nat)(i j:Nat):(kas_rev p i j).size=p.size:=mirror_size _ _ _ _
theorem uz {n:Nat}{p:Array Nat}(h:Lt n p):∀f m,Bn n (λ_=>True) (kas_asc p f m)
 |0,_=>trivial
 |f+1,m=>⟨h.at _,h.at _,λb=>by
   cases b with
   |true=>exact trivial
   |false=>exact uz h f (m+1)⟩
theorem qV {n:Nat}:∀f (p:Array Nat) m q,Lt n p->Bn n (λr:Array Nat × Nat × Nat=>Lt n r.1) (kas_desc f p m q)
 |0,_,_,_,h=>h
 |f+1,p,m,q,h=>⟨h.at _,h.at _,λb=>by
   cases b with
   |true=>
    show Bn n _ (if q > 0 then kas_desc f (kas_rev p (m - (q+1)) m) (m+1) 0 else kas_desc f p (m+1) 0);split
    . exact qV f _ _ _ (h.perm (lB _ _ _))
    . exact qV f _ _ _ h
   |false=>
    refine⟨h.at _,h.at _,λd=>?_⟩
    cases d with
    |true=>exact h
    |false=>exact qV f _ _ _ h⟩
theorem A8 {n m r:Nat}{p:Array Nat}(h:Lt n p):Bn n (λq:Nat × Array Nat=>Lt n q.2) (kas_tail3 m r p):=
 (uz (h.perm (lB _ _ _)) _ _).bind λ_ _=>h.perm (lB _ _ _)
theorem A9 {n m r:Nat}{p:Array Nat}(h:Lt n p):Bn n (λq:Nat × Array Nat=>Lt n q.2) (kas_descPart m r p):=by
 refine(qV _ _ _ _ h).bind λa I=>?_;split
 . exact A8 (I.perm (lB _ _ _))
 . exact A8 I
theorem GD {n r:Nat}{p:Array Nat}(h:Lt n p):Bn n (λq:Nat × Array Nat=>Lt n q.2) (kas_count r p):=by
 refine(uz h _ _).bind λa _=>?_;split
 . exact h
 split
 . refine⟨h.at _,h.at _,λb=>?_⟩
   cases b with
   |true=>exact h
   |false=>exact A9 (h.perm (lB _ _ _))
 . exact A9 h
theorem uA {n k:Nat}{p:Array Nat}(h:Lt n p):∀f l r,Bn n (λ_=>True) (kas_place p k f l r)
 |0,_,_=>trivial
 |f+1,l,r=>by
  unfold kas_place;split
  . exact trivial
  . refine⟨h.at _,h.at _,λb=>?_⟩
    cases b with
    |true=>exact uA h f _ _
    |false=>exact uA h f _ _
theorem A_ {n:Nat}:∀f (p:Array Nat) k,Lt n p->Bn n (λ_=>True) (kas_bin f p k)
 |0,_,_,_=>trivial
 |f+1,p,k,h=>(uA h _ _ _).bind λl _=>A_ f _ _ (h.perm (bubble_perm _ _ _))
theorem GF {n:Nat}(I:0<n):Bn n (λ_=>True) (kas_sort n):=by
 have h:Lt n (List.toArray (List.range n)):=⟨I,λx J=>by simpa using J⟩;refine(GD h).bind λr L=>?_;split
 . exact A_ _ _ _ L
 . exact trivial
section
variable {O:KeyOrd}(key:Nat->O.α)
noncomputable def gn:Nat->Nat->Bool:=λi j=>O.blt (key i) (key j)
noncomputable def Kp (p:Array Nat) (i:Nat):O.α:=key (p.getD i 0)
def jw (p:Array Nat) (k:Nat):Prop:=∀i j,i<=j->j<k->O.kle (Kp key p i) (Kp key p j)
def jY (p:Array Nat) (k:Nat):Prop:=∀i j,i<=j->j<k->O.kle (Kp key p j) (Kp key p i)
variable {key}
theorem jw.succ {p:Array Nat}{n:Nat}(h:jw key p n)(h1:1<=n)(e:O.kle (Kp key p (n - 1)) (Kp key p n)):jw key p (n+1):=by
 intro i j I L;by_cases J:j<n
 . exact h i j I J
 . have:j=n:=by omega
   subst this;by_cases hi:i=j
   . subst hi;exact KeyOrd.kle_refl _
   . exact KeyOrd.kle_trans (h i (j - 1) (by omega) (by omega)) e
theorem jY.succ {p:Array Nat}{n:Nat}(h:jY key p n)(h1:1<=n)(e:O.kle (Kp key p n) (Kp key p (n - 1))):jY key p (n+1):=by
 intro i j I L;by_cases J:j<n
 . exact h i j I J
 . have:j=n:=by omega
   subst this;by_cases hi:i=j
   . subst hi;exact KeyOrd.kle_refl _
   . exact KeyOrd.kle_trans e (h i (j - 1) (by omega) (by omega))
theorem pJ {p q:Array Nat}{i j:Nat}(h:p[i]? =q[j]?):Kp key p i=Kp key q j:=by
 unfold Kp;rw[Q1i,Q1i,h]
theorem uB {p:Array Nat}{i j:Nat}(I:j<=p.size)(k:Nat):Kp key (kas_rev p i j) k=if i<=k/\k<j then Kp key p (i+j - 1 - k) else Kp key p k:=by
 have e:=getElem?_mirror_all (i:=i) I k;by_cases h1:i<=k/\k<j
 . rw[if_pos h1] at e ⊢;exact pJ e
 . rw[if_neg h1] at e ⊢;exact pJ e
theorem uC {p:Array Nat}{i j:Nat}(J:j<=p.size)(I:∀k,i<=k->k<j->Kp key p k=Kp key p (j - 1))(k:Nat):Kp key (kas_rev p i j) k=Kp key p k:=by
 rw[uB J];split
 . rw[I _ (by omega) (by omega),I k (by omega) (by omega)]
 . rfl
theorem GH {p:Array Nat}{src d:Nat}(I:src<p.size)(J:d<=src)(k:Nat):
 Kp key (bubble p src d) k=if k=src - d then Kp key p src else if src - d<k/\k<=src then Kp key p (k - 1) else Kp key p k:=by
 have e:=getElem?_bubble I d J k;by_cases h1:k=src - d
 . rw[if_pos h1] at e ⊢;exact pJ e
 . rw[if_neg h1] at e ⊢;by_cases h2:src - d<k/\k<=src
   . rw[if_pos h2] at e ⊢;exact pJ e
   . rw[if_neg h2] at e ⊢;exact pJ e
theorem jY.congr {p q:Array Nat}{n:Nat}(h:jY key p n)(e:∀k,Kp key q k=Kp key p k):jY key q n:=λi j a b=>by
 rw[e,e];exact h i j a b
theorem uD {p:Array Nat}:∀f n,1<=n->jw key p n->n<=f6 (gn key) (kas_asc p f n)/\f6 (gn key) (kas_asc p f n)<=n+f/\jw key p (f6 (gn key) (kas_asc p f n))/\
 (f6 (gn key) (kas_asc p f n)<n+f->O.klt (Kp key p (f6 (gn key) (kas_asc p f n))) (Kp key p (f6 (gn key) (kas_asc p f n) - 1)))
 |0,n,_,h=>⟨Q00 _,Q00 _,h,λz=>absurd z (Q0l _)⟩
 |f+1,n,h1,h=>by
  have e:f6 (gn key) (kas_asc p (f+1) n)=f6 (gn key) (if O.blt (Kp key p n) (Kp key p (n - 1))=true then .ret n else kas_asc p f (n+1)):=rfl;rw[e]
  cases c:O.blt (Kp key p n) (Kp key p (n - 1)) with
  |true=>
   rw[if_pos rfl];exact⟨Q00 _,Q1j _ _,h,λ_=>c⟩
  |false=>
   rw[if_neg (by simp)];obtain⟨L,U,I,J⟩:=uD f (n+1) (by omega) (h.succ h1 c);exact⟨by omega,by omega,I,λz=>J (by omega)⟩
structure DI (O:KeyOrd) (key:Nat->O.α) (p₀:Array Nat) (p:Array Nat) (n q:Nat):Prop where
 perm:p.Perm p₀
 non:jY key p n
 one:q+1<=n
 size:n<=p.size
 eq:∀k,n - (q+1)<=k->k<n->Kp key p k=Kp key p (n - 1)
theorem qW {I:Array Nat}:∀f (p:Array Nat) n q,DI O key I p n q->n+f<=I.size->
 ∃J n' L,f6 (gn key) (kas_desc f p n q)=(J,n',L)/\DI O key I J n' L/\n'<=n+f
 |0,p,n,q,d,_=>⟨p,n,q,rfl,d,Q00 _⟩
 |f+1,p,n,q,d,hs=>by
  have hsz:p.size=I.size:=d.perm.size_eq
  have e:f6 (gn key) (kas_desc (f+1) p n q)=f6 (gn key) (if O.blt (Kp key p n) (Kp key p (n - 1))=true then(if q > 0 then kas_desc f (kas_rev p (n - (q+1)) n) (n+1) 0 else kas_desc f p (n+1) 0)
   else .ask (p.getD (n - 1) 0) (p.getD n 0) λd=>if d=true then .ret (p,n,q) else kas_desc f p (n+1) (q+1)):=rfl
  rw[e];have one:=d.one
  cases c:O.blt (Kp key p n) (Kp key p (n - 1)) with
  |true=>
   rw[if_pos rfl];have cl:O.kle (Kp key p n) (Kp key p (n - 1)):=KeyOrd.kle_of_klt c;by_cases hq:q > 0
   . rw[if_pos hq];have ek:∀k,Kp key (kas_rev p (n - (q+1)) n) k=Kp key p k:=uC d.size d.eq
     have d':DI O key I (kas_rev p (n - (q+1)) n) (n+1) 0:=⟨(lB _ _ _).trans d.perm,(d.non.succ (by omega) cl).congr ek,by omega,by rw[GC];omega,λk h1 h2=>by
      have:k=n:=by omega
      subst this;rfl⟩
     obtain⟨J,n',L,U,Y,r3⟩:=qW f _ _ _ d' (by omega);exact⟨J,n',L,U,Y,by omega⟩
   . rw[if_neg hq]
     have d':DI O key I p (n+1) 0:=⟨d.perm,d.non.succ (by omega) cl,by omega,by omega,λk h1 h2=>by
      have:k=n:=by omega
      subst this;rfl⟩
     obtain⟨J,n',L,U,Y,r3⟩:=qW f _ _ _ d' (by omega);exact⟨J,n',L,U,Y,by omega⟩
  |false=>
   rw[if_neg (by simp)];have e2:f6 (gn key) (.ask (p.getD (n - 1) 0) (p.getD n 0) λd=>if d=true then .ret (p,n,q) else kas_desc f p (n+1) (q+1))=f6 (gn key) (if O.blt (Kp key p (n - 1)) (Kp key p n)=true then .ret (p,n,q) else kas_desc f p (n+1) (q+1)):=rfl;rw[e2]
   cases c2:O.blt (Kp key p (n - 1)) (Kp key p n) with
   |true=>
    rw[if_pos rfl];exact⟨p,n,q,rfl,d,by omega⟩
   |false=>
    rw[if_neg (by simp)];have ee:Kp key p n=Kp key p (n - 1):=O.total _ _ c c2
    have d':DI O key I p (n+1) (q+1):=⟨d.perm,d.non.succ (by omega) (by rw[ee];exact KeyOrd.kle_refl _),by omega,by omega,λk h1 h2=>by
     show Kp key p k=Kp key p n;by_cases hk:k=n
     . rw[hk]
     . rw[ee];exact d.eq k (by omega) (by omega)⟩
    obtain⟨J,n',L,U,Y,r3⟩:=qW f _ _ _ d' (by omega);exact⟨J,n',L,U,Y,by omega⟩
def pK (O:KeyOrd) (key:Nat->O.α) (I:Array Nat) (nrem:Nat) (r:Nat × Array Nat):Prop:=r.2.Perm I/\1<=r.1/\r.1<=nrem/\jw key r.2 r.1
theorem Ba {I p:Array Nat}{n nrem:Nat}(hp:p.Perm I)(h1:1<=n)(Y:n<=nrem)(hs:nrem<=I.size)(h:jY key p n):pK O key I nrem (f6 (gn key) (kas_tail3 n nrem p)):=by
 have hsz:p.size=I.size:=hp.size_eq;unfold kas_tail3;rw[nX]
 have J:jw key (kas_rev p 0 n) n:=λi j U hj=>by
  rw[uB (by omega),uB (by omega),if_pos (by omega),if_pos (by omega)];exact h _ _ (by omega) (by omega)
 obtain⟨a1,a2,L,_⟩:=uD (key:=key) (p:=kas_rev p 0 n) (nrem - n) n h1 J;exact⟨(lB _ _ _).trans hp,by show 1<=f6 _ _;omega,by show f6 _ _<=nrem;omega,L⟩
theorem Bb {I p:Array Nat}{n nrem:Nat}(hp:p.Perm I)(h1:1<=n)(hn:n+1<=nrem)(Y:nrem<=I.size)(h:jY key p (n+1)):pK O key I nrem (f6 (gn key) (kas_descPart n nrem p)):=by
 have hsz:p.size=I.size:=hp.size_eq;unfold kas_descPart;rw[nX]
 have d:DI O key I p (n+1) 0:=⟨hp,h,by omega,by omega,λk h1 h2=>by
  have:k=n:=by omega
  subst this;rfl⟩
 obtain⟨L,n',U,r1,J,r3⟩:=qW (key:=key) (nrem - (n+1)) p (n+1) 0 d (by omega);rw[r1];have o:=J.one;have sz:=J.size;have aa:L.size=I.size:=J.perm.size_eq;by_cases hq:U > 0
 . show pK O key I nrem (f6 (gn key) (if U > 0 then kas_tail3 n' nrem (kas_rev L (n' - (U+1)) n') else kas_tail3 n' nrem L));rw[if_pos hq];exact Ba ((lB _ _ _).trans J.perm) (by omega) (by omega) Y (J.non.congr (uC J.size J.eq))
 . show pK O key I nrem (f6 (gn key) (if U > 0 then kas_tail3 n' nrem (kas_rev L (n' - (U+1)) n') else kas_tail3 n' nrem L));rw[if_neg hq];exact Ba J.perm (by omega) (by omega) Y J.non
theorem GI {p:Array Nat}{nrem:Nat}(h1:1<=nrem)(hs:nrem<=p.size):pK O key p nrem (f6 (gn key) (kas_count nrem p)):=by
 unfold kas_count;rw[nX]
 obtain⟨I,a2,L,a4⟩:=uD (key:=key) (p:=p) (nrem - 1) 1 (Q00 _) (λi j J hj=>by
  have U:i=0:=by omega
  have Y:j=0:=by omega
  subst U;subst Y;exact KeyOrd.kle_refl _)
 generalize f6 (gn key) (kas_asc p (nrem - 1) 1)=n at *;by_cases hn:n=nrem
 . rw[if_pos (by simpa using hn)];exact⟨Array.Perm.refl _,I,by show n<=nrem;omega,L⟩
 . rw[if_neg (by simpa using hn)];have cl:O.klt (Kp key p n) (Kp key p (n - 1)):=a4 (by omega);by_cases hg:n > 1
   . rw[if_pos hg]
     have e:f6 (gn key) (.ask (p.getD 0 0) (p.getD (n - 1) 0) λc=>if c=true then .ret (n,p) else kas_descPart n nrem (kas_rev p 0 n))=
      f6 (gn key) (if O.blt (Kp key p 0) (Kp key p (n - 1))=true then .ret (n,p) else kas_descPart n nrem (kas_rev p 0 n)):=rfl
     rw[e]
     cases c:O.blt (Kp key p 0) (Kp key p (n - 1)) with
     |true=>
      rw[if_pos rfl];exact⟨Array.Perm.refl _,I,by show n<=nrem;omega,L⟩
     |false=>
      rw[if_neg (by simp)]
      have all:∀k,0<=k->k<n->Kp key p k=Kp key p (n - 1):=λk _ hk=>by
       have c':O.kle (Kp key p (n - 1)) (Kp key p 0):=c;exact KeyOrd.kle_antisymm (L k (n - 1) (by omega) (by omega)) (KeyOrd.kle_trans c' (L 0 k (by omega) hk))
      have ek:∀k,Kp key (kas_rev p 0 n) k=Kp key p k:=uC (by omega) all;refine Bb (lB _ _ _) I (by omega) hs (jY.congr (jY.succ (n:=n) (λi j J hj=>?_) I (KeyOrd.kle_of_klt cl)) ek);rw[all i (by omega) (by omega),all j (by omega) (by omega)];exact KeyOrd.kle_refl _
   . rw[if_neg hg];have:n=1:=by omega
     subst this;refine Bb (Array.Perm.refl _) I (by omega) hs (jY.succ (n:=1) (λi j J hj=>?_) I (KeyOrd.kle_of_klt cl));have U:i=0:=by omega
     have Y:j=0:=by omega
     subst U;subst Y;exact KeyOrd.kle_refl _
theorem uE {p:Array Nat}{k:Nat}(h:jw key p k):∀f l r,l<=r->r<=k->r - l<=f->(∀i,i<l->O.kle (Kp key p i) (Kp key p k))->(∀i,r<=i->i<k->O.klt (Kp key p k) (Kp key p i))->
 ∃m,f6 (gn key) (kas_place p k f l r)=m/\m<=k/\(∀i,i<m->O.kle (Kp key p i) (Kp key p k))/\(∀i,m<=i->i<k->O.klt (Kp key p k) (Kp key p i))
 |0,l,r,h1,h2,U,I,J=>⟨l,rfl,by omega,I,λi a b=>J i (by omega) b⟩
 |f+1,l,r,h1,h2,U,I,J=>by
  by_cases L:l ≥ r
  . refine⟨l,?_,by omega,I,λi a b=>J i (by omega) b⟩;unfold kas_place;rw[if_pos L];rfl
  . have e:f6 (gn key) (kas_place p k (f+1) l r)=f6 (gn key) (if O.blt (Kp key p k) (Kp key p ((l+r) / 2))=true then kas_place p k f l ((l+r) / 2) else kas_place p k f ((l+r) / 2+1) r):=by
     show f6 (gn key) (if l ≥ r then .ret l else _)=_;rw[if_neg L];rfl
    rw[e]
    cases c:O.blt (Kp key p k) (Kp key p ((l+r) / 2)) with
    |true=>
     rw[if_pos rfl];exact uE h f _ _ (by omega) (by omega) (by omega) I λi a b=>KeyOrd.klt_of_klt_of_kle (show O.klt _ _ from c) (h _ _ a b)
    |false=>
     rw[if_neg (by simp)];exact uE h f _ _ (by omega) h2 (by omega) (λi a=>KeyOrd.kle_trans (h i ((l+r) / 2) (by omega) (by omega)) (show O.kle _ _ from c)) J
theorem Bc:∀f (p:Array Nat) k,jw key p k->k+f<=p.size->(f6 (gn key) (kas_bin f p k)).Perm p/\jw key (f6 (gn key) (kas_bin f p k)) (k+f)
 |0,p,k,h,_=>⟨Array.Perm.refl _,h⟩
 |f+1,p,k,h,hs=>by
  have e:f6 (gn key) (kas_bin (f+1) p k)=f6 (gn key) (kas_bin f (bubble p k (k - f6 (gn key) (kas_place p k k 0 k))) (k+1)):=by
   show f6 (gn key) ((kas_place p k k 0 k).bind λl=>kas_bin f (bubble p k (k - l)) (k+1))=_;rw[nX]
  rw[e];obtain⟨m,em,m1,m2,m3⟩:=uE h k 0 k (Q07 _) (Q00 _) (Q00 _) (λi z=>absurd z (Q1k _)) (λi a b=>absurd a (by omega));rw[em];have J:=λi=>GH (key:=key) (p:=p) (src:=k) (d:=k - m) (by omega) (by omega) i;have hm:k - (k - m)=m:=by omega
  rw[hm] at J
  have hS:jw key (bubble p k (k - m)) (k+1):=by
   intro i j L hj;rw[J i,J j];by_cases U:i=m
   . rw[if_pos U];by_cases I:j=m
     . rw[if_pos I];exact KeyOrd.kle_refl _
     . rw[if_neg I,if_pos (by omega)];exact KeyOrd.kle_of_klt (m3 _ (by omega) (by omega))
   . rw[if_neg U];by_cases Y:m<i/\i<=k
     . rw[if_pos Y,if_neg (by omega),if_pos (by omega)];exact h _ _ (by omega) (by omega)
     . rw[if_neg Y];by_cases I:j=m
       . rw[if_pos I];exact m2 i (by omega)
       . rw[if_neg I];by_cases lj:m<j/\j<=k
         . rw[if_pos lj];exact h _ _ (by omega) (by omega)
         . rw[if_neg lj];exact h _ _ L (by omega)
  obtain⟨b1,b2⟩:=Bc f (bubble p k (k - m)) (k+1) hS (by rw[bubble_size];omega);exact⟨b1.trans (bubble_perm _ _ _),by rw[show k+(f+1)=k+1+f by omega];exact b2⟩
theorem GJ {n:Nat}(hn:1<=n):(f6 (gn key) (kas_sort n)).toList.Perm (List.range n)/\((f6 (gn key) (kas_sort n)).toList.map key).Pairwise O.kle:=by
 have Y:(List.toArray (List.range n)).size=n:=by simp
 obtain⟨I,c2,c3,c4⟩:=GI (key:=key) (p:=List.toArray (List.range n)) (nrem:=n) hn (by omega)
 have main:(f6 (gn key) (kas_sort n)).Perm (List.toArray (List.range n))/\jw key (f6 (gn key) (kas_sort n)) n:=by
  unfold kas_sort;rw[nX];generalize f6 (gn key) (kas_count n (List.toArray (List.range n)))=r at *;obtain⟨m,p⟩:=r;have hsz:p.size=n:=by rw[I.size_eq,Y]
  by_cases hm:m<n
  . show(f6 (gn key) (if m<n then kas_bin (n - max m 1) p (max m 1) else .ret p)).Perm _/\jw key (f6 (gn key) (if m<n then kas_bin (n - max m 1) p (max m 1) else .ret p)) n;rw[if_pos hm];have c2:1<=m:=c2;have em:max m 1=m:=by omega
    rw[em];obtain⟨b1,b2⟩:=Bc (key:=key) (n - m) p m c4 (by omega);exact⟨b1.trans I,by rw[show n=m+(n - m) by omega];rw[show m+(n - m) - m=n - m by omega];exact b2⟩
  . show(f6 (gn key) (if m<n then kas_bin (n - max m 1) p (max m 1) else .ret p)).Perm _/\jw key (f6 (gn key) (if m<n then kas_bin (n - max m 1) p (max m 1) else .ret p)) n;rw[if_neg hm];have c3:m<=n:=c3;have:m=n:=by omega
    subst this;exact⟨I,c4⟩
 refine⟨Array.perm_iff_toList_perm.mp main.1,?_⟩;have hsz:(f6 (gn key) (kas_sort n)).size=n:=by rw[main.1.size_eq,Y]
 rw[Q1l,List.pairwise_iff_getElem];intro i j hi hj J;have L:i<(f6 (gn key) (kas_sort n)).size:=by simpa using hi
 have U:j<(f6 (gn key) (kas_sort n)).size:=by simpa using hj
 have q:=main.2 i j (Q0p J) (by omega);unfold Kp at q;rw[Q1i,Q1i,Q3 L,Q3 U] at q;simpa using q
end
end lA
namespace L2
open Spec PyProof.Rows
def nY (c':Addr) (qual:Str):Heap->Prop:=λh=>h.CodeRec (.ref c') qual
def lC (P:Addr) (pos:Pos) (qual:Str) (c':Addr) (H:Hp):Prop:=H P=some (.gS #[rawInt pos.line,rawInt pos.col,.ref c'])/\H c'=some (.ext (nY c' qual))
def fi (P:Addr) (pos:Pos) (qual:Str) (H:Hp):Prop:=H P=some (.gS #[])\/∃c',lC P pos qual c' H
theorem lC.mono {P:Addr}{pos:Pos}{qual:Str}{c':Addr}{H H':Hp}(h:lC P pos qual c' H)(k:∀b o,(b=P\/b=c')->H b=some o->H' b=some o):lC P pos qual c' H':=⟨k _ _ (.inl rfl) h.1,k _ _ (.inr rfl) h.2⟩
def BM (mg:Str->Option Value) (base:Heap):Prop:=
 ∃I o,mg "__builtins__"=some (.ref I)/\I≠builtinsNs/\I≠mainGlobals/\base.get? I=some o/\o.cls=.type "module"/\o.dict=some builtinsNs/\o.data=.plain
def GK (P:Addr) (pos:Pos) (qual:Str) (ps:Array Value) (H:Hp):Prop:=H P=some (.gS ps)/\TriplesOk ps.toList/\(codeAmong pos ps.toList=none\/∃c',codeAmong pos ps.toList=some (.ref c')/\H c'=some (.ext (nY c' qual)))
def GL (P:Addr) (pos:Pos) (qual:Str) (ps:Array Value) (c':Addr) (H:Hp):Prop:=((codeAmong pos ps.toList=none/\H P=some (.gS (ps++#[rawInt pos.line,rawInt pos.col,.ref c'])))\/(codeAmong pos ps.toList=some (.ref c')/\H P=some (.gS ps)))/\H c'=some (.ext (nY c' qual))
section
variable {X:Cx}{pins:List (Addr × Obj)}{σ:St}{H:Hp}{s:Shared}
theorem Inv.Bd (I:Inv X pins σ H s){P b:Addr}{o:HO}{u:Obj}(e:H P=some o)(J:X.base.get? b=some u):b≠P:=λz=>by
 have:=(I.bs b u J).2;rw[z,e] at this;cases this
theorem Inv.Be (I:Inv X pins σ H s)(B:BM X.mg X.base){P:Addr}{o:HO}(e:H P=some o):s.heap.BuiltinsAt X.mg P:=by
 obtain⟨J,L,Y,b2,b3,U,b5⟩:=B;exact⟨J,L,Y,b2,b3,I.Bd e U,(I.bs J L U).1,b5⟩
theorem Inv.adopt {b:Addr}{o:HO}{h':Heap}{t':Nat}(I:Inv X pins σ H s)(f:iK X pins H b)(k:∀c u,c≠b->s.heap.get? c=some u->h'.get? c=some u)(new:gR X.prog X.w (upd H b o) h' b o):
 Inv X pins σ (upd H b o) { s with heap:=h',toks:=t' }:=by
 obtain⟨U,f1,f2,f3,Y,f5⟩:=f;have J:∀c u,H c=some u->c≠b:=λc u e=>ff e U
 refine I.step (g':=s.gens) (d':=s.drawn) (ch:=[b]) (λc hc=>?_) (λc u _ _ hc e _=>k c u (λz=>hc (by simp[z])) e) (λc u _ _ hc e _=>⟨u.slots,k c u (λz=>hc (by simp[z])) e⟩) (λc u hc e n=>?_)
  (λc u hc e=>⟨u,k c u (λz=>hc (by simp[z])) e⟩) (λc xs e=>?_) (λc L u e=>?_) (λc ps e=>⟨#[],?_⟩) (λm hm=>?_) (λc u e=>?_) I.bare
 . have e:c=b:=by simpa using hc
   subst e;exact⟨f3,f1,Y,f5⟩
 . rw[eU (λz=>hc (by simp[z]))];exact n
 . rw[eU (J _ _ e)];exact e
 . rw[eU (J _ _ e)];exact e
 . rw[eU (J _ _ e),e];simp
 . obtain⟨L,es,ep,ho,r⟩:=hm;exact⟨L,es,ep,k _ L (Ne.symm f1) ho,r⟩
 . by_cases hc:c=b
   . subst hc;rw[eW] at e;cases e;exact new
   . rw[eU hc] at e;refine(I.hok c u e).stay (λd v hd q=>k d v ?_ q) (λd q=>by rw[eU (J _ _ q)];exact q) λd xs q=>by rw[eU (J _ _ q)];exact q
     rcases hd with z|z
     . rw[z];exact hc
     . exact J _ _ z
theorem Inv.own {b:Addr}{h':Heap}{t':Nat}(I:Inv X pins σ H s)(f:iK X pins H b)(J:Heap.SameBut b s.heap h'):Inv X pins σ H { s with heap:=h',toks:=t' }:=
 I.turned (t':=t') (λc u hc e=>(J.2 c hc).trans e) f.1 f.2.1 f.2.2.2.1 f.2.2.2.2.1 f.2.2.2.2.2
theorem Bf {lD:Array Value}{name qual:Str}{L:Arguments}{body:Expr}{scope:Scope}{pos:Pos}{U:Nat}{cl:List (Str × Addr)}{c P:Addr}{Q:Value->Shared->Prop}{E:Value->Shared->Prop}(I:Inv X pins σ H s)(aa:X.env.code=.ref c)(C:W.CodeHd X.base c P)
 (B:BM X.mg X.base) (T:GK P pos qual lD H) (ac:closureFor scope X.env=pure cl)
 (h:∀(f c':Addr) (pm Y:Value) (H':Hp) (s':Shared),Inv X (pins++[(f,W.kla_obj name qual L body scope cl pm c' Y)]) σ H' s'->GL P pos qual lD c' H'->(∀b o,b≠P->H b=some o->H' b=some o)->Q (.ref f) s'):
 wpAny (model X.prog X.w) X.A (makeFunction name qual L (.expr body) scope X.env [] [] [] pos U) Q E s:=by
 have hg:s.heap.Ns mainGlobals X.mg:=I.mod.glob.keeps I.bk;have C':=C.keeps I.bk
 have ae:∀{H':Hp} {s':Shared} {f:Addr} {o:Obj},Inv X pins σ H' s'->s'.heap.get? f=some o->H' f=none->s.heap.objs.size<=f->(∀v,o.data≠ .cell v)->Inv X (pins++[(f,o)]) σ H' s':=λ{H' s' f o} J e n hz d=>
  J.my λp hp=>(List.mem_append.mp hp).elim (λz=>J.pin p (Q08 _ z)) λz=>by
    have:p=(f,o):=by simpa using z
    subst this;exact⟨e,n,Q0v (Q0b I.lt hz),I.nL hz,d⟩
 obtain⟨e,af,ag|⟨c',e1,e2⟩⟩:=T
 . have hP:s.heap.get? P=some (W.tabObj lD):=I.hok P _ e;have ah:P<s.heap.objs.size:=Q01 hP
   have am:mainGlobals≠P:=by
    obtain⟨o,es,ep,eo,_⟩:=I.mod.glob;exact I.Bd e eo
   refine W.kla_makeFunction (mg:=X.mg) ac I.ok.glob hg aa C' hP af ag am (I.Be B e) λc' Y h' tk hx ab ai al aj=>?_;have ak:c'≠P:=Q0v (Q0b ah ab);have an:H c'=none:=I.hok.fresh ab
   have nP:∀b u,H b=some u->u≠ .gS lD->b≠P:=λb u q d z=>by
    rw[z,e] at q;exact d (Option.some.inj q).symm
   have nC:∀b u,H b=some u->b≠c':=λb u q=>ff q an;have kk:∀(ob:Obj) b u,b≠P->s.heap.get? b=some u->(h'.push ob).get? b=some u:=λob b u hb q=>Q0a _ (hx b u hb q)
   have I1:Inv X pins σ (upd (upd H P (.gS (lD++#[rawInt pos.line,rawInt pos.col,.ref c']))) c' (.ext (nY c' qual))) { s with heap:=h'.push (W.kla_obj name qual L body scope cl ((X.mg "__name__").getD .none) c' Y),toks:=tk }:=by
    refine I.step (g':=s.gens) (d':=s.drawn) (ch:=[]) (λ_ z=>nomatch z) (λb o _ _ _ q n=>kk _ b o (λz=>by rw[z,e] at n;cases n) q) (λb o _ _ _ q n=>⟨o.slots,kk _ b o (λz=>by rw[z,e] at n;cases n) q⟩)
     (λb o _ q n=>?_) (λb o _ q=>?_) (λb xs q=>?_) (λb o u q=>?_) (λb ps q=>?_) (λm hm=>?_) (λb o q=>?_) I.bare
    . have b1:b≠P:=λz=>by rw[z,e] at n;cases n
      have b2:b≠c':=Q0c (Q0b (Q01 q) ab);rw[eU b2,eU b1];exact n
    . by_cases hb:b=P
      . subst hb;exact⟨_,Q0a _ aj⟩
      . exact⟨o,kk _ b o hb q⟩
    . rw[eU (nC _ _ q),eU (nP _ _ q (by intro z;cases z))];exact q
    . rw[eU (nC _ _ q),eU (nP _ _ q (by intro z;cases z))];exact q
    . by_cases hb:b=P
      . subst hb;rw[e] at q;cases q;exact⟨_,by rw[eU (Ne.symm ak),eW]⟩
      . exact⟨#[],by rw[eU (nC _ _ q),eU hb,q];simp⟩
    . obtain⟨o,es,ep,ho,r⟩:=hm;exact⟨o,es,ep,kk _ _ o (λz=>by have:=I.free;rw[z,e] at this;cases this) ho,r⟩
    . by_cases hb:b=c'
      . subst hb;rw[eW] at q;cases q;obtain⟨aq,oc,vs,t,z1,z2,z3,z4⟩:=al
        cases z1;refine⟨⟨_,oc,vs,t,rfl,Q0a _ z2,z3,z4⟩,⟨oc,Q0a _ z2⟩,λh1 h2 y hy=>?_⟩;obtain⟨ar,ao,ap,t',y1,y2,y3,y4⟩:=y
        cases y1;exact⟨_,ao,ap,t',rfl,hy _ y2,y3,y4⟩
      . rw[eU hb] at q;by_cases hp:b=P
        . subst hp;rw[eW] at q;cases q;show(h'.push _).get? b=some { cls:=.none,data:=.fields _ };exact Q0a _ aj
        . rw[eU hp] at q;refine(I.hok b o q).stay (λd v hd y=>kk _ d v ?_ y) (λd y=>by rw[eU (nC _ _ y),eU (nP _ _ y (by intro z;cases z))];exact y) λd xs y=>by rw[eU (nC _ _ y),eU (nP _ _ y (by intro z;cases z))];exact y
          rcases hd with z|z
          . rw[z];exact hp
          . exact nP _ _ z (by intro z;cases z)
   have fz:s.heap.objs.size<=h'.objs.size:=Q0p (Q1h ab ai)
   have fn:upd (upd H P (.gS (lD++#[rawInt pos.line,rawInt pos.col,.ref c']))) c' (.ext (nY c' qual)) h'.objs.size=none:=by
    rw[eU (Q0v ai),eU (Q0v (Q0b ah fz))];exact I.hok.fresh fz
   refine h h'.objs.size c' ((X.mg "__name__").getD .none) Y _ _ (ae I1 (Q0n _ rfl) fn fz (by intro v z;cases z)) ⟨.inl ⟨ag,by rw[eU (Ne.symm ak),eW]⟩,eW⟩ λb o hb q=>?_;rw[eU (nC _ _ q),eU hb];exact q
 . have hP:s.heap.get? P=some (W.tabObj lD):=I.hok P _ e;refine W.kla_makeFunctionHit (mg:=X.mg) (cv:=.ref c') ac I.ok.glob hg aa C' hP af e1 (I.Be B e) λY h' tk hk hsz=>?_;exact h h'.objs.size c' ((X.mg "__name__").getD .none) Y H _ (ae (I.kept λb u q=>Q0a _ (hk b u q)) (Q0n _ rfl) (I.hok.fresh hsz) hsz (by intro v z;cases z)) ⟨.inr ⟨e1,e⟩,e2⟩ λb o _ q=>q
theorem Bg {name qual:Str}{aa:Arguments}{body:Expr}{scope:Scope}{pos:Pos}{Y:Nat}{cl:List (Str × Addr)}{c P:Addr}{Q:Value->Shared->Prop}{E:Value->Shared->Prop}(I:Inv X pins σ H s)(ac:X.env.code=.ref c)(C:W.CodeHd X.base c P)
 (B:BM X.mg X.base) (T:fi P pos qual H) (ae:closureFor scope X.env=pure cl)
 (h:∀(f c':Addr) (pm ab:Value) (H':Hp) (s':Shared),Inv X (pins++[(f,W.kla_obj name qual aa body scope cl pm c' ab)]) σ H' s'->lC P pos qual c' H'->(∀b o,b≠P->H b=some o->H' b=some o)->Q (.ref f) s'):
 wpAny (model X.prog X.w) X.A (makeFunction name qual aa (.expr body) scope X.env [] [] [] pos Y) Q E s:=by
 rcases T with e|⟨U,e,ec⟩
 . refine Bf (lD:=#[]) I ac C B ⟨e,by simp[TriplesOk],.inl rfl⟩ ae λf c' pm ab H' s' J L m=>h f c' pm ab H' s' J ?_ m;obtain⟨z|z,y⟩:=L
   . exact⟨z.2,y⟩
   . cases z.1
 . refine Bf (lD:=#[rawInt pos.line,rawInt pos.col,.ref U]) I ac C B ⟨e,by simp[TriplesOk,rawInt],.inr ⟨U,by simp[codeAmong,rawInt],ec⟩⟩ ae λf c' pm ab H' s' J L m=>h f c' pm ab H' s' J ?_ m;have hc:codeAmong pos [rawInt pos.line,rawInt pos.col,.ref U]=some (.ref U):=by simp[codeAmong,rawInt]
   obtain⟨z|z,y⟩:=L
   . exact absurd (hc.symm.trans z.1) (by intro z;cases z)
   . have:U=c':=by
      have:=hc.symm.trans z.1
      cases this;rfl
     subst this;exact⟨z.2,y⟩
structure kW (X:Cx) (x:Str) (N':List Str) (scope:Scope):Prop where
 kind:scope.kind=.function
 co:scope.isCoroutine=false
 gen:scope.isGenerator=false
 cell:∀y∈scope.names,y.2≠ .cell
 loc:scope.names.lookup x=some .local
 free:∀y∈scope.names,y.2=.free->X.env.kindOf y.1=some .cell\/X.env.kindOf y.1=some .free
 len:N'.length=X.N.length
 outer:∀(i:Nat) (y:Str),N'[i]? =some y->scope.names.lookup y=none\/(X.N[i]? =some y/\scope.names.lookup y≠some .local)
noncomputable def mS (scope:Scope):List Str->List Str->Bool
 |[],[]=>true
 |y::r,z::q=>(decide (scope.names.lookup y=none) || (decide (z=y) && decide (scope.names.lookup y≠some .local))) && mS scope r q
 |_,_=>false
theorem Bh {scope:Scope}:∀{N' N:List Str},mS scope N' N=true->N'.length=N.length
 |[],[],_=>rfl
 |y::r,z::q,h=>by
  simp only[mS,Bool.and_eq_true] at h;rw[Q0g,Q0g,Bh h.2]
theorem Bi {scope:Scope}:∀{N' N:List Str},mS scope N' N=true->∀(i:Nat) (y:Str),N'[i]? =some y->scope.names.lookup y=none\/(N[i]? =some y/\scope.names.lookup y≠some .local)
 |[],[],_,i,y,e=>by simp at e
 |w::r,z::q,h,0,y,e=>by
  simp only[mS,Bool.and_eq_true,Bool.or_eq_true,decide_eq_true_eq] at h;have e:some w=some y:=e
  cases e;rcases h.1 with h1|⟨h1,h2⟩
  . exact .inl h1
  . subst h1;exact .inr ⟨rfl,h2⟩
 |w::r,z::q,h,i+1,y,e=>by
  simp only[mS,Bool.and_eq_true] at h;have:=Bi h.2 i y (by simpa using e);simpa using this
noncomputable def Bj (x:Str) (N' N:List Str) (scope sc:Scope):Bool:=
 scope.names.all (λy=>decide (y.2≠ .cell)) && decide (scope.names.lookup x=some .local) && scope.names.all (λy=>decide (y.2=.free->sc.names.lookup y.1=some .cell\/sc.names.lookup y.1=some .free)) && mS scope N' N
theorem kW.of {x:Str}{N' N:List Str}{scope sc:Scope}(I:X.env.scope=sc)(J:X.N=N)(k:scope.kind=.function)(U:scope.isCoroutine=false)(Y:scope.isGenerator=false)(c:Bj x N' N scope sc=true):kW X x N' scope:=by
 unfold Bj at c;simp only[Bool.and_eq_true,Q13,decide_eq_true_eq] at c;obtain⟨⟨⟨a1,a2⟩,a3⟩,L⟩:=c;exact⟨k,U,Y,a1,a2,λy hy hf=>by rw[show X.env.kindOf y.1=X.env.scope.names.lookup y.1 from rfl,I];exact a3 y hy hf,by rw[J];exact Bh L,by rw[J];exact Bi L⟩
noncomputable abbrev qX (qual:Str) (scope:Scope) (cl:List (Str × Addr)) (f c':Addr) (s:Shared):Env:=W.envX qual scope s.heap.objs.size f (.ref c') cl
noncomputable def pL (X:Cx) (x:Str) (N':List Str) (scope:Scope) (cl:List (Str × Addr)) (qual:Str) (f c':Addr) (s:Shared) (H:Hp):Cx:=
 { X with A:=X.A.in1.in1.deeper (qX qual scope cl f c' s),N:=x::N',s₀:=s,H₀:=H,env:=qX qual scope cl f c' s,outer:=X.stack,stack:=qX qual scope cl f c' s::X.stack,ex:=[],fn:=λ_=>false,pn:=[],calm:=true,xe:=λ_ _=>False }
theorem Inv.lam {x:Str}{N':List Str}{scope:Scope}{cl:List (Str × Addr)}{qual:Str}{f c':Addr}{v:V}{u:Value}{L:Heap}{t':Nat}(I:Inv X pins σ H s)(S:kW X x N' scope)(hd:X.A.handled=none)
 (J:∀y c,cl.lookup y=some c->X.env.cells.lookup y=some c) (ab:∀y,(y,NameKind.free)∈scope.names->cl.lookup y=X.env.cells.lookup y) (r:RelV v u)
 (hn:L.Ns s.heap.objs.size (λy=>([(x,u)]:List (Str × Value)).reverse.lookup y)) (aa:∀b o,s.heap.get? b=some o->L.get? b=some o):
 Inv (pL X x N' scope cl qual f c' s H) [] (some v::σ) H { s with heap:=L,toks:=t' }:=by
 have ok:=I.ok
 have U:∀y,(scope.names.lookup y=some .cell\/scope.names.lookup y=some .free)->(y,NameKind.free)∈scope.names:=λy hy=>by
  rcases hy with hy|hy
  . exact absurd rfl (S.cell _ (PySem.mem_of_lookup hy))
  . exact PySem.mem_of_lookup hy
 refine⟨⟨ok.mod,S.kind,rfl,rfl,Q00 _,λy z c Y e2=>ok.inj y z c (J y c Y) (J z c e2),λy hy=>?_,λy c hy _=>(nomatch hy),λ_=>hd,Around.frames_deeper (show X.A.in1.in1.frames=some X.stack from ok.frames),.inr ⟨rfl,rfl⟩,λb hb=>absurd (show b∈([]:List Addr) from hb) (by simp),I.bs,Q0h ok.j9 I.sz,
  λb o _ hb=>absurd (show b∈([]:List Addr) from hb) (by simp),λb hb=>absurd (show b∈([]:List Addr) from hb) (by simp),I.stack,I.oZ⟩,
  rfl,I.bare,Un.kept aa,⟨_,hn,λi y v' Y e2 e3=>?_⟩,λy c e=>?_,I.hok.fresh (Q00 _),λy c e=>I.i7 y c (J y c e),λp hp=>absurd (show p∈([]:List (Addr × Obj)) from hp) (by simp),I.hok.kept aa,?_⟩
 . have hm:=U y hy;obtain⟨c,e⟩:=ok.has y (S.free _ hm rfl);exact⟨c,by rw[show(pL X x N' scope cl qual f c' s H).env.cells=cl from rfl,ab y hm];exact e⟩
 . cases i with
   |zero=>
    have Y:some x=some y:=Y
    cases Y;have e2:some (some v)=some (some v'):=e2
    cases e2;exact⟨u,r,.inl ⟨S.loc,by simp⟩⟩
   |succ i=>
    have Y:N'[i]? =some y:=by
     have Y:(x::N')[i+1]? =some y:=Y;simpa using Y
    have e2:σ[i]? =some (some v'):=by simpa using e2
    have ho:X.N[i]? =some y/\scope.names.lookup y≠some .local:=by
     have e3:scope.names.lookup y=some .local\/scope.names.lookup y=some .cell\/scope.names.lookup y=some .free:=e3;rcases S.outer i y Y with q|q
     . rw[q] at e3;rcases e3 with z|z|z <;> cases z
     . exact q
    have ae:scope.names.lookup y=some .cell\/scope.names.lookup y=some .free:=by
     rcases e3 with q|q
     . exact absurd q ho.2
     . exact q
    have hm:=U y ae;have af:=S.free _ hm rfl;obtain⟨mX,ah,ag⟩:=I.loc;obtain⟨u',r',lk⟩:=ag i y v' ho.1 e2 (.inr af);refine⟨u',r',.inr ⟨ae,?_⟩⟩;rcases lk with⟨q,_⟩|⟨_,c,ec,hc⟩
    . rcases af with z|z
      . rw[z] at q;cases q
      . rw[z] at q;cases q
    . obtain⟨o,ho,ac⟩:=hc;exact⟨c,(ab y hm).trans ec,o,aa _ _ ho,ac⟩
 . obtain⟨w',o,ho,ac⟩:=I.cell y c (J y c e);exact⟨w',o,aa _ _ ho,ac⟩
 . show _=(x::N').length;rw[Q0g,Q0g,I.len,S.len]
theorem Bk {x:Str}{N':List Str}{name qual:Str}{L:Arguments}{body:Expr}{scope:Scope}{cl:List (Str × Addr)}{f c':Addr}{pm U:Value}{v:V}{u:Value}{te:TE}{Q:VK}{E:Value->Shared->Prop}(I:Inv X pins σ H s)(S:kW X x N' scope)(hd:X.A.handled=none)(aa:X.A.depth<recursionLimit)
 (ab:∀y c,cl.lookup y=some c->X.env.cells.lookup y=some c) (ac:∀y,(y,NameKind.free)∈scope.names->cl.lookup y=X.env.cells.lookup y) (hf:(f,W.kla_obj name qual L body scope cl pm c' U)∈pins) (hc:H c'=some (.ext (nY c' qual)))
 (hb:∀u:Value,bindArgs (W.kla_fn name qual L body scope cl pm (.ref c') U) ⟨[u],[]⟩=pure [(x,u)]) (r:RelV v u) (he:∀(s:Shared) (H:Hp),PE (pL X x N' scope cl qual f c' s H) body te) (h:te (some v::σ) H Q):
 wpAny (model X.prog X.w) X.A.in1.in1 (call (.ref f) [u]) (EP X pins σ Q) E s:=by
 obtain⟨p1,p2,p3,p4,p5⟩:=I.pin _ (Q08 _ hf);refine wpAny_call (W.kla_callFunE aa p1 rfl S.co S.gen rfl (I.hok c' _ hc).1 ?_);rw[hb];refine Q0d (wpAny_newFunctionEnv S.cell (λy hy=>?_) (λae af ag=>?_) S.kind)
 . have e:y=(x,u):=by simpa using hy
   subst e;exact S.loc
 have Y:∀b o,s.heap.get? b=some o->ae.get? b=some o:=λb o e=>ag.extBut b o (Q0c (Q01 e)) (Q0a _ e);refine⟨I.nolimit.keeps Y,?_⟩;show codeAny _ _ (.expr body (qX qual scope cl f c' s)) _ _;have J:=I.lam (t':=s.toks+([(x,u)]:List (Str × Value)).length) (qual:=qual) (f:=f) (c':=c') S hd ab ac r af Y;refine W.kla_codeExpr (Q0m (he s H [] _ _ H Q J h) (λu' s' hq=>?_) λe s' hF=>hF.elim);obtain⟨v',H',J',rv,q⟩:=hq;exact I.after ⟨v',H',J'.os,J'.bare,J'.base,J'.hok,rv,q⟩
end
section
variable {X:Cx}{pins:List (Addr × Obj)}{σ:St}{H:Hp}{s:Shared}
def Asks (prog:Program) (w:World) (A:Around) (s:Shared) (us:List Value) {O:KeyOrd}(key:Nat->O.α):Prop:=
 2<=us.length->wpAny (model prog w) A (keyKind' us.toArray) (λκ s'=>s'=s/\∀(i j:Nat) (C:Bool->Shared->Prop),i<us.length->j<us.length->C (O.blt (key i) (key j)) s->W.kas_ask prog w A κ us i j C s) (λ_ _=>False) s
theorem Bl {xs:List V}{vs:List Value}(r:Vals xs vs):∀p:List Nat,Vals (p.map λi=>xs.getD i .non) (p.map λi=>vs.getD i Value.none)
 |[]=>.nil
 |i::p=>by
  refine .cons ?_ (Bl r p);show RelV (xs.getD i .non) (vs.getD i Value.none);rw[Q06,Q06]
  cases e:xs[i]? with
  |none=>
   rw[r.none_of e];exact rfl
  |some x=>
   obtain⟨u,I,J⟩:=r.get e;rw[I];exact J
theorem Bm {α:Type}(a0:α)(l:List α):((List.range l.length).map λi=>l.getD i a0)=l:=by
 apply Q30
 . simp
 . intro i h1 h2;simp[h2]
theorem GN {us vs:List Value}(hl:us.length=vs.length):((List.toArray us).zip (List.toArray vs)).map (·.2)=List.toArray vs:=by
 apply Array.toList_inj.mp;rw[Array.toList_map,ksk_zip];show List.map Prod.snd (us.zip vs)=vs;exact List.map_snd_zip (by omega)
theorem GO {α:Type}{R:α->α->Prop}(key:Nat->α){n:Nat}(h:n<2):((List.range n).map key).Pairwise R:=by
 have:n=0\/n=1:=by omega
 rcases this with rfl|rfl
 . exact List.Pairwise.nil
 . exact Q1z _ _
noncomputable abbrev lo (xs:List Value) (n:Nat):Obj:=seqObj "list" (List.toArray xs) n
theorem Bo {E:Value->Shared->Prop}{kS D:Addr}{us:List Value}{e U:Nat}{st:SortSt}{out:List Value}{outV:List V}{P:PySem.Fin->Shared->Prop}{A:Around}(I:Inv X (pins++[(kS,lo us e),(D,lo [] U)]) σ H s)(fK:iK X pins H kS)(fD:iK X pins H D)(aa:kS≠D)(ac:us.length<64)(ho:out.length<64)
 (L:(arrOf st).map (·.2)=List.toArray out) (hf:failedOf st=none) (rv:Vals outV out)
 (h:∀s',Inv X pins σ (upd H D (.lst outV)) s'->P (.done (.ret .none)) s'):wpAny (model X.prog X.w) A (ksk_tail D false U (.ref kS) st) P E s:=by
 have nk:=(I.pin (kS,lo us e) (Q08 _ (Q08 _ (Q04)))).1;have nD:=(I.pin (D,lo [] U) (Q08 _ (Q08 _ (Q0e _ Q04)))).1;have s1:=Heap.SameBut.update s.heap kS (Obj.mapSeq λ_=>(#[]:Array Value));have J:(s.heap.update kS (Obj.mapSeq λ_=>(#[]:Array Value))).get? D=some (lo [] U):=(s1.2 D aa.symm).trans nD;have s2:=Heap.SameBut.update (s.heap.update kS (Obj.mapSeq λ_=>(#[]:Array Value))) D (Obj.mapSeq λ_=>List.toArray out);obtain⟨Y,ab⟩:∃Y,((s.heap.update kS (Obj.mapSeq λ_=>(#[]:Array Value))).update D (Obj.mapSeq λ_=>List.toArray out)).get? D=some (lo out Y):=⟨_,get?_update_seq J λ_=>List.toArray out⟩;have I1:Inv X pins σ H { s with heap:=s.heap.update kS (Obj.mapSeq λ_=>(#[]:Array Value)) }:=I.lh.own (t':=s.toks) fK s1
 have I2:Inv X pins σ (upd H D (.lst outV)) { s with heap:=(s.heap.update kS (Obj.mapSeq λ_=>(#[]:Array Value))).update D (Obj.mapSeq λ_=>List.toArray out) }:=
  I1.adopt (t':=s.toks) fD (λc u hc q=>(s2.2 c hc).trans q) ⟨by rw[rv.length];exact Q0p (ig (by omega)),out,Y,rv,ab⟩
 unfold ksk_tail
 try dsimp only
 rw[L];refine Q0 (listUpdate_at nk rfl ?_ (by rw[Q05,sizeLine_eq];omega) (Q07 _));refine Q0 (wpAny_letGo ?_);refine Q0 (seqEpoch_at J rfl ?_);refine Q0 (listUpdate_at J rfl ?_ (Q07 _) (by show(List.toArray out).size<=_;rw[Q05,sizeLine_eq];omega));rw[hf];simp only[bne_self_eq_false,Bool.false_eq_true,if_false];exact Q0d (h _ I2)
theorem GP {E:Value->Shared->Prop}{kS D:Addr}{us vs:List Value}{xs:List V}{e e1:Nat}{P:PySem.Fin->Shared->Prop}{A:Around}{O:KeyOrd}{key:Nat->O.α}(I:Inv X (pins++[(kS,lo us e),(D,lo [] e1)]) σ H s)(fK:iK X pins H kS)(fD:iK X pins H D)(ab:kS≠D)
 (hl:us.length=vs.length) (Y:vs.length<64) (rv:Vals xs vs) (ask:Asks X.prog X.w A s us key)
 (h:∀(p:List Nat),p.Perm (List.range vs.length)->(p.map key).Pairwise O.kle->∀s',Inv X pins σ (upd H D (.lst (p.map λi=>xs.getD i .non))) s'->P (.done (.ret .none)) s'):
 wpAny (model X.prog X.w) A (ksk_end D false (List.toArray vs) e1 (.ref kS) (List.toArray us)) P E s:=by
 unfold ksk_end
 try dsimp only
 simp only[Bool.false_eq_true,if_false];by_cases h2:vs.toArray.size<2
 . rw[if_pos h2,if_pos h2];have aa:vs.length<2:=by simpa using h2
   refine Q0 (Q0d ?_);rw[StateT.run_pure];refine Q0 (Q0d ?_)
   try dsimp only
   have ac:xs.length=vs.length:=rv.length
   have ez:((List.range vs.length).map λi=>xs.getD i .non)=xs:=by
    rw[<-ac];exact Bm _ xs
   refine Bo (out:=vs) (outV:=xs) (st:=SortSt.mk' general' ((List.toArray us).zip (List.toArray vs)) #[] 7 none) I fK fD ab (by omega) Y (GN hl) rfl rv λs' J=>?_;have q:=h (List.range vs.length) (List.Perm.refl _) (GO key aa) s';rw[ez] at q;exact q J
 . rw[if_neg h2,if_neg h2];have aa:2<=vs.length:=by simpa using h2
   refine Q0 (Q0m (ask (by omega)) (λκ s' hk=>?_) λ_ _ hF=>hF.elim);obtain⟨rfl,hk⟩:=hk;obtain⟨k1,k2⟩:=lA.GJ (key:=key) (n:=vs.length) (by omega)
   refine Q0 (Q0m (W.kat_run (κ:=κ) (ks:=us) (vs:=vs) (Q:=λU L=>L=s'/\arrOf U=(lA.f6 (lA.gn key) (W.kas_sort vs.length)).map (W.kas_item ((List.toArray us).zip vs.toArray))/\failedOf U=none)
    (G:=λp L=>L=s'/\p=lA.f6 (lA.gn key) (W.kas_sort vs.length)) hl aa Y (λp U L _ a2 a3 a4=>⟨a4.1,by rw[a2,a4.2],a3⟩)
    (lA.A7 (f:=lA.gn key) (λi j C hi hj q=>hk i j C (by omega) (by omega) q) (lA.GF (by omega)) ⟨rfl,rfl⟩)) ?_ λ_ _ x=>x)
   rintro⟨⟨⟩,U⟩ L ⟨rfl,ae,af⟩
   try dsimp only
   refine Bo I fK fD ab (by omega) (by rw[Q03,k1.length_eq,Q2e];exact Y) (W.kat_snds hl ae) af (Bl rv _) λs' J=>h _ k1 k2 s' J
theorem GQ {prog:Program}{w:World}{A:Around}{E:Value->Shared->Prop}{s:Shared}{l:Addr}{vs:List Value}{Q:List Value->Shared->Prop}(hl:IsTup s.heap l vs.toArray)
 (h:Q vs { s with heap:=(s.heap.push (seqObj "list" #[] 0)).update s.heap.objs.size (Obj.mapSeq (· ++vs.toArray)) }) (hsz:vs.length<=sizeLine):
 wpAny (model prog w) A (collect (.ref l)) Q E s:=by
 obtain⟨o,J,hc,n,L⟩:=id hl;unfold collect;refine Q0 (wpAny_runValue (codeAny_builtin entry_proto_collect' ?_));refine Q0 (wpAny_newList (Q0d ⟨Code.quiet_builtin _ (by decide +kernel),codeAny_builtin entry_list_iadd' ?_⟩));change wpAny _ _ (Builtin.List.listExtendWith (.ref s.heap.objs.size) (.ref l) (.ref s.heap.objs.size)) _ _ { s with heap:=s.heap.push (seqObj "list" #[] 0) };unfold Builtin.List.listExtendWith;have I:(s.heap.push (seqObj "list" #[] 0)).get? l=some o:=Q0a _ J;refine Q0 (wpAny_typeOf (T:="tuple") ⟨o,I,hc⟩ ?_);have ht:(Value.type "tuple" == Value.type "tuple")=true:=by rfl
 rw[if_pos (by rw[ht];simp)];refine Q0 (listItems_at I L ?_);refine Q0 (listItems_at (xs:=#[]) (n:=0) (Q0n _ rfl) rfl ?_);rw[if_neg (by simp)];refine Q0 (listUpdate_at (xs:=#[]) (n:=0) (Q0n _ rfl) rfl ?_ (Q07 _) (by show(#[]++vs.toArray).size<=sizeLine+1;simp only[Q31,Q05,Q1x];omega));refine Q0d ?_;refine Q0 (wpAny_load (get?_update_seq (Q0n _ rfl) _) ?_);change wpAny _ _ (pure ((#[]:Array Value)++vs.toArray).toList) Q E _;rw[show((#[]:Array Value)++vs.toArray).toList=vs by simp];exact Q0d h
theorem GS {E:Value->Shared->Prop}{f a:Addr}{xs:List V}{Q:VK}{W:List V->Hp->Prop}(I:Inv X pins σ H s)(hq:d_ X.K H a xs\/eX X.K H a xs)(ar:xs.length<64)(w0:W [] H)
 (turn:∀(pl:List (Addr × Obj)) (s':Shared) (H':Hp) (ks:List V) (y:V) (u:Value),Inv X (pins++pl) σ H' s'->W ks H'->xs[ks.length]? =some y->RelV y u->
   wpAny (model X.prog X.w) X.A.in1.in1 (call (.ref f) [u]) (EP X (pins++pl) σ λk aa=>W (ks++[k]) aa) (λ_ _=>False) s')
 (fin:∀(pl:List (Addr × Obj)) (s':Shared) (H':Hp) (ks:List V) (us:List Value),Inv X (pins++pl) σ H' s'->W ks H'->ks.length=xs.length->Vals ks us->∃(O:KeyOrd) (key:Nat->O.α),Asks X.prog X.w X.A.in1.in1 s' us key/\
   ∀p:List Nat,p.Perm (List.range xs.length)->(p.map key).Pairwise O.kle->∀D,H' D=none->Q (.ref D) (upd H' D (.lst (p.map λi=>xs.getD i .non)))):
 wpAny (model X.prog X.w) X.A (call (.builtin "sorted") [.ref a] [(Str.ofString "key",.ref f)]) (EP X pins σ Q) E s:=by
 obtain⟨vs,rv,al⟩:∃vs,Vals xs vs/\∀{A:Around} {E:Value->Shared->Prop} {Q:List Value->Shared->Prop},Q vs { s with heap:=(s.heap.push (seqObj "list" #[] 0)).update s.heap.objs.size (Obj.mapSeq (· ++vs.toArray)) }->vs.length<=sizeLine->wpAny (model X.prog X.w) A (collect (.ref a)) Q E s:=by
  rcases hq with hq|hq
  . obtain⟨vs,rv,pl,hz⟩:=I.list hq;exact⟨vs,rv,λh1 h2=>collect_list pl.isList h1 h2⟩
  . obtain⟨vs,rv,pl,hz⟩:=I.tuple hq;exact⟨vs,rv,λh1 h2=>GQ pl h1 h2⟩
 have hl:xs.length=vs.length:=rv.length;refine call_function_entry_kw kind_sorted plain_sorted entry_sorted (ksk_s1 _ _) ?_;unfold Builtin.«sorted»;refine Q0 (m:=checkCount "sorted" 1 1 _) (Q0d ?_);refine Q0 (al ?_ (by rw[sizeLine_eq];omega));refine Q0 (wpAny_newList ?_ (by rw[sizeLine_eq];omega))
 have hsz:((s.heap.push (seqObj "list" #[] 0)).update s.heap.objs.size (Obj.mapSeq (· ++vs.toArray))).objs.size=s.heap.objs.size+1:=by
  rw[Q2f,size_push']
 have U:(((s.heap.push (seqObj "list" #[] 0)).update s.heap.objs.size (Obj.mapSeq (· ++vs.toArray))).push (seqObj "list" vs.toArray 0)).get? (s.heap.objs.size+1)=some (seqObj "list" vs.toArray 0):=by
  rw[<-hsz];exact Q0n _ rfl
 have keep:∀b o,s.heap.get? b=some o->(((s.heap.push (seqObj "list" #[] 0)).update s.heap.objs.size (Obj.mapSeq (· ++vs.toArray))).push (seqObj "list" vs.toArray 0)).get? b=some o:=λb o q=>by
  have ac:b<s.heap.objs.size:=Q01 q;rw[Q32 _ _ _ (by rw[hsz];exact Q0c (Nat.lt_succ_of_lt ac)),Q2g _ _ _ _ (Q0c ac),Q32 _ _ _ (Q0c ac)];exact q
 show wpAny _ _ _ _ _ { s with heap:=((s.heap.push (seqObj "list" #[] 0)).update s.heap.objs.size (Obj.mapSeq (· ++vs.toArray))).push (seqObj "list" vs.toArray 0) };rw[hsz];generalize hG:((s.heap.push (seqObj "list" #[] 0)).update s.heap.objs.size (Obj.mapSeq (· ++vs.toArray))).push (seqObj "list" vs.toArray 0)=G at U keep ⊢;have am:G.objs.size=s.heap.objs.size+2:=by rw[<-hG,size_push',hsz]
 have I1:Inv X pins σ H { s with heap:=G }:=I.kept (t':=s.toks) keep;refine Q0 (wpAny_holding (wpAny_call_entry_kw slot_list_sort ⟨_,U,rfl⟩ entry_list_sort ?body (ksk_l1 _ _)))
 case body=>
  show wpAny (model X.prog X.w) X.A.in1.in1 (Builtin.«list.sort» ⟨[.ref (s.heap.objs.size+1)],[(Str.ofString "key",.ref f)]⟩) _ _ _;rw[ksk_t1];unfold ksk_tree;generalize hD:s.heap.objs.size+1=D at U ⊢;have af:s.heap.objs.size<=D:=by omega
  have s1:=Heap.SameBut.update G D (Obj.mapSeq λ_=>(#[]:Array Value));obtain⟨e1,ag⟩:∃e1,(G.update D (Obj.mapSeq λ_=>(#[]:Array Value))).get? D=some (lo [] e1):=⟨_,get?_update_seq U λ_=>#[]⟩;refine Q0 (listItems_at U rfl ?_);refine Q0 (listUpdate_at U rfl ?_ (by rw[Q05,sizeLine_eq];omega) (Q07 _));refine Q0 (seqEpoch_at ag rfl ?_);refine Q0 (wpAny_newTuple ?_ (by show vs.length<=_;rw[sizeLine_eq];omega));refine Q0 (wpAny_newList ?_ (Q07 _));refine wpAny_holding ?_;show wpAny (model X.prog X.w) X.A.in1.in1 _ _ _ { s with heap:=((G.update D (Obj.mapSeq λ_=>(#[]:Array Value))).push (seqObj "tuple" vs.toArray 0)).push (seqObj "list" #[] 0) };generalize ah:((G.update D (Obj.mapSeq λ_=>(#[]:Array Value))).push (seqObj "tuple" vs.toArray 0)).objs.size=kS;have aq:kS=s.heap.objs.size+3:=by rw[<-ah,size_push',Q2f,am]
  have ai:kS≠D:=by omega
  have L:iK X pins H D:=I.mC af (I.hok.fresh af);have ab:iK X pins H kS:=I.mC (by omega) (I.hok.fresh (by omega))
  have ae:∀b o,b≠D->G.get? b=some o->(((G.update D (Obj.mapSeq λ_=>(#[]:Array Value))).push (seqObj "tuple" vs.toArray 0)).push (seqObj "list" #[] 0)).get? b=some o:=λb o hb q=>
   Q0a _ (Q0a _ ((s1.2 b hb).trans q))
  have I2:Inv X pins σ H { s with heap:=((G.update D (Obj.mapSeq λ_=>(#[]:Array Value))).push (seqObj "tuple" vs.toArray 0)).push (seqObj "list" #[] 0) }:=
   Inv.turned (s:={ s with heap:=G }) (t':=s.toks) (it:=D) I1 ae L.1 L.2.1 L.2.2.2.1 L.2.2.2.2.1 L.2.2.2.2.2
  have hK:(((G.update D (Obj.mapSeq λ_=>(#[]:Array Value))).push (seqObj "tuple" vs.toArray 0)).push (seqObj "list" #[] 0)).get? kS=some (lo [] 0):=by rw[<-ah];exact Q0n _ rfl
  have aj:(((G.update D (Obj.mapSeq λ_=>(#[]:Array Value))).push (seqObj "tuple" vs.toArray 0)).push (seqObj "list" #[] 0)).get? D=some (lo [] e1):=Q0a _ (Q0a _ ag);generalize ((G.update D (Obj.mapSeq λ_=>(#[]:Array Value))).push (seqObj "tuple" vs.toArray 0)).push (seqObj "list" #[] 0)=G2 at I2 hK aj ⊢
  have pinned:∀{H':Hp} {s':Shared} {us:List Value} {e:Nat},Inv X pins σ H' s'->s'.heap.get? kS=some (lo us e)->s'.heap.get? D=some (lo [] e1)->H' kS=none->H' D=none->Inv X (pins++[(kS,lo us e),(D,lo [] e1)]) σ H' s':=λ{H' s' us e} J k1 k2 n1 n2=>
   J.my λp hp=>(List.mem_append.mp hp).elim (λz=>J.pin p (Q08 _ z)) λz=>by
     have z:p=(kS,lo us e)\/p=(D,lo [] e1):=by simpa using z
     rcases z with rfl|rfl
     . exact⟨k1,n1,ab.2.1,ab.2.2.1,by intro v z;cases z⟩
     . exact⟨k2,n2,L.2.1,L.2.2.1,by intro v z;cases z⟩
  have own:∀{H':Hp} {b:Addr},(b=kS\/b=D)->H' b=none->iK X pins H' b:=λ{H' b} hb n=>by
   rcases hb with rfl|rfl
   . exact⟨n,ab.2⟩
   . exact⟨n,L.2⟩
  unfold ksk_rest;refine Q0 (wpAny_rule ?_)
  first
   |rw[List.forIn_toArray]
   |(rw[<-Q33];simp only[List.toList_toArray])
   |rw[<-Q33]
  refine Q0 (ksk_fold (λi s'=>∃ks us e H',Inv X (pins++[(kS,lo us e),(D,lo [] e1)]) σ H' s'/\Vals ks us/\ks.length=i/\i<=vs.length/\W ks H') vs 0 _
   ⟨[],[],0,H,pinned I2 hK aj ab.1 L.1,.nil,rfl,Q07 _,w0⟩ (λj x s' hx hJ=>?_) λs' hJ=>?_)
  . obtain⟨ks,us,e,H',J,rk,hi,an,wk⟩:=hJ;have hi:ks.length=j:=by omega
    have hj:j<vs.length:=(List.getElem?_eq_some_iff.mp hx).1;have ak:j<xs.length:=by omega
    obtain⟨u,hu,ru⟩:=rv.get (Q02 ak);rw[hx] at hu;cases hu;refine Q0 (wpAny_attempt (Q0m (turn _ s' H' ks (xs[j]) x J wk (by rw[hi];exact Q02 ak) ru) (λk Y hk=>?_) λ_ _ hF=>hF.elim));obtain⟨kv,aa,J',ao,w'⟩:=hk;have pk:=J'.pin (kS,lo us e) (Q08 _ (Q08 _ (Q04)));have pD:=J'.pin (D,lo [] e1) (Q08 _ (Q08 _ (Q0e _ Q04)));have au:us.length=ks.length:=rk.length.symm;have s2:=Heap.SameBut.update Y.heap kS (Obj.mapSeq (·.push k));have ea:(List.toArray us).push k=List.toArray (us++[k]):=by simp
    obtain⟨c2,ap⟩:∃c2,(Y.heap.update kS (Obj.mapSeq (·.push k))).get? kS=some (lo (us++[k]) c2):=⟨_,by show _=some (seqObj "list" (List.toArray (us++[k])) _);rw[<-ea];exact get?_update_seq pk.1 (·.push k)⟩
    try dsimp only
    refine Q0 (listUpdate_at pk.1 rfl ?_ (by rw[Q05,sizeLine_eq];omega) (Q0h (Q1r (Array.size_push ..)) (by rw[Q05,sizeLine_eq];omega)));have J2:Inv X pins σ aa { Y with heap:=Y.heap.update kS (Obj.mapSeq (·.push k)) }:=J'.lh.own (t':=Y.toks) (own (.inl rfl) pk.2.1) s2;refine Q0d ⟨rfl,ks++[kv],us++[k],c2,aa,pinned J2 ap ((s2.2 D ai.symm).trans pD.1) pk.2.1 pD.2.1,rk.append (.cons ao .nil),by rw[Q09,Q1g];omega,by omega,w'⟩
  . obtain⟨ks,us,e,H',J,rk,hi,an,wk⟩:=hJ;have hi:ks.length=vs.length:=by omega
    have pk:=J.pin (kS,lo us e) (Q08 _ (Q08 _ (Q04)));have pD:=J.pin (D,lo [] e1) (Q08 _ (Q08 _ (Q0e _ Q04)))
    try dsimp only
    refine Q0 (listItems_at pk.1 rfl ?_);obtain⟨O,key,ask,q⟩:=fin _ s' H' ks us J wk (by omega) rk;refine GP J (own (.inl rfl) pk.2.1) (own (.inr rfl) pD.2.1) ai (by rw[<-rk.length];exact hi) (by omega) rv ask λp p1 p2 Y J'=>?_;exact(Zr rfl (Q0d (Zr rfl ⟨.ref D,_,J',rfl,q p (by rw[hl];exact p1) p2 D pD.2.1⟩)))
theorem Bp {E:Value->Shared->Prop}{f a:Addr}{xs:List V}{Q:VK}{W:List V->Hp->Prop}(I:Inv X pins σ H s)(U:d_ X.K H a xs)(J:xs.length<64)(Y:W [] H)
 (turn:∀(pl:List (Addr × Obj)) (s':Shared) (H':Hp) (ks:List V) (y:V) (u:Value),Inv X (pins++pl) σ H' s'->W ks H'->xs[ks.length]? =some y->RelV y u->
   wpAny (model X.prog X.w) X.A.in1.in1 (call (.ref f) [u]) (EP X (pins++pl) σ λk L=>W (ks++[k]) L) (λ_ _=>False) s')
 (fin:∀(pl:List (Addr × Obj)) (s':Shared) (H':Hp) (ks:List V) (us:List Value),Inv X (pins++pl) σ H' s'->W ks H'->ks.length=xs.length->Vals ks us->∃(O:KeyOrd) (key:Nat->O.α),Asks X.prog X.w X.A.in1.in1 s' us key/\
   ∀p:List Nat,p.Perm (List.range xs.length)->(p.map key).Pairwise O.kle->∀D,H' D=none->Q (.ref D) (upd H' D (.lst (p.map λi=>xs.getD i .non)))):
 wpAny (model X.prog X.w) X.A (call (.builtin "sorted") [.ref a] [(Str.ofString "key",.ref f)]) (EP X pins σ Q) E s:=GS I (.inl U) J Y turn fin
end
noncomputable def iW:Key->Key->Bool
 | .inl i,.inl j=>decide (i<j)
 | .inl _,.inr _=>true
 | .inr _,.inl _=>false
 | .inr x,.inr y=>decide (x.cps.toList<y.cps.toList)
theorem GU (a:Key):iW a a=false:=by
 cases a with
 |inl i=>simp[iW]
 |inr x=>simpa[iW] using Q34 x.cps.toList
theorem GV {a b c:Key}(h1:iW a b=true)(h2:iW b c=true):iW a c=true:=by
 cases a <;> cases b <;> cases c <;> simp only[iW,decide_eq_true_eq,Bool.false_eq_true] at * <;> first|omega|exact List.lt_trans h1 h2
theorem GW {x y:Str}(h:x.cps.toList=y.cps.toList):x=y:=by
 cases x;cases y;simp only[Str.mk.injEq];exact Array.toList_inj.mp h
theorem GX (a b:Key):iW a b=true\/a=b\/iW b a=true:=by
 cases a with
 |inl i=>
  cases b with
  |inl j=>
   simp only[iW,decide_eq_true_eq];rcases Int.lt_trichotomy i j with h|h|h
   . exact .inl h
   . exact .inr (.inl (by rw[h]))
   . exact .inr (.inr h)
  |inr y=>exact .inl rfl
 |inr x=>
  cases b with
  |inl j=>exact .inr (.inr rfl)
  |inr y=>
   simp only[iW,decide_eq_true_eq];by_cases h1:x.cps.toList<y.cps.toList
   . exact .inl h1
   . by_cases h2:y.cps.toList<x.cps.toList
     . exact .inr (.inr h2)
     . exact .inr (.inl (by rw[GW (List.le_antisymm (List.not_lt.mp h2) (List.not_lt.mp h1))]))
theorem GY {a b:Key}(h:iW a b=true):a≠b:=λe=>by
 rw[e,GU] at h;cases h
noncomputable def gM:List Key->List Key->Bool
 |[],[]=>false
 |[],_::_=>true
 |_::_,[]=>false
 |x::xs,y::ys=>if x=y then gM xs ys else iW x y
theorem pM:∀a:List Key,gM a a=false
 |[]=>rfl
 |x::xs=>by
  show(if x=x then gM xs xs else iW x x)=false;rw[if_pos rfl];exact pM xs
theorem nZ (x y:Key)(xs ys:List Key):gM (x::xs) (y::ys)=if x=y then gM xs ys else iW x y:=rfl
theorem mT:∀(a b c:List Key),gM a b=true->gM b c=true->gM a c=true
 |[],[],_,h,_=>by cases h
 |[],_::_,[],_,h=>by cases h
 |[],_::_,_::_,_,_=>rfl
 |_::_,[],_,h,_=>by cases h
 |_::_,_::_,[],_,h=>by cases h
 |x::xs,y::ys,z::zs,h1,h2=>by
  rw[nZ] at *;by_cases J:x=y
  . subst J;rw[if_pos rfl] at h1;by_cases I:x=z
    . rw[if_pos I] at h2 ⊢;exact mT xs ys zs h1 h2
    . rw[if_neg I] at h2 ⊢;exact h2
  . rw[if_neg J] at h1;by_cases I:y=z
    . subst I;rw[if_neg J];exact h1
    . rw[if_neg I] at h2;have q:=GV h1 h2;rw[if_neg (GY q)];exact q
theorem pN:∀a b:List Key,gM a b=true\/a=b\/gM b a=true
 |[],[]=>.inr (.inl rfl)
 |[],_::_=>.inl rfl
 |_::_,[]=>.inr (.inr rfl)
 |x::xs,y::ys=>by
  rw[nZ,nZ];by_cases e:x=y
  . subst e;rw[if_pos rfl,if_pos rfl];rcases pN xs ys with h|h|h
    . exact .inl h
    . exact .inr (.inl (by rw[h]))
    . exact .inr (.inr h)
  . rw[if_neg e,if_neg (λz=>e z.symm)];rcases GX x y with h|h|h
    . exact .inl h
    . exact absurd h e
    . exact .inr (.inr h)
@[reducible] noncomputable def n6:KeyOrd where
  α:=List Key
  blt:=gM
  irrefl:=pM
  trans:=mT
  negTrans a b c h:=by
   rcases pN a b with q|q|q
   . exact .inl q
   . exact .inr (by rw[<-q];exact h)
   . exact .inr (mT b a c q h)
  total a b h1 h2:=by
   rcases pN a b with q|q|q
   . rw[h1] at q;cases q
   . exact q
   . rw[h2] at q;cases q
def ku (a b:List Key):Prop:=gM b a=false
noncomputable def h7:Key->Bool
 | .inl _=>true
 | .inr _=>false
def Bq (I:List (List Key)):Prop:=∃ts:List Bool,ts≠[]/\∀J∈I,J.map h7=ts
def mU (H:Hp):List V->List (List Key)->Prop:=Paired λk I=>∃p,k=.ref p/\H p=some (.tup (I.map kV))
section
variable {X:Cx}{pins:List (Addr × Obj)}{σ:St}{H:Hp}{s:Shared}
theorem mV {k:Key}{u:Value}(r:RelV (kV k) u):(∃i t,k=.inl i/\u=.int i t)\/∃x t,k=.inr x/\u=.str x t:=by
 cases k with
 |inl i=>
  obtain⟨t,rfl⟩:=r;exact .inl ⟨i,t,rfl,rfl⟩
 |inr x=>
  obtain⟨t,rfl⟩:=r;exact .inr ⟨x,t,rfl,rfl⟩
theorem uF {prog:Program}{w:World}{A:Around}{C:Bool->Shared->Prop}:∀(L U:List Key) (I J:List Value) (i:Nat),Vals (L.map kV) I->Vals (U.map kV) J->L.map h7=U.map h7->C (gM L U) s->
 W.KatLex prog w A true false C (I.zip J) i s
 |[],[],I,J,i,Y,r2,_,q=>by
  cases Y;cases r2;exact W.kat_nil q
 |[],_::_,_,_,_,_,_,h,_=>by cases h
 |_::_,[],_,_,_,_,_,h,_=>by cases h
 |x::xs,y::ys,I,J,i,Y,r2,h,q=>by
  cases Y with
  |cons a1 b1=>
  cases r2 with
  |cons a2 b2=>
  have h1:h7 x=h7 y:=(List.cons.inj h).1;have h2:xs.map h7=ys.map h7:=(List.cons.inj h).2;rw[nZ] at q;rcases mV a1 with⟨m,t,rfl,rfl⟩|⟨m,t,rfl,rfl⟩ <;> rcases mV a2 with⟨n,t',rfl,rfl⟩|⟨n,t',rfl,rfl⟩
  . refine W.kat_cons (wpAny_eqBool_int ?_);by_cases e:m=n
    . subst e;rw[if_pos rfl] at q;rw[beq_self_eq_true];exact W.kat_yes (uF xs ys _ _ (i+1) b1 b2 h2 q)
    . rw[if_neg (λz=>e (Sum.inl.inj z))] at q;rw[beq_false_of_ne e];refine W.kat_no ?_
      cases hi:(i == 0) with
      |true=>exact oneLt_int q
      |false=>exact W.kat_one _ _ (lt_int q)
  . cases h1
  . cases h1
  . refine W.kat_cons (wpAny_eqBool_str ?_);by_cases e:m=n
    . subst e;rw[if_pos rfl] at q;rw[decide_eq_true rfl];exact W.kat_yes (uF xs ys _ _ (i+1) b1 b2 h2 q)
    . rw[if_neg (λz=>e (Sum.inr.inj z))] at q;rw[decide_eq_false e];refine W.kat_no ?_
      cases hi:(i == 0) with
      |true=>exact oneLt_str q
      |false=>exact W.kat_one _ _ (lt_str q)
theorem Br {ks:List V}{us:List Value}{J:List (List Key)}(I:Inv X pins σ H s)(r:Vals ks us)(U:mU H ks J){i:Nat}(hi:i<us.length):
 ∃p L,us.getD i Value.none=.ref p/\IsTup s.heap p (List.toArray L)/\Vals ((J.getD i []).map kV) L/\J.getD i []∈J:=by
 have hl:=r.length;have aa:ks.length=J.length:=Paired.length U;have e1:ks[i]? =some (ks[i]'(by omega)):=Q02 (by omega);obtain⟨u,hu,Y⟩:=r.get e1;have e2:J.getD i []=J[i]'(by omega):=by rw[Q06,Q02 (by omega)];rfl
 have key:∀(ks:List V) (J:List (List Key)),mU H ks J->∀i (h1:i<ks.length) (h2:i<J.length),∃p,ks[i]=.ref p/\H p=some (.tup (J[i].map kV)):=by
  intro ks J U
  induction U with
  |nil=>intro i h1;simp at h1
  |cons a b ih=>
   intro i h1 h2
   cases i with
   |zero=>exact a
   |succ i=>simpa using ih i (by simpa using h1) (by simpa using h2)
 obtain⟨p,hp,hH⟩:=key ks J U i (by omega) (by omega);rw[hp] at Y
 cases Y;obtain⟨L,rv,tp,_⟩:=I.tuple (eX.of hH);refine⟨p,L,by rw[Q06,hu];rfl,tp,by rw[e2];exact rv,by rw[e2];exact Q0y _⟩
theorem Bs (I:Inv X pins σ H s){t:Bool}:∀{ks:List V}{us:List Value}{J:List (List Key)},Vals ks us->mU H ks J->(∀L∈J,∃k r,L=k::r/\h7 k=t)->
 ∃fs,W.KatTups s.heap us fs/\fs.length=us.length/\∀v∈fs,(t=true/\∃i tk,v=.int i tk)\/(t=false/\∃x tk,v=.str x tk)
 |_,_,_,.nil,.nil,_=>⟨[],W.KatTups.nil,rfl,λv U=>nomatch U⟩
 |_,_,_,.cons a r,.cons b q,h=>by
  obtain⟨p,rfl,hp⟩:=b
  cases a;obtain⟨fs,f1,f2,f3⟩:=Bs I r q λL hm=>h L (Q0e _ hm);obtain⟨k,rr,rfl,Y⟩:=h _ Q04;obtain⟨aa,rv,⟨o,ho,hc,n,hd⟩,_⟩:=I.tuple (eX.of hp)
  cases rv with
  |cons a1 b1=>
   refine⟨_::fs,W.KatTups.cons ho hc hd (by simp;rfl) f1,by rw[Q0g,Q0g,f2],λv U=>?_⟩;rcases List.mem_cons.mp U with e|e
   . subst e;rcases mV a1 with⟨i,tk,rfl,rfl⟩|⟨x,tk,rfl,rfl⟩
     . exact .inl ⟨Y.symm,i,tk,rfl⟩
     . exact .inr ⟨Y.symm,x,tk,rfl⟩
   . exact f3 v e
theorem GZ {A:Around}{ks:List V}{us:List Value}{J:List (List Key)}(I:Inv X pins σ H s)(r:Vals ks us)(hk:mU H ks J)(aa:Bq J):Asks X.prog X.w A s us (O:=n6) (λi=>J.getD i []):=by
 intro h2;obtain⟨ts,ab,L⟩:=aa
 obtain⟨t,tr,rfl⟩:∃t tr,ts=t::tr:=by
  cases ts with
  |nil=>exact absurd rfl ab
  |cons t tr=>exact⟨t,tr,rfl⟩
 have hh:∀kl∈J,∃k r,kl=k::r/\h7 k=t:=λkl hm=>by
  have e:=L kl hm
  cases kl with
  |nil=>cases e
  |cons k r=>exact⟨k,r,rfl,(List.cons.inj e).1⟩
 obtain⟨fs,f1,f2,f3⟩:=Bs I r hk hh
 have fin:∀(i j:Nat) (C:Bool->Shared->Prop),i<us.length->j<us.length->C (gM (J.getD i []) (J.getD j [])) s->W.kas_ask X.prog X.w A (tuples' true) us i j C s:=by
  intro i j C hi hj q;unfold W.kas_ask;obtain⟨p,U,e1,⟨o,ho,hc,n,hd⟩,rv,m1⟩:=Br I r hk hi;obtain⟨p',its',ac,⟨o',ae,ag,n',af⟩,Y,m2⟩:=Br I r hk hj;rw[e1,ac];have ht:(J.getD i []).map h7=(J.getD j []).map h7:=(L _ m1).trans (L _ m2).symm
  have hl:U.length=its'.length:=by
   have:=congrArg List.length ht;rw[Q03,Q03] at this;rw[<-rv.length,<-Y.length,Q03,Q03,this]
  refine W.kat_lt ho hd ae af ?_;have ef:decide ((List.toArray U).size<(List.toArray its').size)=false:=by rw[Q05,Q05,hl];simp
  rw[ef];exact uF _ _ _ _ 0 rv Y ht q
 cases t with
 |true=>
  refine W.kat_kind (T:=.type "int") f1 (by omega) (λv hv=>?_) rfl ⟨rfl,fin⟩;rcases f3 v hv with⟨_,i,tk,rfl⟩|⟨z,_⟩
  . exact W.Looks.of_pure rfl
  . cases z
 |false=>
  refine W.kat_kind (T:=.type "str") f1 (by omega) (λv hv=>?_) rfl ⟨rfl,fin⟩;rcases f3 v hv with⟨z,_⟩|⟨_,x,tk,rfl⟩
  . cases z
  . exact W.Looks.of_pure rfl
end
def qY (K:PySem.W.Frag) (P:Addr) (L:Pos) (qual:Str) (te:TE) (σ:St) (Q:VK):VK:=λx H1=>∃a xs,x=.ref a/\d_ K H1 a xs/\xs.length<64/\fi P L qual H1/\
 ∀c' H2,lC P L qual c' H2->(∀b o,b≠P->H1 b=some o->H2 b=some o)->
 ∃W:List V->Hp->Prop,W [] H2/\(∀ks I,W ks I->lC P L qual c' I)/\(∀ks I y,W ks I->xs[ks.length]? =some y->te (some y::σ) I λk U=>W (ks++[k]) U)/\
 ∀ks I,W ks I->ks.length=xs.length->∃J,mU I ks J/\Bq J/\∀p:List Nat,p.Perm (List.range xs.length)->(p.map λi=>J.getD i []).Pairwise ku->∀D,I D=none->Q (.ref D) (upd I D (.lst (p.map λi=>xs.getD i .non)))
def G3 (K:W.Frag) (P:Addr) (I:Pos) (qual:Str) (tl te:TE):TE:=λσ H Q=>tl σ H (qY K P I qual te σ Q)
section
variable {X:Cx}
theorem Bt {x:Str}{N':List Str}{l body:Expr}{L:Arguments}{scope:Scope}{lp kp p pos:Pos}{qual:Str}{c P:Addr}{tl te:TE}{k:Nat}(hg:Gl X "sorted")(hm:X.mg "sorted"=none)(hv:bootBuiltins "sorted"=some (.builtin "sorted"))(hr:gy k X.A)(hq:X.env.qual++"<lambda>"=qual)(Y:X.env.code=.ref c)(C:PySem.W.CodeHd X.base c P)
 (B:BM X.mg X.base) (S:kW X x N' scope) (ab:defaultsOf L X.env=([],[])) (hb:∀(cl:List (Str × Addr)) (pm:Value) (c':Addr) (U u:Value),bindArgs (PySem.W.kla_fn "<lambda>" qual L body scope cl pm (.ref c') U) ⟨[u],[]⟩=pure [(x,u)])
 (hl:PE X l tl) (he:∀(cl:List (Str × Addr)) (f c':Addr) (s:Shared) (H:Hp),PE (pL X x N' scope cl qual f c' s H) body te) (hs:starEach [l] X.env=[(false,eval l X.env)]:=by rfl):
 PE X (.Call (.Name "sorted" p) [l] [⟨some "key",.Lambda L body scope lp,kp⟩] pos) (G3 X.K P lp qual tl te):=by
 intro pins s σ H Q I h;refine wpAny_Call_Name_kw (k_ I hg hm hv ?_);have ha:PA X [l] (g9 tl iS):=a_ hl c_ (by rw[hs];rfl);refine callWith_kw (fk (ha pos pins s σ H (λvs H1=>match vs with|[x]=>qY X.K P lp qual te σ Q x H1|_=>False) I h) λus s1 zq=>?_) (by rw[hs];rfl) (by rw[hs];rfl);obtain⟨vs,H1,I1,r1,q1⟩:=zq
 obtain⟨x',rfl⟩:∃x',vs=[x']:=by
  match vs,q1 with
  |[x'],_=>exact⟨x',rfl⟩
 have q1:qY X.K P lp qual te σ Q x' H1:=q1;obtain⟨a,xs,rfl,ag,ah,T,cont⟩:=q1;obtain⟨u,rfl,ru⟩:=vals1 r1
 cases ru;show wpAny _ _ (evalAll [do let v <-eval (.Lambda L body scope lp) X.env;standAt pos;pure v]) _ _ s1;obtain⟨cl,aa,ac,ae⟩:=qS (scope:=scope) (env:=X.env) λy hy hf=>I1.ok.has y.1 (S.free y hy hf);refine wpAny_evalAll_cons (Q0 (PySem.W.kla_eval ab ?_));rw[hq];refine Bg I1 Y C B T aa λf c' pm U H2 s2 I2 ai mono=>?_;refine Q0 (wpAny_standAt (Q0d (wpAny_evalAll_nil ?_)));show wpAny _ _ (call (.builtin "sorted") [.ref a] [(Str.ofString "key",.ref f)]) _ _ s2;obtain⟨W,w0,wL,wt,wf⟩:=cont c' H2 ai mono
 have aj:∃ps,H1 P=some (.gS ps):=by
  rcases T with e|⟨al,e,_⟩
  . exact⟨_,e⟩
  . exact⟨_,e⟩
 have ak:d_ X.K H2 a xs:=by
  obtain⟨ps,hP⟩:=aj;rcases ag with(z|⟨o,z⟩)|z
  . exact .inl (.inl (mono a _ (gN z hP (by intro z;cases z)) z))
  . exact .inl (.inr ⟨o,mono a _ (gN z hP (by intro z;cases z)) z⟩)
  . exact .inr z
 refine fk (Bp (Q:=Q) (W:=W) I2 ak ah w0 (λpl s' H' ks y u J wk hy ry=>?_) λpl s' H' ks us J wk af rk=>?_) λr s' ⟨v,H',J,rv,q⟩=>⟨v,H',J.lh,rv,q⟩
 . exact Bk J S hr.hd hr.depth ac ae (Q0s _ (Q08 _ Q04)) (wL ks H' wk).2 (hb cl pm c' U) ry (he cl f c') (wt ks H' y wk hy)
 . obtain⟨am,k1,k2,k3⟩:=wf ks H' wk af;exact⟨n6,_,GZ J rk k1 k2,λp p1 p2 D hD=>k3 p p1 p2 D hD⟩
end
noncomputable def pO (K:W.Frag) (a b:Addr):It:=
 ⟨λi H=>∃xs ys x y,d_ K H a xs/\d_ K H b ys/\xs[i]? =some x/\ys[i]? =some y,
  λi H v H'=>∃p x y,H p=none/\v=.ref p/\(∀xs,d_ K H a xs->xs[i]? =some x)/\(∀ys,d_ K H b ys->ys[i]? =some y)/\H'=upd H p (.tup [x,y]),
  λi H=>∃xs ys,d_ K H a xs/\d_ K H b ys/\(xs.length<=i\/ys.length<=i)⟩
theorem G4 {P:Program}{w:World}{K:W.Frag}{ai:List Expr}{k:Nat}{tpos:Pos}{z TI TO J L l1 l2:Addr}(D:ZipApart z TI TO J L l1 l2):
 Turn P w K (.Tuple ai k tpos) (pO K l1 l2) [z,TI,TO,J,L] z (λi h=>∃oa ob,IsZip h z TI TO .none/\IsPair h TI (.ref J) (.ref L)/\IsPair h TO oa ob/\h.IsListIter J l1 i/\h.IsListIter L l2 i) where
 mem:=by simp
 obj:=λi h st b U=>by
  obtain⟨oa,ob,h1,h2,h3,h4,h5⟩:=st;have U:b=z\/b=TI\/b=TO\/b=J\/b=L:=by simpa using U
  rcases U with rfl|rfl|rfl|rfl|rfl
  . exact⟨_,h1,λv y=>by
     have y:Data.fields _=Data.cell v:=y
     cases y⟩
  . exact⟨_,h2,λv y=>by
     have y:Data.seq _ _=Data.cell v:=y
     cases y⟩
  . exact⟨_,h3,λv y=>by
     have y:Data.seq _ _=Data.cell v:=y
     cases y⟩
  . obtain⟨o,q,c,d⟩:=h4;exact⟨o,q,λv y=>by rw[d] at y;cases y⟩
  . obtain⟨o,q,c,d⟩:=h5;exact⟨o,q,λv y=>by rw[d] at y;cases y⟩
 keep:=λi h h' st k=>by
  obtain⟨oa,ob,h1,h2,h3,h4,h5⟩:=st;exact⟨oa,ob,k z (by simp) _ h1,k TI (by simp) _ h2,k TO (by simp) _ h3,h4.at λo q=>k J (by simp) o q,h5.at λo q=>k L (by simp) o q⟩
 item:=by
  intro X hP hw hK hc i pins s σ H E I Y st hg;subst hP hw hK;obtain⟨oa,ob,h1,h2,h3,h4,h5⟩:=st;obtain⟨xs,ys,x,y,aa,ab,hx,hy⟩:=hg;obtain⟨aj,ae,p1,am⟩:=I.list aa;obtain⟨ak,af,p2,an⟩:=I.list ab;obtain⟨u1,ao,ap⟩:=ae.get hx;obtain⟨u2,aq,ar⟩:=af.get hy;have fr:H s.heap.objs.size=none:=I.hok.fresh (Q00 _);refine wpAny_pyNext_zip_item D h1 h2 h3 h4 h5 p1.isList p2.isList (x:=u1) (y:=u2) (by simpa using ao) (by simpa using aq) λh' q1 q2 q3 q4 q5 q6 q7=>?_;refine(Zr rfl (wpAny_letOwnedTupleGo_zip (s:={ s with heap:=h' }) q1 λac g1 g2=>?_))
  have au:∀b∈[z,TI,TO,J,L],b<s.heap.objs.size:=λb U=>by
   have U:b=z\/b=TI\/b=TO\/b=J\/b=L:=by simpa using U
   rcases U with rfl|rfl|rfl|rfl|rfl
   . exact Q01 h1
   . exact Q01 h2
   . exact Q01 h3
   . obtain⟨o,q,_⟩:=h4;exact Q01 q
   . obtain⟨o,q,_⟩:=h5;exact Q01 q
  have av:∀b o,s.heap.get? b=some o->b≠s.heap.objs.size:=λb o q=>Q0c (Q01 q);have kk:∀b o,b≠z->b≠TO->b≠J->b≠L->s.heap.get? b=some o->ac.get? b=some o:=λb o n1 n2 n3 n4 q=>g2.extBut b o n1 (q7 b o n1 n2 n3 n4 q);have kn:∀b o,b ∉ [z,TO,J,L]->s.heap.get? b=some o->ac.get? b=some o:=λb o n q=>kk b o (λy=>n (by simp[y])) (λy=>n (by simp[y])) (λy=>n (by simp[y])) (λy=>n (by simp[y])) q;have tup:ac.get? s.heap.objs.size=some { cls:=.type "tuple",data:=.seq #[u1,u2] }:=g2.extBut _ _ (Q0v (Q01 h1)) q5
  have I1:Inv X pins σ (upd H s.heap.objs.size (.tup [x,y])) { s with heap:=ac }:=by
   refine I.step (g':=s.gens) (d':=s.drawn) (t':=s.toks) (ch:=[z,TO,J,L]) (λb U=>?_) (λb o _ _ hc q _=>kn b o hc q) (λb o _ _ hc q _=>⟨o.slots,kn b o hc q⟩) (λb o _ q n=>?_) (λb o hc q=>⟨o,kn b o hc q⟩) (λb ws q=>?_) (λb o v q=>?_) (λb ps q=>?_) (λm hm=>?_) (λb o q=>?_) I.bare
   . have ag:b∈[z,TI,TO,J,L]:=by
      have U:b=z\/b=TO\/b=J\/b=L:=by simpa using U
      rcases U with rfl|rfl|rfl|rfl <;> simp
     obtain⟨f0,f1,f2,f3,f4,f5⟩:=Y b ag;exact⟨f3,f1,f4,f5⟩
   . rw[eU (av b o q)];exact n
   . rw[eU (ff q fr)];exact q
   . rw[eU (ff q fr)];exact q
   . exact⟨#[],by rw[eU (ff q fr),q];simp⟩
   . obtain⟨o,es,ep,ho,r⟩:=hm;exact⟨o,es,ep,kk _ o (Ne.symm (Y z (by simp)).2.1) (Ne.symm (Y TO (by simp)).2.1) (Ne.symm (Y J (by simp)).2.1) (Ne.symm (Y L (by simp)).2.1) ho,r⟩
   . by_cases U:b=s.heap.objs.size
     . subst U;rw[eW] at q;cases q;exact⟨xv,[u1,u2],.cons ap (.cons ar .nil),⟨_,tup,rfl,_,rfl⟩⟩
     . rw[eU U] at q
       have nn:∀c v,H c=some v->c ∉ [z,TO,J,L]:=λc v e hm=>by
        have aw:c∈[z,TI,TO,J,L]:=by
         have hm:c=z\/c=TO\/c=J\/c=L:=by simpa using hm
         rcases hm with rfl|rfl|rfl|rfl <;> simp
        have:=(Y c aw).1;rw[e] at this;cases this
       refine(I.hok b o q).stay (λc v ah y=>kn c v ?_ y) (λc y=>by rw[eU (ff y fr)];exact y) λc ws y=>by rw[eU (ff y fr)];exact y
       rcases ah with y|y
       . rw[y];exact nn b o q
       . exact nn c _ y
  refine⟨.ref s.heap.objs.size,_,I1,rfl,⟨s.heap.objs.size,x,y,fr,rfl,λws hw=>by rw[I.qB hw aa];exact hx,λws hw=>by rw[I.qB hw ab];exact hy,rfl⟩,⟨u1,u2,g1,?_,?_,?_,?_⟩,λb U=>?_⟩
  . exact kk TI _ D.TIz D.TITO D.TIi1 D.TIi2 h2
  . exact g2.extBut _ _ D.TOz q2
  . exact q3.at λo q=>g2.extBut _ _ D.i1z q
  . exact q4.at λo q=>g2.extBut _ _ D.i2z q
  . rw[eU (Q0c (au b U))];exact(Y b U).1
 done:=by
  intro X hP hw hK hc i pins s σ H E I Y st hg;subst hP hw hK;obtain⟨oa,ob,h1,h2,h3,h4,h5⟩:=st;obtain⟨xs,ys,aa,ab,al⟩:=hg;obtain⟨aj,ae,p1,am⟩:=I.list aa;obtain⟨ak,af,p2,an⟩:=I.list ab;have e1:=ae.length;have e2:=af.length
  refine wpAny_pyNext_zip_end (I.ok.hd hc) D h1 h2 h3 h4 h5 p1.isList p2.isList (by
   rcases al with q|q
   . exact .inl (by simp;omega)
   . exact .inr (by simp;omega)) λh' hk=>⟨rfl,?_⟩
  refine I.step (g':=s.gens) (d':=s.drawn) (t':=s.toks) (ch:=[z,TO,J,L]) (λb U=>?_) (λb o _ _ hc q _=>?_) (λb o _ _ hc q _=>?_) (λb o _ q n=>n) (λb o hc q=>?_) (λb ys q=>q) (λb o v q=>q) (λb ps q=>⟨#[],by rw[q];simp⟩) (λm hm=>?_) (λb o q=>?_) I.bare
  . have ag:b∈[z,TI,TO,J,L]:=by
     have U:b=z\/b=TO\/b=J\/b=L:=by simpa using U
     rcases U with rfl|rfl|rfl|rfl <;> simp
    obtain⟨f0,f1,f2,f3,f4,f5⟩:=Y b ag;exact⟨f3,f1,f4,f5⟩
  . exact hk b o (λy=>hc (by simp[y])) (λy=>hc (by simp[y])) (λy=>hc (by simp[y])) (λy=>hc (by simp[y])) q
  . exact⟨o.slots,hk b o (λy=>hc (by simp[y])) (λy=>hc (by simp[y])) (λy=>hc (by simp[y])) (λy=>hc (by simp[y])) q⟩
  . exact⟨o,hk b o (λy=>hc (by simp[y])) (λy=>hc (by simp[y])) (λy=>hc (by simp[y])) (λy=>hc (by simp[y])) q⟩
  . obtain⟨o,es,ep,ho,r⟩:=hm;exact⟨o,es,ep,hk _ o (Ne.symm (Y z (by simp)).2.1) (Ne.symm (Y TO (by simp)).2.1) (Ne.symm (Y J (by simp)).2.1) (Ne.symm (Y L (by simp)).2.1) ho,r⟩
  . have nn:∀c v,H c=some v->∀y∈[z,TI,TO,J,L],c≠y:=λc v e y hy=>ff e (Y y hy).1;refine(I.hok b o q).stay (λc v ah y=>hk c v ?_ ?_ ?_ ?_ y) (λ_ y=>y) λ_ _ y=>y <;> (rcases ah with y|y)
    all_goals first
     |(rw[y];exact nn b o q _ (by simp))
     |exact nn c _ y _ (by simp)
 self:=λA i s Q E st q=>by
  obtain⟨oa,ob,h1,_⟩:=st;exact wpAny_pyIter_zip h1 q
def G5 (K:W.Frag) (ta:TA):TI:=λσ H R=>ta σ H λvs H1=>∃a b,vs=[.ref a,.ref b]/\(∃xs,d_ K H1 a xs)/\(∃ys,d_ K H1 b ys)/\R (pO K a b) H1
section
variable {X:Cx}
theorem uG {aa:List Expr}{k:Nat}{tpos:Pos}{a b:Expr}{ta:TA}{p pos:Pos}(hg:Gl X "zip")(hm:X.mg "zip"=none)(ha:PA X [a,b] ta)(hs:starEach [a,b] X.env=[(false,eval a X.env),(false,eval b X.env)]:=by rfl)
 (Y:starEach [b] X.env=[(false,eval b X.env)]:=by rfl):PI X (.Tuple aa k tpos) (.Call (.Name "zip" p) [a,b] [] pos) (G5 X.K ta):=by
 intro pins s σ H R I h;refine Call_ (k_ I hg hm boot_zip (PyProof.Rows.callWith_type1 (fk (ha pos pins s σ H _ I h) λus J zq=>?_) (by rw[hs,Y]) (by rw[Y];rfl)));obtain⟨vs,H1,U,r1,q1⟩:=zq;obtain⟨l1,l2,e,⟨xs,ab⟩,⟨ys,ac⟩,q⟩:=q1;subst e;obtain⟨u1,u2,rfl,ae,af⟩:=vals2 r1
 cases ae
 cases af;obtain⟨ag,ai,p1,aj⟩:=U.list ab;obtain⟨ah,ak,p2,al⟩:=U.list ac;have a1:l1<J.heap.objs.size:=by obtain⟨_,e,_⟩:=p1.isList;exact Q01 e
 have a2:l2<J.heap.objs.size:=by obtain⟨_,e,_⟩:=p2.isList;exact Q01 e
 refine call_zip_2 p1.isList p2.isList λh' q1 q2 q3 q4 q5 q6 q7=>?_;refine wpAny_pyIter_zip q1 ?_;have I2:Inv X pins σ H1 { J with heap:=h' }:=U.kept (t':=J.toks) q7
 have Dz:ZipApart (J.heap.objs.size+4) (J.heap.objs.size+2) (J.heap.objs.size+3) J.heap.objs.size (J.heap.objs.size+1) l1 l2:=by
  have b1:@LT.lt Nat _ l1 J.heap.objs.size:=a1;have b2:@LT.lt Nat _ l2 J.heap.objs.size:=a2;constructor <;> (intro z;have z':(_:Nat)=_:=z;omega)
 refine⟨J.heap.objs.size+4,[J.heap.objs.size+4,J.heap.objs.size+2,J.heap.objs.size+3,J.heap.objs.size,J.heap.objs.size+1],_,_,H1,rfl,I2,G4 Dz,⟨.none,.none,q1,q2,q3,q4,q5⟩,λb L=>?_,q⟩
 have L:J.heap.objs.size<=b:=by
  have L:b=J.heap.objs.size+4\/b=J.heap.objs.size+2\/b=J.heap.objs.size+3\/b=J.heap.objs.size\/b=J.heap.objs.size+1:=by simpa using L
  rcases L with z|z|z|z|z <;> rw[z]
  . exact Q1j _ _
  . exact Q1j _ _
  . exact Q1j _ _
  . exact Q00 _
  . exact Q1j _ _
 exact U.mC L (U.hok.fresh L)
end
end L2
namespace HT
open PyProof.Rows L2
section
open SeqAt
open PySem.AutoSeq1 (wpAny_loadPart')
open MeetsSeq MeetsSeq2 MeetsSeq3
inductive KeysAre:List Value->List Key->Prop
 |nil:KeysAre [] []
 |cons {u:Value} {k:Key} {us:List Value} {ks:List Key}:RelV (kV k) u->KeysAre us ks->KeysAre (u::us) (k::ks)
theorem KeysAre.of:∀{ks:List Key}{us:List Value},Vals (ks.map kV) us->KeysAre us ks
 |[],_,r=>by cases r;exact .nil
 |k::ks,_,r=>by
  cases r with
  |cons a b=>exact .cons a (KeysAre.of b)
theorem KeysAre.length:∀{us:List Value}{ks:List Key},KeysAre us ks->us.length=ks.length
 |_,_,.nil=>rfl
 |_,_,.cons _ h=>by rw[Q0g,Q0g,h.length]
theorem G6 (A:Around)(s:Shared){k j:Key}{u v:Value}(r:RelV (kV k) u)(q:RelV (kV j) v)(ht:h7 k=h7 j):∃e,SeqAt.EqAt A s u v e/\(e=true↔k=j):=by
 rcases mV r with⟨m,t,rfl,rfl⟩|⟨m,t,rfl,rfl⟩ <;> rcases mV q with⟨n,t',rfl,rfl⟩|⟨n,t',rfl,rfl⟩
 . exact⟨m == n,SeqAt.EqAt.int_int m t n t',by simp⟩
 . cases ht
 . cases ht
 . exact⟨m == n,SeqAt.EqAt.str_str m t n t',by simp⟩
theorem G7 (A:Around)(s:Shared){k j:Key}{u v:Value}(r:RelV (kV k) u)(q:RelV (kV j) v)(ht:h7 k=h7 j)(prog:Program)(w:World)(E:Value->Shared->Prop)(Q:Value->Shared->Prop)(h:Q (.bool (!iW j k)) s):
 wpAny (model prog w) A (richCompare .LtE u v) Q E s:=by
 rcases mV r with⟨m,t,rfl,rfl⟩|⟨m,t,rfl,rfl⟩ <;> rcases mV q with⟨n,t',rfl,rfl⟩|⟨n,t',rfl,rfl⟩
 . have e:(!iW (.inl n) (.inl m))=decide (m<=n):=by
    show(!decide (n<m))=decide (m<=n);rw[<-decide_not];exact decide_eq_decide.mpr Int.not_lt
   rw[e] at h;exact(PyProof.Rows.le_int h:wpAny (model prog w) A (compareOp .LtE (.int m t) (.int n t')) Q E s)
 . cases ht
 . cases ht
 . exact(PySem.P.le_str h:wpAny (model prog w) A (compareOp .LtE (.str m t) (.str n t')) Q E s)
theorem G8 (l b:Addr)(J I:Array Value)(n n2:Nat)(dd ai:Option Addr)(sl aj:Array (Option Value))(ns ms:List Key)(hi:KeysAre J.toList ns)(hj:KeysAre I.toList ms)(ht:ns.map h7=ms.map h7):
 Meets (Builtin.«tuple.__le__» ⟨[.ref l,.ref b],[]⟩)
  (λ_ R s=>s.heap.get? l=some { cls:=.type "tuple",dict:=dd,data:=.seq J n,slots:=sl }/\s.heap.get? b=some { cls:=.type "tuple",dict:=ai,data:=.seq I n2,slots:=aj }/\
    R (.ok (.ret (.bool (!gM ms ns)))) s):=
 .of_wp λprog w A R s h=>by
   obtain⟨hp,g,d,tk,os⟩:=s;obtain⟨hl,hb,h⟩:=h;have f2:=AutoSeq1.sub_tuple_tuple;have z1:J.size=ns.length:=by rw[<-hi.length];simp
   have z2:I.size=ms.length:=by rw[<-hj.length];simp
   have z3:ns.length=ms.length:=by have:=congrArg List.length ht;simpa using this
   wp_walk using wpAny_loadPart' hl,wpAny_loadPart' hb,wpAny_forIn_list _ (λrest b s'=>b.1=none/\s'=⟨hp,g,d,tk,os⟩/\∃(vs ws:List Value) (U Y:List Key),rest=vs.zip ws/\
    KeysAre vs U/\KeysAre ws Y/\U.map h7=Y.map h7/\R (.ok (.ret (.bool (!gM Y U)))) ⟨hp,g,d,tk,os⟩) _
   case turn=>
    rintro⟨y,x⟩ rest b s' ⟨ac,rfl,vs,ws,U,Y,hz,ae,aa,L,hR⟩
    cases ae with
    |nil=>rw[List.zip_nil_left] at hz;cases hz
    |cons a ag=>
     cases aa with
     |nil=>rw[List.zip_nil_right] at hz;cases hz
     |cons c ah=>
      rw[Q35] at hz;injection hz with ak af
      injection ak with hy hx
      subst hy hx;rw[nZ] at hR;have t1:=(List.cons.inj L).1;have t2:=(List.cons.inj L).2;obtain⟨e,he,ab⟩:=G6 A.in1 ⟨hp,g,d,tk,os⟩ a c t1;refine Q0 (he prog w _ _ ?_)
      cases e with
      |true=>
       rw[if_pos (ab.mp rfl).symm] at hR
       wp_walk
       exact⟨rfl,rfl,_,_,_,_,af,ag,ah,t2,hR⟩
      |false=>
       rw[if_neg (λq=>absurd (ab.mpr q.symm) Bool.false_ne_true)] at hR;have al:=G7 A.in1 ⟨hp,g,d,tk,os⟩ a c t1 prog w
       wp_walk using al
       exact(Zr rfl (by simpa using hR))
   case fin=>
    rintro⟨b1,b2⟩ s' ⟨ac,rfl,vs,ws,U,Y,hz,ae,aa,L,hR⟩;simp only at ac;subst ac
    have hv:(!gM Y U)=decide (J.size<=I.size):=by
     cases ae with
     |nil=>
      cases aa with
      |nil=>exact(decide_eq_true (by omega)).symm
      |cons c hw=>cases L
     |cons a hv=>
      cases aa with
      |nil=>cases L
      |cons c hw=>
       rw[Q35] at hz
       cases hz
    rw[hv] at hR
    wp_walk
    exact(Zr rfl (by simpa[Builtin.Tuple.tupleCompareSizes] using hR))
   case h=>
    exact⟨rfl,rfl,J.toList,I.toList,ns,ms,rfl,hi,hj,ht,h⟩
end
section
variable {prog:Program}{w:World}{A:Around}{E:Value->Shared->Prop}{s:Shared}
theorem G9 {l b:Addr}{J I:Array Value}{ns ms:List Key}{Q:Value->Shared->Prop}(hl:IsTup s.heap l J)(hb:IsTup s.heap b I)(hi:KeysAre J.toList ns)(hj:KeysAre I.toList ms)(ht:ns.map h7=ms.map h7)
 (hu:A.units<cLine) (h:Q (.bool (!gM ms ns)) s):wpAny (model prog w) A (compareOp .LtE (.ref l) (.ref b)) Q E s:=by
 obtain⟨⟨cls,dd,data,sl⟩,ho,hc,n,hd⟩:=id hl;obtain⟨⟨ac,aa,data2,ab⟩,L,U,n2,Y⟩:=id hb;simp only at hc hd U Y;subst hc hd U Y
 exact richCompare_meets_room (op:=.LtE) ⟨_,ho,rfl⟩ ⟨_,L,rfl⟩ PySem.F.slot_tuple_le PySem.F.entry_tuple_le (PySem.F.args_tuple_le_2 _ _) (G8 l b J I n n2 dd aa sl ab ns ms hi hj ht)
  ⟨ho,L,show Value.bool (!gM ms ns)≠Value.notImplemented/\Q (.bool (!gM ms ns)) s from⟨(λx=>nomatch x),h⟩⟩ hu
end
end HT
namespace L2
open Spec PyProof.Rows
section
variable {X:Cx}
def G_ (K:W.Frag):R2:=λx y H Q=>∃a b ns ms,x=.ref a/\y=.ref b/\eX K H a (ns.map kV)/\eX K H b (ms.map kV)/\ns.map h7=ms.map h7/\Q (.bl (!gM ms ns)) H
theorem Ha (L:X.A.units<cLine):g8 X (compareOp .LtE) (G_ X.K):=by
 intro pins s σ H x y v u Q I U Y h;obtain⟨a,b,ns,ms,rfl,rfl,ha,hb,ht,q⟩:=h
 cases U
 cases Y;obtain⟨aa,r1,p1,_⟩:=I.tuple ha;obtain⟨J,r2,p2,_⟩:=I.tuple hb;exact HT.G9 p1 p2 (by simpa using HT.KeysAre.of r1) (by simpa using HT.KeysAre.of r2) ht L ⟨.bl (!gM ms ns),H,I,rfl,q⟩
end
inductive il (K:W.Frag) (H:Hp):Nat->V->V->Bool->Prop
 |ref {n:Nat} (a:Addr):il K H n (.ref a) (.ref a) true
 |int {n:Nat} (a b:Int):il K H n (.int a) (.int b) (decide (a=b))
 |str {n:Nat} (a b:Str):il K H n (.str a) (.str b) (decide (a=b))
 |is {n:Nat} (a:Int) (b:Str):il K H n (.int a) (.str b) false
 |si {n:Nat} (a:Str) (b:Int):il K H n (.str a) (.int b) false
 |lst {n:Nat} {a b:Addr} {xs ys:List V} {e:Nat->Bool} (ne:a≠b) (ha:d_ K H a xs) (hb:d_ K H b ys) (hl:xs.length=ys.length) (he:∀(j:Nat) (x y:V),xs[j]? =some x->ys[j]? =some y->il K H n x y (e j)):
   il K H (n+1) (.ref a) (.ref b) ((List.range xs.length).all e)
 |tup {n:Nat} {a b:Addr} {xs ys:List V} {e:Nat->Bool} (ne:a≠b) (ha:eX K H a xs) (hb:eX K H b ys) (he:∀(j:Nat) (x y:V),xs[j]? =some x->ys[j]? =some y->il K H n x y (e j)):
   il K H (n+1) (.ref a) (.ref b) ((List.range (min xs.length ys.length)).all e && xs.length == ys.length)
section
variable {X:Cx}{pins:List (Addr × Obj)}{σ:St}{H:Hp}{s:Shared}
theorem Vals.at:∀{xs:List V}{us:List Value},Vals xs us->∀(j:Nat) (h:j<us.length),∃x,xs[j]? =some x/\RelV x us[j]
 |_,_,.nil,j,h=>absurd h (by simp)
 |_,_,.cons a r,0,h=>(Zr rfl a)
 |_,_,.cons a r,j+1,h=>by
  obtain⟨x,h1,h2⟩:=Vals.at r j (by simpa using h);exact⟨x,by simpa using h1,h2⟩
theorem il.qZ (I:Inv X pins σ H s){n:Nat}{x y:V}{b:Bool}(h:il X.K H n x y b):∀(A:Around) (u v:Value),RelV x u->RelV y v->A.units+n<cLine->SeqAt.EqAt A s u v b:=by
 induction h with
 |ref a=>
  intro A u v J L hu
  cases J
  cases L;exact SeqAt.EqAt.same _
 |int a b=>
  intro A u v J L hu;obtain⟨t,rfl⟩:=J;obtain⟨t',rfl⟩:=L;exact SeqAt.EqAt.int_int a t b t'
 |str a b=>
  intro A u v J L hu;obtain⟨t,rfl⟩:=J;obtain⟨t',rfl⟩:=L
  have e:decide (a=b)=(a == b):=by
   by_cases z:a=b
   . rw[decide_eq_true z,z];simp
   . rw[decide_eq_false z];exact(beq_eq_false_iff_ne.mpr z).symm
  rw[e];exact SeqAt.EqAt.str_str a t b t'
 |is a b=>
  intro A u v J L hu;obtain⟨t,rfl⟩:=J;obtain⟨t',rfl⟩:=L;exact SeqAt.EqAt.int_str a t b t'
 |si a b=>
  intro A u v J L hu;obtain⟨t,rfl⟩:=J;obtain⟨t',rfl⟩:=L;exact SeqAt.EqAt.str_int a t b t'
 |@lst n a b xs ys e ne ha hb hl he ih=>
  intro A u v J L hu
  cases J
  cases L;obtain⟨Y,r1,p1,_⟩:=I.list ha;obtain⟨U,r2,p2,_⟩:=I.list hb;have l1:=r1.length;have l2:=r2.length;refine .of_refs ne ?_;have q:xs.length=Y.toArray.size:=by rw[Q05];exact l1
  rw[q];refine SeqAt.RcAt.lists p1.isList p2.isList (by rw[Q05,Q05];omega) (by omega) λj h1 h2=>?_;obtain⟨x',e1,q1⟩:=Vals.at r1 j (by simpa using h1);obtain⟨y',e2,q2⟩:=Vals.at r2 j (by simpa using h2);refine ih j x' y' e1 e2 _ _ _ (by simpa using q1) (by simpa using q2) ?_;show A.units+1+n<cLine;omega
 |@tup n a b xs ys e ne ha hb he ih=>
  intro A u v J L hu
  cases J
  cases L;obtain⟨Y,r1,p1,_⟩:=I.tuple ha;obtain⟨U,r2,p2,_⟩:=I.tuple hb;have l1:=r1.length;have l2:=r2.length;refine .of_refs ne ?_;have q:xs.length=Y.toArray.size:=by rw[Q05];exact l1
  have q':ys.length=U.toArray.size:=by rw[Q05];exact l2
  rw[q,q'];refine SeqAt.RcAt.tuples p1 p2 (by omega) λj h1 h2=>?_;obtain⟨x',e1,q1⟩:=Vals.at r1 j (by simpa using h1);obtain⟨y',e2,q2⟩:=Vals.at r2 j (by simpa using h2);refine ih j x' y' e1 e2 _ _ _ (by simpa using q1) (by simpa using q2) ?_;show A.units+1+n<cLine;omega
def uH (K:W.Frag) (H:Hp) (n:Nat) (xs ys:List V) (e:Nat->Bool):Prop:=∀(j:Nat) (x y:V),xs[j]? =some x->ys[j]? =some y->il K H n x y (e j)
def Bu (K:W.Frag) (n:Nat):R2:=λx y H Q=>∃a b xs ys e,x=.ref a/\y=.ref b/\uH K H n xs ys e/\
 ((d_ K H a xs/\d_ K H b ys/\((xs.length=ys.length/\Q (.bl ((List.range xs.length).all e)) H)\/(xs.length≠ys.length/\Q (.bl false) H)))\/
  (eX K H a xs/\eX K H b ys/\Q (.bl ((List.range (min xs.length ys.length)).all e && xs.length == ys.length)) H))
theorem Hb {n:Nat}(hu:X.A.units+1+n<cLine):g8 X (compareOp .Eq) (Bu X.K n):=by
 intro pins s σ H x y v u Q I rx ry h;obtain⟨a,b,xs,ys,e,rfl,rfl,hd,h⟩:=h
 cases rx
 cases ry;rcases h with⟨ha,hb,h⟩|⟨ha,hb,q⟩
 . obtain⟨L,U,p1,_⟩:=I.list ha;obtain⟨J,Y,p2,_⟩:=I.list hb;have l1:=U.length;have l2:=Y.length;rcases h with⟨hl,q⟩|⟨hl,q⟩
   . have z:xs.length=L.toArray.size:=by rw[Q05];exact l1
     rw[z] at q;refine SeqAt.eq_listAt (e:=e) p1.isList p2.isList (by rw[Q05,Q05];omega) (by omega) (λj h1 h2=>?_) ⟨.bl _,H,I,rfl,q⟩;obtain⟨x',e1,q1⟩:=Vals.at U j (by simpa using h1);obtain⟨y',e2,q2⟩:=Vals.at Y j (by simpa using h2);refine(hd j x' y' e1 e2).qZ I _ _ _ (by simpa using q1) (by simpa using q2) ?_;show X.A.units+1+n<cLine;omega
   . refine SeqAt.eq_list_lengthsAt p1.isList p2.isList ?_ (by omega) ⟨.bl false,H,I,rfl,q⟩;rw[Q05,Q05];simp;omega
 . obtain⟨L,U,p1,_⟩:=I.tuple ha;obtain⟨J,Y,p2,_⟩:=I.tuple hb;have l1:=U.length;have l2:=Y.length;have z:xs.length=L.toArray.size:=by rw[Q05];exact l1
   have z':ys.length=J.toArray.size:=by rw[Q05];exact l2
   rw[z,z'] at q;refine SeqAt.eq_tupleAt (e:=e) p1 p2 (by omega) (λj h1 h2=>?_) ⟨.bl _,H,I,rfl,q⟩;obtain⟨x',e1,q1⟩:=Vals.at U j (by simpa using h1);obtain⟨y',e2,q2⟩:=Vals.at Y j (by simpa using h2);refine(hd j x' y' e1 e2).qZ I _ _ _ (by simpa using q1) (by simpa using q2) ?_;show X.A.units+1+n<cLine;omega
def Bv (K:W.Frag) (n:Nat):R2:=λx y H Q=>∃a b xs ys e,x=.ref a/\y=.ref b/\uH K H n xs ys e/\
 ((d_ K H a xs/\d_ K H b ys/\((xs.length=ys.length/\Q (.bl (!(List.range xs.length).all e)) H)\/(xs.length≠ys.length/\Q (.bl true) H)))\/
  (eX K H a xs/\eX K H b ys/\Q (.bl (!((List.range (min xs.length ys.length)).all e && xs.length == ys.length))) H))
theorem Hc {n:Nat}(hu:X.A.units+1+n<cLine):g8 X (compareOp .NotEq) (Bv X.K n):=by
 intro pins s σ H x y v u Q I rx ry h;obtain⟨a,b,xs,ys,e,rfl,rfl,hd,h⟩:=h
 cases rx
 cases ry;rcases h with⟨ha,hb,h⟩|⟨ha,hb,q⟩
 . obtain⟨L,U,p1,_⟩:=I.list ha;obtain⟨J,Y,p2,_⟩:=I.list hb;have l1:=U.length;have l2:=Y.length;rcases h with⟨hl,q⟩|⟨hl,q⟩
   . have z:xs.length=L.toArray.size:=by rw[Q05];exact l1
     rw[z] at q;refine(SeqAt.RcNeAt.lists (e:=e) p1.isList p2.isList (by rw[Q05,Q05];omega) (by omega) (λj h1 h2=>?_)) X.prog X.w _ _ ⟨.bl _,H,I,rfl,q⟩;obtain⟨x',e1,q1⟩:=Vals.at U j (by simpa using h1);obtain⟨y',e2,q2⟩:=Vals.at Y j (by simpa using h2);refine(hd j x' y' e1 e2).qZ I _ _ _ (by simpa using q1) (by simpa using q2) ?_;show X.A.units+1+n<cLine;omega
   . refine(SeqAt.RcNeAt.lists_lengths p1.isList p2.isList ?_ (by omega)) X.prog X.w _ _ ⟨.bl true,H,I,rfl,q⟩;rw[Q05,Q05];simp;omega
 . obtain⟨L,U,p1,_⟩:=I.tuple ha;obtain⟨J,Y,p2,_⟩:=I.tuple hb;have l1:=U.length;have l2:=Y.length;have z:xs.length=L.toArray.size:=by rw[Q05];exact l1
   have z':ys.length=J.toArray.size:=by rw[Q05];exact l2
   rw[z,z'] at q;refine(SeqAt.RcNeAt.tuples (e:=e) p1 p2 (by omega) (λj h1 h2=>?_)) X.prog X.w _ _ ⟨.bl _,H,I,rfl,q⟩;obtain⟨x',e1,q1⟩:=Vals.at U j (by simpa using h1);obtain⟨y',e2,q2⟩:=Vals.at Y j (by simpa using h2);refine(hd j x' y' e1 e2).qZ I _ _ _ (by simpa using q1) (by simpa using q2) ?_;show X.A.units+1+n<cLine;omega
end
def Hd (e:Addr) (l:List Env) (h h':Heap):Prop:=
 (∀b o,b ∉ frs l->b≠e->h.get? b=some o->h'.get? b=some o)/\∀b o,b≠e->h.get? b=some o->∃I,h'.get? b=some { o with slots:=I }
theorem uI {f:Array Value->Array Value}{o:Obj}{vs:Array Value}(h:o.data=.fields vs):Obj.mapFields f o={ o with data:=.fields (f vs) }:=by
 obtain⟨c,d,I,J⟩:=o;have h:I=.fields vs:=h;subst h;rfl
section
variable {M:Model}{A:Around}{E:Value->Shared->Prop}{s:Shared}
theorem Bw {base:Heap}{env:Env}{outer:List Env}{L e:Addr}{I:Obj}{vs:Array Value}{head:Value}{ac:Bool}{Q:Unit->Shared->Prop}
 (ae:A.frames=some (env::outer)) (hl:s.heap.FunFrames base (env::outer)) (hf:env.frame=some L) (he:s.heap.get? e=some I) (hd:I.data=.fields vs) (hsz:1<vs.size)
 (h:∀(h':Heap) (T:Addr),s.heap.objs.size<=T->Hd e (env::outer) s.heap h'->h'.get? e=some { I with data:=.fields (vs.setIfInBounds 1 (.ref T)) }->(∃oT ts,h'.get? T=some oT/\oT.data=.fields ts/\ts[3]? =some (rawInt L))->Q () { s with heap:=h' }):
 wpAny M A (do let a <-frameOf env;let pl <-entryPlaceOf L ac;let b <-EntryCells.newEntry head a .none (rawInt L) .none pl;setField (.ref e) 1 b) Q E s:=by
 have af:e ∉ (env::outer).filterMap (·.frame):=λz=>by
  obtain⟨_,o,Y,hn⟩:=hl.mem z;rw[he] at Y
  cases Y;exact hn vs hd
 refine Q0 (wpAny_frameOf_fun ae hl hf λh1 x1=>?_);refine Q0 (wpAny_entryPlaceOf λpl aa=>?_);unfold EntryCells.newEntry newFields;refine Q0 (wpAny_newObj_type ?_ (aa.sizeOk5 _ _ _ _ _));have e1:h1.get? e=some I:=(x1.2.1 e af).trans he;generalize ab:({ cls:=.type "traceback",dict:=none,data:=.fields ([head,.ref L,.none,rawInt L,.none]++(if pl.isEmpty then List.replicate 6 Value.none else pl)).toArray }:Obj)=ob;have e2:(h1.push ob).get? e=some I:=Q0a ob e1;have ag:h1.objs.size≠e:=Q0v (Q01 e1);have U:({ I with data:=.fields (vs.setIfInBounds 1 (.ref h1.objs.size)) }:Obj).isFreed=false:=Obj.isFreed_of_fields rfl;have em:Obj.mapFields (·.setIfInBounds 1 (Value.ref h1.objs.size)) I={ I with data:=.fields (vs.setIfInBounds 1 (.ref h1.objs.size)) }:=uI hd;refine wpAny_setField e2 hd hsz (h _ h1.objs.size (Q1r x1.1.symm) ⟨λb o hb J Y=>?_,λb o J Y=>?_⟩ ?_ ?_)
 . rw[Q16 _ _ (Ne.symm J)];exact Q0a ob ((x1.2.1 b hb).trans Y)
 . obtain⟨sl,hs⟩:=x1.2.2 b o Y;refine⟨sl,?_⟩;rw[Q16 _ _ (Ne.symm J)];exact Q0a ob hs
 . have:=Q1f (Obj.mapFields (·.setIfInBounds 1 (Value.ref h1.objs.size))) e2 (by rw[em];exact U);rw[em] at this;exact this
 . refine⟨ob,_,?_,by rw[<-ab],?_⟩
   . rw[Q16 _ _ (Ne.symm ag)];exact Q0n h1 (by rw[<-ab];rfl)
   . first|(simp;done)|(rcases aa with rfl|⟨_,_,_,_,_,_,_,rfl⟩ <;> simp)
structure Tr (h:Heap) (e T:Addr) (cls fl:Value):Prop where
 ex:∃oe vs,h.get? e=some oe/\oe.cls=cls/\oe.dict=none/\oe.data=.fields vs/\vs[1]? =some (.ref T)
 tb:∃oT ts,h.get? T=some oT/\oT.data=.fields ts/\ts[3]? =some fl
 ne:T≠e
end
theorem gR.ex {P:Program}{w:World}{H:Hp}{h:Heap}{a:Addr}{o:HO}(x:gR P w H h a o):∃I,h.get? a=some I:=by
 cases o with
 |lst xs=>obtain⟨_,_,_,_,e⟩:=x;exact⟨_,e⟩
 |tup xs=>obtain⟨_,_,_,I,e,_⟩:=x;exact⟨I,e⟩
 |dK kvs=>obtain⟨_,_,_,_,I,_,_,e,_⟩:=x;exact⟨I,e⟩
 |dT kvs=>obtain⟨_,_,_,_,I,_,_,e,_⟩:=x;exact⟨I,e⟩
 |set S n=>obtain⟨I,_,_,_,e,_⟩:=x;exact⟨I,e⟩
 |ins C dx fs=>obtain⟨_,_,_,e,_⟩:=x;exact⟨_,e⟩
 |own y=>exact x
 |xd fs=>obtain⟨_,⟨I,_,_,e,_⟩,_⟩:=x;exact⟨I,e⟩
 |rng lo hi=>obtain⟨_,_,_,e⟩:=x;exact⟨_,e⟩
 |i6 I u=>obtain⟨e,_⟩:=x;exact⟨_,e⟩
 |gS ps=>exact⟨_,show h.get? a=some _ from x⟩
 |met f y=>exact⟨_,show h.get? a=some _ from x⟩
 |ext J=>obtain⟨_,⟨I,e⟩,_⟩:=x;exact⟨I,e⟩
section
variable {X:Cx}{pins:List (Addr × Obj)}{σ:St}{H:Hp}{s:Shared}
theorem Heap.Bx {h:Heap}{a:Addr}(e:h.objs.size<=a):h.get? a=none:=by
 cases q:h.get? a with
 |none=>rfl
 |some o=>exact absurd (Q0b (Q01 q) e) (Q0l _)
theorem Inv.n9 (I:Inv X pins σ H s)(hex:X.ex=[]){a:Addr}(e:s.heap.get? a=none):X.s₀.heap.get? a=none:=by
 cases q:X.s₀.heap.get? a with
 |none=>rfl
 |some o=>
  obtain⟨o',J⟩:=I.base.there a o q (by rw[hex];simp);rw[e] at J;cases J
theorem Inv.By (I:Inv X pins σ H s)(hex:X.ex=[]){a T:Addr}{h':Heap}(ha:X.s₀.heap.get? a=none)(hT:X.s₀.heap.get? T=none)(na:H a=none)(nT:H T=none)
 (k1:∀b o,b ∉ frs X.stack->b≠a->b≠T->s.heap.get? b=some o->h'.get? b=some o) (k2:∀b o,b≠a->b≠T->s.heap.get? b=some o->∃sl,h'.get? b=some { o with slots:=sl }):
 Un (frs X.outer) [] X.H₀ H X.s₀.heap h'/\gH X.prog X.w H h':=by
 have B:=I.base;rw[hex] at B
 have J:∀b o,X.s₀.heap.get? b=some o->b≠a/\b≠T/\b≠X.env.locals:=λb o e=>by
  have hb:=Q01 e;exact⟨(λz=>by rw[z,ha] at e;cases e),(λz=>by rw[z,hT] at e;cases e),λz=>Q0l _ (Q0b (z ▸ hb) I.ok.above)⟩
 refine⟨⟨λb o e n hf _=>?_,λb o e n hf _=>?_,λb o e n _=>B.free b o e n (by simp),λb o e _=>?_,B.tups,B.jr,B.js⟩,λb o e=>(I.hok b o e).stay (λc u hc r=>?_) (λ_ r=>r) λ_ _ r=>r⟩
 . obtain⟨U,Y,o3⟩:=J b o e;refine k1 b o (λz=>?_) U Y (B.keep b o e n hf (by simp));rcases List.mem_cons.mp (I.nM b z) with z|z
   . exact o3 z
   . exact hf z
 . obtain⟨U,Y,o3⟩:=J b o e;obtain⟨sl,e1⟩:=B.slot b o e n hf (by simp);obtain⟨aa,e2⟩:=k2 b _ U Y e1;exact⟨aa,e2⟩
 . obtain⟨U,Y,o3⟩:=J b o e;obtain⟨o',e1⟩:=B.there b o e (by simp);obtain⟨sl,e2⟩:=k2 b o' U Y e1;exact⟨_,e2⟩
 . have ab:∃v,H c=some v:=by
    rcases hc with z|z
    . exact⟨o,by rw[z];exact e⟩
    . exact⟨_,z⟩
   obtain⟨v,L⟩:=ab;refine k1 c u (λz=>?_) (λz=>?_) (λz=>?_) r
   . rw[I.oZ c z] at L;cases L
   . rw[z,na] at L;cases L
   . rw[z,nT] at L;cases L
end
section
variable {M:Model}{A:Around}{E:Value->Shared->Prop}{s:Shared}
end
section
variable {X:Cx}{pins:List (Addr × Obj)}{σ:St}{H:Hp}{s:Shared}
end
section
variable {X:Cx}{k:Nat}{f:Addr}{fd:FuncData}{ps:List Str}{sp:Sp}{ir:List V}{ds:List Value}{Ek:XK}{x:Str}{p pos:Pos}{e:Expr}{es:List Expr}{t:TA}{te:TE}
end
end L2
namespace L2
open Spec PyProof.Rows W
theorem He {M:Model}{A:Around}{E:Value->Shared->Prop}{K:Frag}{s:Shared}{a C D:Addr}{I:Obj}{b:Bool}{Q:Bool->Shared->Prop}(X:K.In s.heap)(h1:typeIn K (.ref D)=some (.type "type"))(h2:(clsIn K D).isSome=true)(U:subIn K (.ref D) (.type "BaseException")=some true)
 (Y:subIn K (.ref C) (.ref D)=some b) (he:s.heap.get? a=some I) (hc:I.cls=.ref C) (hq:Q b s):wpAny M A (excMatches (.ref a) (.ref D)) Q E s:=by
 obtain⟨h,g,d,t,os⟩:=s;have L1:=looks_typeIn (M:=M) X h1;have L2:Looks M h (isSubtype (.type "type") (.type "tuple")) false:=Looks.of_pure tc_notTuple;have L3:=looks_subIn (M:=M) X U;have L4:=looks_subIn (M:=M) X Y
 have L5:Looks M h (isType (.ref D)) true:=by
  unfold clsIn at h2;split at h2
  . rename_i c' d' aa ab ho;intro J Q' L s' k q;unfold isType loadHead;exact Q0 (wpAny_loadPart (k _ _ (X _ _ ho)) (Q0d q))
  . cases h2
 have L6:Looks M h (typeOf (.ref a)) (.ref C):=by
  have z:Looks M h (typeOf (.ref a)) I.cls:=(Looks.ld (show h.get? a=some I from he)).andThen .now;rw[hc] at z;exact z
 have L7:Looks M h (isInstance (.ref D) (.type "tuple")) false:=L1.andThen L2
 have L8:Looks M h (isExcClass (.ref D)) true:=λJ Q' L s' k q=>by
  unfold isExcClass;exact Q0 (L5 J _ L s' k (L3 J _ L s' k q))
 unfold excMatches;refine Q0 (L7.at ?_)
 repeat (any_goals (first|assumption|with_reducible refine L8.at ?_|with_reducible refine L6.at ?_|with_reducible refine L4.at ?_|wp_step))
 cases b <;> (repeat (any_goals (first|assumption|wp_step)))
end L2
namespace L2
open Spec PyProof.Rows
section
variable {X:Cx}{pins:List (Addr × Obj)}{σ:St}{H:Hp}{s:Shared}
theorem Inv.unbind {M:Model}{A:Around}{E:Value->Shared->Prop}{i:Nat}{x:Str}{pos:Pos}{Q:Unit->Shared->Prop}(I:Inv X pins σ H s)(hN:X.N.Nodup)(hi:X.N[i]? =some x)(hk:X.env.kindOf x=some .local)
 (h:∀s',Inv X pins (σ.set i none) H s'->Q () s'):wpAny M A (do bindName X.env x .none;unbindBehindTheSuite X.env x pos) Q E s:=by
 obtain⟨m,hn,hl⟩:=id I.loc;have aa:(X.env.scope.kind == .class || (X.env.scope.kind == .module && X.env.locals != X.env.globals))=false:=by rw[I.ok.kind];rfl
 have ab:i<σ.length:=by rw[I.len];exact(List.getElem?_eq_some_iff.mp hi).1
 have j_:=I.j_;refine wpAny_nameGoes_keeps hk hn aa λh' v ac L=>?_;obtain⟨oL,_,_,ae,_⟩:=id hn
 have J:gH X.prog X.w H h':=λb ob e=>by
  refine(I.hok b ob e).stay (λc w' hc q=>(L.2 c ?_).trans q) (λ_ q=>q) λ_ _ q=>q;rintro rfl;rcases hc with rfl|hc
  . rw[I.free] at e;cases e
  . rw[I.free] at hc;cases hc
 refine h _ ⟨I.ok,I.os,I.bare,⟨λb o e n hb Y=>?_,λb o e n hb Y=>?_,I.base.free,λb o e Y=>?_,I.base.tups,I.base.jr,I.base.js⟩,⟨_,ac,λj y v' U e2 e3=>?_⟩,λy c e=>?_,I.free,I.i7,λp hp=>?_,J,by simpa using I.len⟩
 . exact(L.2 b (Q0c (Q0b (Q01 e) I.ok.above))).trans (I.base.keep b o e n hb Y)
 . obtain⟨sl,U⟩:=I.base.slot b o e n hb Y;exact⟨sl,(L.2 b (Q0c (Q0b (Q01 e) I.ok.above))).trans U⟩
 . obtain⟨o',U⟩:=I.base.there b o e Y;exact⟨o',(L.2 b (Q0c (Q0b (Q01 e) I.ok.above))).trans U⟩
 . by_cases hj:j=i
   . subst hj;rw[Q29 ab] at e2
     cases e2
   . rw[Q2a (Ne.symm hj)] at e2;obtain⟨u',r',q⟩:=hl j y v' U e2 e3;refine⟨u',r',?_⟩;rcases q with⟨k,e⟩|⟨k,c,e,z⟩
     . refine .inl ⟨k,?_⟩;have:y≠x:=λe=>hj (tK hN U (e ▸ hi));simp[this,e]
     . exact .inr ⟨k,c,e,z.sameBut L (j_ y c e)⟩
 . obtain⟨w',z⟩:=I.cell y c e;exact⟨w',z.sameBut L (j_ y c e)⟩
 . obtain⟨e,n,ne,nf,d⟩:=I.pin p hp;exact⟨(L.2 p.1 ne).trans e,n,ne,nf,d⟩
noncomputable abbrev Cx.marked (X:Cx) (a:Addr):Cx:={ X with A:=X.A.mark (some (.ref a)),calm:=false,xe:=λ_ _=>False }
theorem Inv.marked (I:Inv X pins σ H s)(a:Addr):Inv (X.marked a) pins σ H s:=
 ⟨⟨I.ok.mod,I.ok.kind,I.ok.glob,I.ok.blt,I.ok.above,I.ok.inj,I.ok.has,I.ok.cab,(λz=>by cases z),I.ok.frames,I.ok.stk,I.ok.tH,I.ok.bs,I.ok.j9,I.ok.nK,I.ok.oY,I.ok.jF,I.ok.lM⟩,I.os,I.bare,I.base,I.loc,I.cell,I.free,I.i7,I.pin,I.hok,I.len⟩
theorem Inv.unmarked {a:Addr}(I:Inv (X.marked a) pins σ H s)(ok:X.Ok):Inv X pins σ H s:=⟨ok,I.os,I.bare,I.base,I.loc,I.cell,I.free,I.i7,I.pin,I.hok,I.len⟩
end
def Ends.un (D:Ends) (i:Nat):Ends:={ nx:=λσ H=>D.nx (σ.set i none) H,rt:=D.rt,bk:=λσ H=>D.bk (σ.set i none) H,ct:=λσ H=>D.ct (σ.set i none) H }
end L2
namespace L2
open Spec Calls PyProof.Rows W Builtin Builtin.ObjectAttr Builtin.Getset_descriptor
structure n_ (K:Frag) (C:Addr):Prop where
 ga:findIn K (.ref C) "__getattribute__"=some (some (.builtin "BaseException.__getattribute__"))
 gt:findIn K (.ref C) "__getattr__"=some none
 cl:findIn K (.ref C) "__class__"=some (some (.builtin "object.__class__"))
 ob:mroIn K C (.type "object")=some true
 bx:mroIn K C (.type "BaseException")=some true
 is:(clsIn K C).isSome=true
section
variable {prog:Program}{w:World}{A:Around}{E:Value->Shared->Prop}{K:Frag}{h:Heap}{g:Array GenState}{d:Drawn}{t:Nat}{os:OsState}{a C:Addr}{o:Obj}
theorem Hf {I:Value}{M:Model}{Q:Unit->Shared->Prop}(X:K.In h)(Z:n_ K C)(L:h.get? a=some o)(hc:o.cls=.ref C)(U:Q () ⟨h,g,d,t,os⟩):
 wpAny M A (checkBuiltinCall "BaseException.__getattribute__" ⟨[.ref a,I],[]⟩) Q E ⟨h,g,d,t,os⟩:=by
 have Y:builtinKind "BaseException.__getattribute__"=some .slot:=by decide +kernel
 have J:splitId "BaseException.__getattribute__"=some ("BaseException","__getattribute__"):=by decide +kernel
 have ha:=F.args_bexc_ga (.ref a) I;have L1:=looks_mroIn (M:=M) X Z.bx;simp only[checkBuiltinCall,Y,J];refine Q0 ?_
 . unfold isInstance
   repeat (first|(with_reducible refine wpAny_loadPart_at L ?_;rw[hc])|with_reducible refine L1.at ?_|wp_step)
   exact U
end
end L2
namespace L2
open Spec PyProof.Rows
section
variable {X:Cx}{es:List Expr}{n k:Nat}{t:St->Hp->Prop}{pos:Pos}
end
noncomputable def ia (x:Str):List Key:=[Sum.inr x]
theorem Bz (x y:Str):gM (ia x) (ia y)=decide (x.cps.toList<y.cps.toList):=by
 unfold ia;rw[nZ];by_cases e:(Sum.inr x:Key)=Sum.inr y
 . rw[if_pos e];have e:=Sum.inr.inj e;subst e;have h:¬x.cps.toList<x.cps.toList:=Q34 _;rw[decide_eq_false h];rfl
 . rw[if_neg e];rfl
theorem uJ {ss:List Str}{us:List Value}(r:Vals (ss.map V.str) us){i:Nat}(hi:i<us.length):∃x t,us.getD i Value.none=.str x t/\(ss.map ia).getD i []=ia x:=by
 have hl:=r.length;rw[Q03] at hl;have h1:(ss.map V.str)[i]? =some (V.str (ss[i]'(by omega))):=by rw[Q0j,Q02 (by omega)];rfl
 obtain⟨u,I,t,J⟩:=r.get h1;subst J;refine⟨ss[i]'(by omega),t,by rw[Q06,I];rfl,?_⟩;rw[Q06,Q0j,Q02 (by omega)];rfl
theorem Hg {prog:Program}{w:World}{s:Shared}{A:Around}{ss:List Str}{us:List Value}(r:Vals (ss.map V.str) us):Asks prog w A s us (O:=n6) (λi=>(ss.map ia).getD i []):=by
 intro h2;refine W.kas_kind (T:=.type "str") h2 (λv J=>?_) rfl rfl ⟨rfl,λi j C hi L q=>?_⟩
 . obtain⟨i,hi,e⟩:=Q1b J;obtain⟨x,t,I,_⟩:=uJ r hi;rw[Q06,Q02 hi] at I;have I:us[i]=.str x t:=I;rw[<-e,I];exact W.Looks.of_pure rfl
 . unfold W.kas_ask;obtain⟨x,t,I,U⟩:=uJ r hi;obtain⟨y,u,Y,e4⟩:=uJ r L;rw[I,Y];refine W.kas_lt_str ?_;have q:C (gM ((ss.map ia).getD i []) ((ss.map ia).getD j [])) s:=q;rw[U,e4,Bz] at q;exact q
def q9 (K:PySem.W.Frag) (P:Addr) (J:Pos) (qual:Str) (te:TE) (σ:St) (Q:VK):VK:=λx H1=>∃a xs,x=.ref a/\d_ K H1 a xs/\xs.length<64/\fi P J qual H1/\
 ∀c' H2,lC P J qual c' H2->(∀b o,b≠P->H1 b=some o->H2 b=some o)->
 ∃W:List V->Hp->Prop,W [] H2/\(∀ks I,W ks I->lC P J qual c' I)/\(∀ks I y,W ks I->xs[ks.length]? =some y->te (some y::σ) I λk L=>W (ks++[k]) L)/\
 ∀ks I,W ks I->ks.length=xs.length->∃ss:List Str,ks=ss.map V.str/\∀p:List Nat,p.Perm (List.range xs.length)->(p.map λi=>(ss.map ia).getD i []).Pairwise ku->∀D,I D=none->Q (.ref D) (upd I D (.lst (p.map λi=>xs.getD i .non)))
def Hh (K:W.Frag) (P:Addr) (I:Pos) (qual:Str) (tl te:TE):TE:=λσ H Q=>tl σ H (q9 K P I qual te σ Q)
section
variable {X:Cx}
theorem BA {x:Str}{N':List Str}{l body:Expr}{L:Arguments}{scope:Scope}{lp kp p pos:Pos}{qual:Str}{c P:Addr}{tl te:TE}{k:Nat}(hg:Gl X "sorted")(hm:X.mg "sorted"=none)(hv:bootBuiltins "sorted"=some (.builtin "sorted"))(hr:gy k X.A)(hq:X.env.qual++"<lambda>"=qual)(Y:X.env.code=.ref c)(C:PySem.W.CodeHd X.base c P)
 (B:BM X.mg X.base) (S:kW X x N' scope) (ab:defaultsOf L X.env=([],[])) (hb:∀(cl:List (Str × Addr)) (pm:Value) (c':Addr) (U u:Value),bindArgs (PySem.W.kla_fn "<lambda>" qual L body scope cl pm (.ref c') U) ⟨[u],[]⟩=pure [(x,u)])
 (hl:PE X l tl) (he:∀(cl:List (Str × Addr)) (f c':Addr) (s:Shared) (H:Hp),PE (pL X x N' scope cl qual f c' s H) body te) (hs:starEach [l] X.env=[(false,eval l X.env)]:=by rfl):
 PE X (.Call (.Name "sorted" p) [l] [⟨some "key",.Lambda L body scope lp,kp⟩] pos) (Hh X.K P lp qual tl te):=by
 intro pins s σ H Q I h;refine wpAny_Call_Name_kw (k_ I hg hm hv ?_);have ha:PA X [l] (g9 tl iS):=a_ hl c_ (by rw[hs];rfl);refine callWith_kw (fk (ha pos pins s σ H (λvs H1=>match vs with|[x]=>q9 X.K P lp qual te σ Q x H1|_=>False) I h) λus s1 zq=>?_) (by rw[hs];rfl) (by rw[hs];rfl);obtain⟨vs,H1,I1,r1,q1⟩:=zq
 obtain⟨x',rfl⟩:∃x',vs=[x']:=by
  match vs,q1 with
  |[x'],_=>exact⟨x',rfl⟩
 have q1:q9 X.K P lp qual te σ Q x' H1:=q1;obtain⟨a,xs,rfl,ag,ah,T,cont⟩:=q1;obtain⟨u,rfl,ru⟩:=vals1 r1
 cases ru;show wpAny _ _ (evalAll [do let v <-eval (.Lambda L body scope lp) X.env;standAt pos;pure v]) _ _ s1;obtain⟨cl,aa,ac,ae⟩:=qS (scope:=scope) (env:=X.env) λy hy hf=>I1.ok.has y.1 (S.free y hy hf);refine wpAny_evalAll_cons (Q0 (PySem.W.kla_eval ab ?_));rw[hq];refine Bg I1 Y C B T aa λf c' pm U H2 s2 I2 ai mono=>?_;refine Q0 (wpAny_standAt (Q0d (wpAny_evalAll_nil ?_)));show wpAny _ _ (call (.builtin "sorted") [.ref a] [(Str.ofString "key",.ref f)]) _ _ s2;obtain⟨W,w0,wL,wt,wf⟩:=cont c' H2 ai mono
 have aj:∃ps,H1 P=some (.gS ps):=by
  rcases T with e|⟨al,e,_⟩
  . exact⟨_,e⟩
  . exact⟨_,e⟩
 have ak:d_ X.K H2 a xs:=by
  obtain⟨ps,hP⟩:=aj;rcases ag with(z|⟨o,z⟩)|z
  . exact .inl (.inl (mono a _ (gN z hP (by intro z;cases z)) z))
  . exact .inl (.inr ⟨o,mono a _ (gN z hP (by intro z;cases z)) z⟩)
  . exact .inr z
 refine fk (Bp (Q:=Q) (W:=W) I2 ak ah w0 (λpl s' H' ks y u J wk hy ry=>?_) λpl s' H' ks us J wk af rk=>?_) λr s' ⟨v,H',J,rv,q⟩=>⟨v,H',J.lh,rv,q⟩
 . exact Bk J S hr.hd hr.depth ac ae (Q0s _ (Q08 _ Q04)) (wL ks H' wk).2 (hb cl pm c' U) ry (he cl f c') (wt ks H' y wk hy)
 . obtain⟨ss,k1,k3⟩:=wf ks H' wk af;subst k1;exact⟨n6,_,Hg rk,λp p1 p2 D hD=>k3 p p1 p2 D hD⟩
end
variable {P:Program}{w:World}{K:W.Frag}{mg:Str->Option Value}{base:Heap}
section
variable {X:Cx}
def q_ (K:W.Frag) (n:Nat):R2:=λx y H Q=>(x=.non/\(∃b ys,y=.ref b/\eX K H b ys)/\Q (.bl false) H)\/Bu K n x y H Q
theorem uK {n:Nat}(U:X.A.units+1+n<cLine):g8 X (compareOp .Eq) (q_ X.K n):=by
 intro pins s σ H x y v u Q I J L h;rcases h with⟨rfl,⟨b,ys,rfl,Y⟩,q⟩|h
 . cases J
   cases L;obtain⟨aa,r1,p1,_⟩:=I.tuple Y;exact SeqAt.RcAt.none_tuple p1 (by omega) _ _ _ _ ⟨.bl false,H,I,rfl,q⟩
 . exact Hb U pins s σ H x y v u Q I J L h
end
theorem ko.ra {x qual:Str}{st:Stmt}{f c:Addr}{fd:FuncData}{N ps:List Str}{k:Nat}{sp:Sp}(F:ko K x qual st f fd)(hc:fd.code=.ref c)(S:f_ N ps (fo st))(len:∀vs H Q E,sp vs H Q E->vs.length=ps.length)
 (I:∀(A:Around) (outer:List Env) (s:Shared) (H:Hp) (vs:List V) (Q:VK) (E:XK),gy k (A.deeper (envOfC qual (fo st) s.heap.objs.size f (.ref c)))->sp vs H Q E->
   ∃t,iN (fW e_ P w K mg base N qual (fo st) f (.ref c) A outer s H E).fX (h8 st) t/\t { nx:=λ_ H'=>Q .non H',rt:=Q } (start N vs) H):eZ P w K mg base e_ (k+1) f fd ps sp:=by
 obtain⟨oc,od,kV,aa,pm,an,J,ct,ab,rfl,Y,L⟩:=F.ex;have hc:J=.ref c:=hc;subst hc;refine t_ Y L S len λA outer s H vs Q E hr U=>?_;obtain⟨t,h,q⟩:=I A outer s H vs Q E hr U;exact⟨t,h.fX,q⟩
def rb (I:List Addr) (H:Hp):Prop:=∀b,H b=none\/(∃o xs,H b=some (.i6 o (.lst xs)))\/(b∈I/\H b=some (.gS #[]))
theorem Hi {P:Program}{w:World}{K:W.Frag}{mg mb:Str->Option Value}{CX:jf}{k:Nat}{fa a:Addr}{fd:FuncData}{x:Str}{sp:Sp}{I:Shared}{vs:List Value}{ns:List Int}{J:List (Addr × Addr)}
 (KX:K.In I.heap) (hT:W.TabsAt J I.heap) (aq:W.noTabs K=true) (ar:BM mg I.heap) (ai:I.heap.Ns mainGlobals mg) (L:I.heap.Ns builtinsNs mb) (au:∀x:Str,x≠"__name__"->mb x=bootBuiltins x) (an:I.heap.NoLimit) (hg:I.gens=#[])
 (ha:I.heap.get? a=some { cls:=.type "list",data:=.seq vs.toArray }) (hi:IntsAre vs ns) (hl:ns.length<=sizeLine) (hr:gy k callerA)
 (F:∀base:Heap,K.In base->base.Ns mainGlobals mg->BM mg base->eZ P w K mg base CX k fa fd [x] sp) (ah:∀(s:Shared) (u:Value),BindsTo s fd ⟨[u],[]⟩ [(x,u)])
 (av:∀H:Hp,rb (J.map (·.2)) H->(∀q∈J,H q.2=some (.gS #[]))->d_ K H a (ns.map V.int)->sp [.ref a] H (λv _=>v=.bl true) λ_ _ _=>False)
 (aw:∀H e s',CX [] H I (λ_ _ _=>False) e s'->False):
 codeAny (model P w) callerA (.call (.ref fa) ⟨[.ref a],[]⟩) (λr s'=>r=.ok (.ret (.bool true))/\OldK I.heap s'.heap/\s'.os=I.os/\AllBare s'.gens) I:=by
 have rv:=AU hi;have ao:=hi.length
 have Y:∀b,b∈J.map (·.2)->I.heap.get? b=some (W.tabObj #[]):=λb hm=>by
  obtain⟨q,hq,rfl⟩:=List.mem_map.mp hm;exact(hT q hq).2
 have aj:a ∉ J.map (·.2):=λhm=>by
  have:=Y a hm;rw[ha] at this;cases this
 have af:∀H:Hp,rb (J.map (·.2)) H->(∀q∈J,H q.2=some (.gS #[]))->d_ K H a (ns.map V.int)->gH P w H I.heap->(∀b,H b≠none->b=a\/b∈J.map (·.2))->(H a≠none->K.lookup a=none)->
  codeAny (model P w) callerA (.call (.ref fa) ⟨[.ref a],[]⟩) (λr s'=>r=.ok (.ret (.bool true))/\OldK I.heap s'.heap/\s'.os=I.os/\AllBare s'.gens) I:=by
  intro H hO ak hS al hA hK;have U:∀{b:Addr} {o:Obj},I.heap.get? b=some o->H b=none->(kH I.heap H).get? b=some o:=λe n=>EW e n
  have ab:∀{b:Addr} {o:Obj},I.heap.get? b=some o->(∀us n,o.data≠ .seq us n)->(∀us,o.data≠ .fields us)->H b=none:=λ{b o} e d1 d2=>by
   cases q:H b with
   |none=>rfl
   |some u=>
    rcases hA b (by rw[q];simp) with e'|e'
    . subst e';rw[ha] at e;cases e;exact absurd rfl (d1 _ _)
    . rw[Y b e'] at e;cases e;exact absurd rfl (d2 _)
  have ae:∀{b:Addr} {m:Str->Option Value},I.heap.Ns b m->(kH I.heap H).Ns b m:=λ{b m} ⟨o,es,ep,e,d,r⟩=>⟨o,es,ep,U e (ab e (by rw[d];intro us n z;cases z) (by rw[d];intro us z;cases z)),d,r⟩
  have am:K.In (kH I.heap H):=λb o e=>U (KX b o e) (by
   cases q:H b with
   |none=>rfl
   |some u=>
    rcases hA b (by rw[q];simp) with e'|e'
    . subst e';rw[hK (by rw[q];simp)] at e;cases e
    . have e2:=KX b o e;rw[Y b e'] at e2;cases e2;have:=List.all_eq_true.mp aq _ (W.mem_of_lookupK e);simp at this)
  have hM:Mod K mg (kH I.heap H):=⟨am,ae ai,⟨mb,ae L,au⟩,let⟨mc,h1,h2⟩:=an;⟨mc,ae h1,h2⟩⟩
  have ax:BM mg (kH I.heap H):=by
   obtain⟨bm,o,b1,b2,b3,b4,b5,b6,b7⟩:=ar;exact⟨bm,o,b1,b2,b3,U b4 (ab b4 (by rw[b7];intro us n z;cases z) (by rw[b7];intro us z;cases z)),b5,b6,b7⟩
  have e0:mL P w K mg (kH I.heap H) callerA [] I H:=⟨rfl,hM,λb o e=>EX e,Q1r (EV _ _),trivial,λb L=>absurd (show b∈([]:List Addr) from L) (by simp),al,.of_eq hg⟩;refine codeAny_mono ((F _ am (ae ai) ax).run callerA [] I H ⟨[.ref a],[]⟩ [.ref a] [.ref a] _ _ hr e0 (ah I (.ref a)) (.cons rfl .nil) (av H hO ak hS)) λr s' h=>?_
  cases r with
  |error e=>exact(aw H e s' h).elim
  |ok fl=>
   cases fl with
   |next=>exact False.elim h
   |brk=>exact False.elim h
   |cont=>exact False.elim h
   |ret u=>
    obtain⟨v,H',os,ap,un,ag,r',q⟩:=h;have q':v=.bl true:=q;subst q';obtain rfl:u=Value.bool true:=r'
    have ac:∀b,b∈J.map (·.2)->∃ps,s'.heap.get? b=some (W.tabObj ps):=λb hm=>by
     obtain⟨q,hq,rfl⟩:=List.mem_map.mp hm;obtain⟨ay,e⟩:=un.js _ _ (ak q hq);exact⟨_,ag _ _ e⟩
    have keep:∀b o,b ∉ J.map (·.2)->I.heap.get? b=some o->s'.heap.get? b=some o:=λb o L e=>by
     cases q:H b with
     |none=>exact un.keep b o e q (by intro z;exact absurd (show b∈([]:List Addr) from z) (by simp)) (by simp)
     |some u=>
      rcases hO b with z|⟨ob,xs,z⟩|⟨z,_⟩
      . rw[q] at z;cases z
      . have z2:=un.jr b ob _ z;obtain⟨e1,_⟩:=al b _ z;obtain⟨e2,_⟩:=ag b _ z2;rw[e] at e1;cases e1;exact e2
      . exact absurd z L
    refine⟨rfl,⟨λb o e=>?_,λb o e=>?_⟩,os,ap⟩
    . by_cases L:b∈J.map (·.2)
      . obtain⟨ps,hP⟩:=ac b L;have e2:=Y b L;rw[e] at e2;cases e2;obtain⟨q,hq,rfl⟩:=List.mem_map.mp L;exact .inr (.inl ⟨((hT q hq).1.tab (hT q hq).2).isCodeTable,rfl,#[],ps,rfl,by rw[Q2s];exact hP⟩)
      . exact .inl (keep b o L e)
    . by_cases L:b∈J.map (·.2)
      . obtain⟨ps,hP⟩:=ac b L;exact⟨_,hP⟩
      . exact⟨o,keep b o L e⟩
 cases hk:K.lookup a with
 |some o=>
  have e:=KX a o hk;rw[ha] at e
  cases e;refine af (λb=>if b∈J.map (·.2) then some (.gS #[]) else none) (λb=>?_) (λq hq=>if_pos (Q1c hq)) (.inr ⟨_,vs.toArray,_,hk,rfl,rfl,rfl,by rw[Q05,ao];exact hl,by simpa using rv⟩) (λb u z=>?_) (λb z=>?_) λz=>absurd (if_neg aj) z
  . by_cases L:b∈J.map (·.2)
    . exact .inr (.inr ⟨L,if_pos L⟩)
    . exact .inl (if_neg L)
  . by_cases L:b∈J.map (·.2)
    . have z':=(if_pos L).symm.trans z
      cases z';exact Y b L
    . have z':=(if_neg L).symm.trans z
      cases z'
  . by_cases L:b∈J.map (·.2)
    . exact .inr L
    . exact absurd (if_neg L) z
 |none=>
  refine af (λb=>if b∈J.map (·.2) then some (.gS #[]) else if b=a then some (.i6 { cls:=.type "list",data:=.seq vs.toArray } (.lst (ns.map V.int))) else none) (λb=>?_) (λq hq=>if_pos (Q1c hq))
   (.inl (.inr ⟨{ cls:=.type "list",data:=.seq vs.toArray },(if_neg aj).trans (if_pos rfl)⟩)) (λb u z=>?_) (λb z=>?_) λ_=>hk
  . by_cases L:b∈J.map (·.2)
    . exact .inr (.inr ⟨L,if_pos L⟩)
    . by_cases aa:b=a
      . exact .inr (.inl ⟨_,_,(if_neg L).trans (if_pos aa)⟩)
      . exact .inl ((if_neg L).trans (if_neg aa))
  . by_cases L:b∈J.map (·.2)
    . have z':=(if_pos L).symm.trans z
      cases z';exact Y b L
    . have z:=(if_neg L).symm.trans z;by_cases aa:b=a
      . have z':=(if_pos aa).symm.trans z
        cases z';subst aa;exact⟨ha,by rw[Q03];exact hl,vs,_,rv,ha⟩
      . have z':=(if_neg aa).symm.trans z
        cases z'
  . by_cases L:b∈J.map (·.2)
    . exact .inr L
    . by_cases aa:b=a
      . exact .inl aa
      . exact absurd ((if_neg L).trans (if_neg aa)) z
theorem Hj {l:W.OpenLaw}{n k:Nat}{q:Program}{loose:List Str}{XP:(Str->Option Value)->Heap->Prop}{YP:World->Heap->Prop}{d:DefRec}{K:Params->W.Frag}{sp:World->List (Addr × Addr)->Sp}{x:Str}{names:List Str}
 (hn:l.most=some n) (ac:n<=sizeLine) (ae:d.params.defaults=[]) (hr:gy k callerA)
 (hY:∀(w:World) (h:Heap),YP w h->(K w.params).In h) (af:∀w:World,W.noTabs (K w.params)=true)
 (tb:∀w:World,∃I:List (Addr × Addr),(∀q'∈I,∃y∈names,W.tabIn (K w.params) y=some q')/\
   (∀(mg:Str->Option Value) (fa:Addr) (h:Heap),(K w.params).In h->h.Ns mainGlobals mg->mg d.name=some (.ref fa)->
   ∃fd:FuncData,(∀(s:Shared) (u:Value),BindsTo s fd ⟨[u],[]⟩ [(x,u)])/\
    ∀base:Heap,(K w.params).In base->base.Ns mainGlobals mg->BM mg base->eZ l.prog w (K w.params) mg base e_ k fa fd [x] (sp w I)))
 (aa:∀y∈names,∃d',(recsOf q).find? (λe=>e.name == y)=some d')
 (ag:∀(w:World) (I:List (Addr × Addr)) (H:Hp) (a:Addr) (ns:List Int),ns.length<=n->rb (I.map (·.2)) H->(∀q∈I,H q.2=some (.gS #[]))->d_ (K w.params) H a (ns.map V.int)->sp w I [.ref a] H (λv _=>v=.bl true) λ_ _ _=>False):
 W.WalkO q loose XP YP l.row.toRowW d [] (λf vs=>PySem.call f vs):=by
 refine AR.Gm hn ae λw s₀ J mg mb fa o pm cd al a vs ns G Y ho hd am ah ab U L hg=>?_;have KX:=hY w _ Y;obtain⟨I,ht,F⟩:=tb w;obtain⟨fd,hb,hF⟩:=F mg fa _ KX G.T.g ah
 have hT:W.TabsAt I J.heap:=λq' hq=>by
  obtain⟨y,hy,ai⟩:=ht q' hq;obtain⟨d',aj⟩:=aa y hy;exact W.tab_of G.T KX aj ai
 have ak:BM mg J.heap:=by
  obtain⟨bm,ob,b1,b2,b3,b4,b5,b6⟩:=G.T.bmain;refine⟨bm,ob,b1,b2,λz=>?_,b3,b4,b5,b6⟩;obtain⟨o',es,ep,e,hd,_⟩:=G.T.g;rw[z,e] at b3;cases b3;rw[hd] at b6;cases b6
 exact Hi KX hT (af w) ak G.T.g G.T.b G.T.builtins G.T.nolimit hg ab U (Q0h L ac) hr hF hb (λH hO hP hS=>ag w I H a ns L hO hP hS) λH e s' h=>h.elim
end L2
namespace Pb
open L2 PyProof.Rows
mutual
inductive Kd where
 |num
 |gp
 |fT (fs:Fs)
 |rows (key by_:Str) (fs:Fs)
 |tree (k:Kd)
 |gZ (fs:Fs)
inductive Fs where
 |nil
 |cons (x:Str) (k:Kd) (r:Fs)
end
mutual
inductive D where
 |int (z:Int)
 |str (x:Str)
 |non
 |boo (b:Bool)
 |tup (xs:Ds)
 |lst (xs:Ds)
 |dct (m:Ds)
inductive Ds where
 |nil
 |cons (x:Str) (d:D) (r:Ds)
end
mutual
noncomputable def Kd.dep:Kd->Nat
 | .num=>1
 | .gp=>1
 | .fT fs=>fs.dep+1
 | .rows _ _ fs=>fs.dep+1
 | .tree k=>k.dep+1
 | .gZ fs=>fs.dep+1
noncomputable def Fs.dep:Fs->Nat
 | .nil=>0
 | .cons _ k r=>max k.dep r.dep
end
mutual
noncomputable def D.dep:D->Nat
 | .int _=>1
 | .str _=>1
 | .non=>1
 | .boo _=>1
 | .tup xs=>xs.dep+1
 | .lst xs=>xs.dep+1
 | .dct m=>m.dep+1
noncomputable def Ds.dep:Ds->Nat
 | .nil=>0
 | .cons _ d r=>max d.dep r.dep
end
theorem Kd.lW (k:Kd):1<=k.dep:=by cases k <;> simp[Kd.dep]
theorem D.lW (d:D):1<=d.dep:=by cases d <;> simp[D.dep]
noncomputable def Fs.names:Fs->List Str
 | .nil=>[]
 | .cons x _ r=>x::r.names
noncomputable def Fs.get:Fs->Str->Option Kd
 | .nil,_=>none
 | .cons y k r,x=>if x=y then some k else r.get x
noncomputable def Fs.at:Fs->Nat->Option (Str × Kd)
 | .nil,_=>none
 | .cons x k _,0=>some (x,k)
 | .cons _ _ r,i+1=>r.at i
noncomputable def Fs.snoc:Fs->Str->Kd->Fs
 | .nil,x,k=>.cons x k .nil
 | .cons y q r,x,k=>.cons y q (r.snoc x k)
noncomputable def Fs.take:Fs->Nat->Fs
 | .nil,_=>.nil
 | .cons _ _ _,0=>.nil
 | .cons x k r,i+1=>.cons x k (r.take i)
theorem Fs.uL:∀(fs:Fs) (x:Str) (k:Kd),(fs.snoc x k).names=fs.names++[x]
 | .nil,_,_=>rfl
 | .cons y q r,x,k=>by
   show y::(r.snoc x k).names=_;rw[Fs.uL r x k];rfl
theorem Fs.uM:∀(fs:Fs) (x:Str) (k:Kd),(fs.snoc x k).dep=max fs.dep k.dep
 | .nil,_,k=>by simp[Fs.snoc,Fs.dep]
 | .cons y q r,x,k=>by
   show max q.dep (r.snoc x k).dep=max (max q.dep r.dep) k.dep;rw[Fs.uM r x k,Nat.max_assoc]
theorem Fs.kx:∀(fs:Fs) (i:Nat),fs.names[i]? =(fs.at i).map (·.1)
 | .nil,i=>by simp[Fs.names,Fs.at]
 | .cons x k r,0=>by simp[Fs.names,Fs.at]
 | .cons x k r,i+1=>by
   show(x::r.names)[i+1]? =_;rw[List.getElem?_cons_succ,Fs.kx r i];rfl
theorem Fs.BC:∀{fs:Fs}{i:Nat},i<fs.names.length->∃x k,fs.at i=some (x,k)
 | .nil,i,h=>by simp[Fs.names] at h
 | .cons x k r,0,h=>⟨x,k,rfl⟩
 | .cons x k r,i+1,h=>Fs.BC (fs:=r) (i:=i) (by simpa[Fs.names] using h)
theorem Fs.mW:∀{fs:Fs}{i:Nat}{x:Str}{k:Kd},fs.at i=some (x,k)->k.dep<=fs.dep
 | .nil,_,_,_,h=>by cases h
 | .cons x k r,0,_,_,h=>by
   cases h;exact Q2 _ _
 | .cons x k r,i+1,_,_,h=>Q0h (Fs.mW (fs:=r) (i:=i) h) (Q20 _ _)
theorem Fs.lE:∀{fs:Fs}{i:Nat}{x:Str}{k:Kd},fs.names.Nodup->fs.at i=some (x,k)->fs.get x=some k
 | .nil,_,_,_,_,h=>by cases h
 | .cons y q r,0,x,k,_,h=>by
   cases h;simp[Fs.get]
 | .cons y q r,i+1,x,k,I,h=>by
   have I:(y::r.names).Nodup:=I;obtain⟨J,L⟩:=List.nodup_cons.mp I;have h:r.at i=some (x,k):=h;have U:x∈r.names:=Q0r (i:=i) (by rw[Fs.kx,h];rfl);show(if x=y then some q else r.get x)=some k;rw[if_neg (λe=>J (by rw[<-e];exact U))];exact Fs.lE L h
theorem Fs.take_succ:∀{fs:Fs}{i:Nat}{x:Str}{k:Kd},fs.at i=some (x,k)->fs.take (i+1)=(fs.take i).snoc x k
 | .nil,_,_,_,h=>by cases h
 | .cons y q r,0,x,k,h=>by
   cases h
   cases r <;> rfl
 | .cons y q r,i+1,x,k,h=>by
   show Fs.cons y q (r.take (i+1))=Fs.cons y q ((r.take i).snoc x k);rw[Fs.take_succ (fs:=r) (i:=i) h]
theorem Fs.take_zero (fs:Fs):fs.take 0=.nil:=by cases fs <;> rfl
theorem Fs.take_all:∀(fs:Fs),fs.take fs.names.length=fs
 | .nil=>rfl
 | .cons x k r=>by
   show Fs.cons x k (r.take r.names.length)=_;rw[Fs.take_all r]
def lX:Kd->Prop
 | .num=>True
 | .gp=>True
 |_=>False
def Fs.pl (fs:Fs) (x:Str):Prop:=∃k,fs.get x=some k/\lX k
mutual
def Kd.W:Kd->Prop
 | .num=>True
 | .gp=>True
 | .fT fs=>fs.names.Nodup/\fs.names.length<=12/\fs.W
 | .rows key by_ fs=>fs.names.Nodup/\fs.names.length<=12/\fs.W/\fs.pl key/\(by_=""\/fs.pl by_)
 | .tree k=>k.W
 | .gZ fs=>fs.names.Nodup/\fs.names.length<=12/\1<=fs.names.length/\fs.W
def Fs.W:Fs->Prop
 | .nil=>True
 | .cons x k r=>k.W/\x≠""/\r.W
end
theorem Fs.mY:∀{fs:Fs}{i:Nat}{x:Str}{k:Kd},fs.W->fs.at i=some (x,k)->k.W
 | .nil,_,_,_,_,h=>by cases h
 | .cons x k r,0,_,_,w,h=>by
   unfold Fs.W at w
   cases h;exact w.1
 | .cons x k r,i+1,_,_,w,h=>by
   unfold Fs.W at w;exact Fs.mY (fs:=r) (i:=i) w.2.2 h
theorem Fs.uN {x:Str}{k:Kd}(I:k.W)(J:x≠""):∀{fs:Fs},fs.W->(fs.snoc x k).W
 | .nil,_=>by
   show(Fs.cons x k .nil).W;unfold Fs.W;exact⟨I,J,by unfold Fs.W;trivial⟩
 | .cons y q r,h=>by
   unfold Fs.W at h;show(Fs.cons y q (r.snoc x k)).W;unfold Fs.W;exact⟨h.1,h.2.1,Fs.uN I J h.2.2⟩
noncomputable def Ds.get:Ds->Str->Option D
 | .nil,_=>none
 | .cons y d r,x=>if x=y then some d else r.get x
noncomputable def keyOf (m:Ds) (x:Str):Key:=match m.get x with
 |some (.int z)=>.inl z
 |some (.str s)=>.inr s
 |_=>.inl 0
noncomputable def rankOf (key by_:Str) (m:Ds):List Key:=if by_="" then [keyOf m key] else [keyOf m by_,keyOf m key]
theorem Hk {key by_:Str}{a b:Ds}(h:rankOf key by_ a=rankOf key by_ b):keyOf a key=keyOf b key:=by
 unfold rankOf at h;split at h
 . exact(List.cons.inj h).1
 . exact(List.cons.inj (List.cons.inj h).2).1
def ji (key by_:Str) (a b:Ds):Prop:=gM (rankOf key by_ a) (rankOf key by_ b)=true
def mZ (key by_:Str) (a b:Ds):Prop:=ku (rankOf key by_ a) (rankOf key by_ b)
noncomputable def ins (key by_:Str) (m:Ds):List Ds->List Ds
 |[]=>[m]
 |y::q=>if gM (rankOf key by_ y) (rankOf key by_ m)=true then y::ins key by_ m q else m::y::q
noncomputable def iC (key by_:Str):List Ds->List Ds
 |[]=>[]
 |m::r=>ins key by_ m (iC key by_ r)
theorem uO (key by_:Str)(m:Ds):∀l:List Ds,(ins key by_ m l).Perm (m::l)
 |[]=>List.Perm.refl _
 |y::q=>by
  unfold ins;split
  . exact((uO key by_ m q).cons y).trans (List.Perm.swap m y q)
  . exact List.Perm.refl _
theorem kX (key by_:Str):∀l:List Ds,(iC key by_ l).Perm l
 |[]=>List.Perm.refl _
 |m::r=>(uO key by_ m _).trans ((kX key by_ r).cons m)
theorem Hl {a b:List Key}(h:gM a b=true):ku a b:=KeyOrd.kle_of_klt (O:=n6) h
theorem Hm {a b c:List Key}(h1:ku a b)(h2:ku b c):ku a c:=KeyOrd.kle_trans (O:=n6) h1 h2
theorem BD (key by_:Str)(m:Ds):∀{l:List Ds},l.Pairwise (mZ key by_)->(ins key by_ m l).Pairwise (mZ key by_)
 |[],_=>Q1z _ _
 |y::q,h=>by
  obtain⟨h1,h2⟩:=List.pairwise_cons.mp h;unfold ins;by_cases c:gM (rankOf key by_ y) (rankOf key by_ m)=true
  . rw[if_pos c];refine List.pairwise_cons.mpr ⟨λz I=>?_,BD key by_ m h2⟩;rcases List.mem_cons.mp ((uO key by_ m q).mem_iff.mp I) with e|e
    . rw[e];exact Hl c
    . exact h1 z e
  . rw[if_neg c];have c':mZ key by_ m y:=by unfold mZ ku;simpa using c
    refine List.pairwise_cons.mpr ⟨λz I=>?_,h⟩;rcases List.mem_cons.mp I with e|e
    . rw[e];exact c'
    . exact Hm c' (h1 z e)
theorem rd (key by_:Str):∀l:List Ds,(iC key by_ l).Pairwise (mZ key by_)
 |[]=>List.Pairwise.nil
 |m::r=>BD key by_ m (rd key by_ r)
theorem rf {key by_:Str}{l:List Ds}(h:l.Pairwise (mZ key by_))(J:(l.map λm=>keyOf m key).Nodup):l.Pairwise (ji key by_):=by
 have I:l.Pairwise λa b=>keyOf a key≠keyOf b key:=List.pairwise_map.mp J;refine(h.and I).imp λ{a b} ⟨h1,h2⟩=>?_;rcases pN (rankOf key by_ a) (rankOf key by_ b) with q|q|q
 . exact q
 . exact absurd (Hk q) h2
 . have h1:gM (rankOf key by_ b) (rankOf key by_ a)=false:=h1;rw[h1] at q;cases q
theorem BE {key by_:Str}:∀{J I:List Ds},J.Perm I->J.Pairwise (ji key by_)->I.Pairwise (ji key by_)->J=I
 |[],I,p,_,_=>by rw[p.nil_eq]
 |a::r,[],p,_,_=>absurd p.length_eq (by simp)
 |a::r,b::q,p,h1,h2=>by
  obtain⟨U,Y⟩:=List.pairwise_cons.mp h1;obtain⟨b1,b2⟩:=List.pairwise_cons.mp h2
  have e:a=b:=by
   have ha:a∈b::q:=p.mem_iff.mp Q04;have hb:b∈a::r:=p.mem_iff.mpr Q04;rcases List.mem_cons.mp ha with e|e
   . exact e
   . rcases List.mem_cons.mp hb with L|L
     . exact L.symm
     . have z:=mT _ _ _ (U b L) (b1 a e);rw[pM] at z;cases z
  subst e;rw[BE ((Q36 a).mp p) Y b2]
theorem BF {key by_:Str}{l z:List Ds}(p:z.Perm l)(h:z.Pairwise (mZ key by_))(I:(l.map λm=>keyOf m key).Nodup):z=iC key by_ l:=
 BE (p.trans (kX key by_ l).symm) (rf h ((p.map _).nodup_iff.mpr I)) (rf (rd key by_ l) (((kX key by_ l).map _).nodup_iff.mpr I))
noncomputable def gA:List Ds->Ds
 |[]=>.nil
 |m::r=>.cons "" (.dct m) (gA r)
noncomputable abbrev pairD (a b:D):D:=.tup (.cons "" a (.cons "" b .nil))
mutual
def Tree (P:D->Prop):D->Prop
 | .tup xs=>jK P xs
 |_=>False
def jK (P:D->Prop):Ds->Prop
 | .cons _ t (.cons _ (.lst as) .nil)=>P t/\iX P as
 |_=>False
def iX (P:D->Prop):Ds->Prop
 | .nil=>True
 | .cons _ d r=>Tree P d/\iX P r
end
mutual
def fC:Kd->D->Prop
 | .num,d=>∃z,d=.int z
 | .gp,d=>∃x,d=.str x
 | .fT fs,d=>∃m,d=.dct m/\gv fs m
 | .rows key by_ fs,d=>∃rs:List Ds,d=.lst (gA rs)/\(∀m∈rs,gv fs m)/\rs.Pairwise (ji key by_)/\(rs.map λm=>keyOf m key).Nodup
 | .tree k,d=>Tree (fC k) d
 | .gZ fs,d=>∃x v,d=pairD (.str x) v/\ky fs x v
def gv:Fs->Ds->Prop
 | .nil,m=>m=.nil
 | .cons x k r,m=>∃d q,m=.cons x d q/\fC k d/\gv r q
def ky:Fs->Str->D->Prop
 | .nil,_,_=>False
 | .cons y k r,x,v=>(x=y/\fC k v)\/(x≠y/\ky r x v)
end
theorem Tree.shape {P:D->Prop}:∀{d:D},Tree P d->∃x y t as,d=.tup (.cons x t (.cons y (.lst as) .nil))/\P t/\iX P as
 | .tup (.cons x t (.cons y (.lst as) .nil)),h=>by
   unfold Tree jK at h;exact⟨x,y,t,as,rfl,h.1,h.2⟩
 | .tup .nil,h=>by unfold Tree jK at h;exact h.elim
 | .tup (.cons _ _ .nil),h=>by unfold Tree jK at h;exact h.elim
 | .tup (.cons _ _ (.cons _ (.int _) _)),h=>by unfold Tree jK at h;exact h.elim
 | .tup (.cons _ _ (.cons _ (.str _) _)),h=>by unfold Tree jK at h;exact h.elim
 | .tup (.cons _ _ (.cons _ .non _)),h=>by unfold Tree jK at h;exact h.elim
 | .tup (.cons _ _ (.cons _ (.boo _) _)),h=>by unfold Tree jK at h;exact h.elim
 | .tup (.cons _ _ (.cons _ (.tup _) _)),h=>by unfold Tree jK at h;exact h.elim
 | .tup (.cons _ _ (.cons _ (.dct _) _)),h=>by unfold Tree jK at h;exact h.elim
 | .tup (.cons _ _ (.cons _ (.lst _) (.cons _ _ _))),h=>by unfold Tree jK at h;exact h.elim
 | .int _,h=>by unfold Tree at h;exact h.elim
 | .str _,h=>by unfold Tree at h;exact h.elim
 | .non,h=>by unfold Tree at h;exact h.elim
 | .boo _,h=>by unfold Tree at h;exact h.elim
 | .lst _,h=>by unfold Tree at h;exact h.elim
 | .dct _,h=>by unfold Tree at h;exact h.elim
theorem gv.get:∀{fs:Fs}{m:Ds}{x:Str}{k:Kd},gv fs m->fs.get x=some k->∃d,m.get x=some d/\fC k d
 | .nil,_,_,_,_,h=>by cases h
 | .cons y q r,m,x,k,f,h=>by
   unfold gv at f;obtain⟨d,t,rfl,f1,f2⟩:=f;have h:(if x=y then some q else r.get x)=some k:=h;by_cases e:x=y
   . rw[if_pos e] at h
     cases h;exact⟨d,by show(if x=y then some d else t.get x)=_;rw[if_pos e],f1⟩
   . rw[if_neg e] at h;obtain⟨d',I,J⟩:=gv.get f2 h;exact⟨d',by show(if x=y then some d else t.get x)=_;rw[if_neg e];exact I,J⟩
theorem gv.plain {fs:Fs}{m:Ds}{x:Str}(f:gv fs m)(h:fs.pl x):(m.get x=some (.int 0)\/True)/\((∃z,m.get x=some (.int z)/\keyOf m x=.inl z/\fs.get x=some .num)\/∃s,m.get x=some (.str s)/\keyOf m x=.inr s/\fs.get x=some .gp):=by
 refine⟨.inr trivial,?_⟩;obtain⟨k,h1,h2⟩:=h;obtain⟨d,I,J⟩:=f.get h1
 cases k with
 |num=>
  unfold fC at J;obtain⟨z,rfl⟩:=J;exact .inl ⟨z,I,by unfold keyOf;rw[I],h1⟩
 |gp=>
  unfold fC at J;obtain⟨s,rfl⟩:=J;exact .inr ⟨s,I,by unfold keyOf;rw[I],h1⟩
 |fT _=>exact h2.elim
 |rows _ _ _=>exact h2.elim
 |tree _=>exact h2.elim
 |gZ _=>exact h2.elim
theorem BG:∀{fs:Fs}{x:Str}{v:D},ky fs x v->x∈fs.names
 | .nil,_,_,h=>by unfold ky at h;exact h.elim
 | .cons y k r,x,v,h=>by
   unfold ky at h;rcases h with⟨e,_⟩|⟨_,h⟩
   . rw[e];exact Q04
   . exact Q0e _ (BG h)
noncomputable def kY:Option Kd->Bool
 |some .num=>true
 |_=>false
theorem gv.tag {fs:Fs}{m:Ds}{x:Str}(f:gv fs m)(h:fs.pl x):h7 (keyOf m x)=kY (fs.get x):=by
 rcases(f.plain h).2 with⟨z,_,e,g⟩|⟨s,_,e,g⟩ <;> rw[e,g] <;> rfl
theorem rg {fs:Fs}{key by_:Str}{m:Ds}(f:gv fs m)(h1:fs.pl key)(h2:by_=""\/fs.pl by_):(rankOf key by_ m).map h7=if by_="" then [kY (fs.get key)] else [kY (fs.get by_),kY (fs.get key)]:=by
 unfold rankOf;split
 . show [h7 (keyOf m key)]=_;rw[f.tag h1]
 . rename_i e;rcases h2 with z|z
   . exact absurd z e
   . show [h7 (keyOf m by_),h7 (keyOf m key)]=_;rw[f.tag h1,f.tag z]
noncomputable def cellAt (ns:List Int) (n:Int):Int:=if 0<ns.length then ns.getD (n % (ns.length:Int)).toNat 0 else 0
noncomputable def nx (ns:List Int) (n:Int):Int:=
 ((cellAt ns n % 2147483647+n * n * 7919+11) * 48271 % 2147483647) * ((cellAt ns n % 2147483647+n * n * 7919+11) * 48271 % 2147483647) % 1999999973
theorem rh (ns:List Int)(n:Int):0<=nx ns n:=Q0i _ (by decide)
theorem uP (ns:List Int)(n:Int):nx ns n<1999999973:=Q0k _ (by decide)
noncomputable def num (ns:List Int) (n:Int):Int:=
 if nx ns n % 3=0 then nx ns n / 3 % 7 - 3 else(cellAt ns n % 10 ^ 40+nx ns n * 10 ^ 29) % (2 * 10 ^ 40) - 10 ^ 40
noncomputable def jZ:Str:=" !#$&'()*+,-./0123456789:;<=>?@ABCDEFGHIJKLMNOPQRSTUVWXYZ"++"[\\]^_`abcdefghijklmnopqrstuvwxyz{|}~"
noncomputable def og (m:Int):Nat->Str
 |0=>""
 |k+1=>og m k++⟨#[(jZ.cps.toList.getD ((m / 145+(k:Int) * (k:Int) * (m / 7 % 3)) % 93).toNat 0)]⟩
noncomputable def gp (ns:List Int) (n:Int):Str:=og (nx ns n) (if nx ns n / 5 % 29=0 then 40 else(nx ns n % 5).toNat)
noncomputable def times (g:Int->D × Int):Nat->Int->Ds × Int
 |0,n=>(.nil,n)
 |m+1,n=>(.cons "" (g n).1 (times g m (g n).2).1,(times g m (g n).2).2)
noncomputable def g_ (ns:List Int) (f:Nat->Int->D × Int):Nat->Nat->Int->D × Int
 |0,_,n=>(.int 0,n)
 |fu+1,room,n=>
  (pairD (f (room / 2) n).1 (.lst (times (g_ ns f fu (room / 2)) (nx ns ((f (room / 2) n).2+1) % ((room:Int)+1)).toNat ((f (room / 2) n).2+1)).1),
    (times (g_ ns f fu (room / 2)) (nx ns ((f (room / 2) n).2+1) % ((room:Int)+1)).toNat ((f (room / 2) n).2+1)).2)
noncomputable def lY (key:Str) (l:List Ds) (k:Key):Bool:=l.any λr=>decide (keyOf r key=k)
noncomputable def gB (g:Int->Ds × Int) (key:Str):Nat->List Ds->Int->List Ds × Int
 |0,I,n=>(I,n)
 |m+1,I,n=>if lY key I (keyOf (g n).1 key)=true then gB g key m I (g n).2 else gB g key m (I++[(g n).1]) (g n).2
mutual
noncomputable def val (ns:List Int):Kd->Nat->Int->D × Int
 | .num,_,n=>(.int (num ns (n+1)),n+1)
 | .gp,_,n=>(.str (gp ns (n+1)),n+1)
 | .fT fs,room,n=>(.dct (fE ns fs room n).1,(fE ns fs room n).2)
 | .rows key by_ fs,room,n=>
   (.lst (gA (iC key by_ (gB (fE ns fs (room / 2)) key (nx ns (n+1) % ((room:Int)+1)).toNat [] (n+1)).1)),(gB (fE ns fs (room / 2)) key (nx ns (n+1) % ((room:Int)+1)).toNat [] (n+1)).2)
 | .tree k,room,n=>g_ ns (val ns k) 4 room n
 | .gZ fs,room,n=>iz ns fs (nx ns (n+1) % (fs.names.length:Int)).toNat room (n+1)
noncomputable def fE (ns:List Int):Fs->Nat->Int->Ds × Int
 | .nil,_,n=>(.nil,n)
 | .cons x k r,room,n=>(.cons x (val ns k room n).1 (fE ns r room (val ns k room n).2).1,(fE ns r room (val ns k room n).2).2)
noncomputable def iz (ns:List Int):Fs->Nat->Nat->Int->D × Int
 | .nil,_,_,n=>(.int 0,n)
 | .cons x k _,0,room,n=>(pairD (.str x) (val ns k room n).1,(val ns k room n).2)
 | .cons _ _ r,i+1,room,n=>iz ns r i room n
end
theorem rj {g:Int->Ds × Int}{key:Str}:∀(m:Nat) (I:List Ds) (n:Int),(I.map λr=>keyOf r key).Nodup->((gB g key m I n).1.map λr=>keyOf r key).Nodup
 |0,_,_,h=>h
 |m+1,I,n,h=>by
  unfold gB;split
  . exact rj m I _ h
  . rename_i c;refine rj m _ _ ?_;rw[Q0f];refine List.nodup_append.mpr ⟨h,by simp,λa J b L=>?_⟩;have:b=keyOf (g n).1 key:=by simpa using L
    rw[this];obtain⟨r,U,e⟩:=List.mem_map.mp J;exact λY=>c (List.any_eq_true.mpr ⟨r,U,decide_eq_true (e.trans Y)⟩)
theorem oh {g:Int->Ds × Int}{key:Str}{R:Ds->Prop}(J:∀n,R (g n).1):∀(m:Nat) (I:List Ds) (n:Int),(∀r∈I,R r)->∀r∈(gB g key m I n).1,R r
 |0,_,_,h=>h
 |m+1,I,n,h=>by
  unfold gB;split
  . exact oh J m I _ h
  . refine oh J m _ _ λr L=>?_;rcases List.mem_append.mp L with q|q
    . exact h r q
    . have:r=(g n).1:=by simpa using q
      rw[this];exact J n
theorem BH {P:D->Prop}{g:Int->D × Int}(I:∀n,Tree P (g n).1):∀(m:Nat) (n:Int),iX P (times g m n).1
 |0,_=>by unfold times iX;trivial
 |m+1,n=>by
  unfold times iX;exact⟨I n,BH I m _⟩
theorem BJ {ns:List Int}{P:D->Prop}{f:Nat->Int->D × Int}(I:∀room n,room<8->P (f room n).1):∀(fu room:Nat) (n:Int),room<8->room<2 ^ fu->Tree P (g_ ns f (fu+1) room n).1
 |0,room,n,_,h=>by
  have e:room=0:=by simpa using h
  subst e;unfold g_
  have J:(nx ns ((f (0 / 2) n).2+1) % (((0:Nat):Int)+1)).toNat=0:=by
   have:nx ns ((f (0 / 2) n).2+1) % (((0:Nat):Int)+1)=0:=by
    show _ % (1:Int)=0;exact Int.emod_one _
   rw[this];rfl
  rw[J];unfold Tree jK;exact⟨I _ _ (by decide),by unfold times iX;trivial⟩
 |fu+1,room,n,U,h=>by
  have L:=λm=>BJ (ns:=ns) I fu (room / 2) m (by omega) (by rw[Nat.pow_succ] at h;omega);unfold g_;unfold Tree jK;exact⟨I _ _ (by omega),BH L _ _⟩
mutual
theorem rm (ns:List Int):∀(k:Kd),k.W->∀(room:Nat) (n:Int),room<8->fC k (val ns k room n).1
 | .num,_,room,n,_=>by unfold val fC;exact⟨_,rfl⟩
 | .gp,_,room,n,_=>by unfold val fC;exact⟨_,rfl⟩
 | .fT fs,w,room,n,h=>by
   unfold Kd.W at w;unfold val fC;exact(Zr rfl (m4 ns fs w.2.2 room n h))
 | .rows key by_ fs,w,room,n,h=>by
   unfold Kd.W at w;unfold val fC;have I:=rj (g:=fE ns fs (room / 2)) (key:=key) (nx ns (n+1) % ((room:Int)+1)).toNat [] (n+1) Q0t;refine(Zr rfl ⟨λm J=>?_,?_,?_⟩)
   . exact oh (R:=gv fs) (λn=>m4 ns fs w.2.2.1 (room / 2) n (by omega)) _ _ _ (λr L=>absurd L (by simp)) m ((kX key by_ _).mem_iff.mp J)
   . exact rf (rd key by_ _) (((kX key by_ _).map _).nodup_iff.mpr I)
   . exact((kX key by_ _).map _).nodup_iff.mpr I
 | .tree k,w,room,n,h=>by
   unfold Kd.W at w;unfold val fC;exact BJ (λroom n h=>rm ns k w room n h) 3 room n h (by simpa using h)
 | .gZ fs,w,room,n,h=>by
   unfold Kd.W at w;unfold val fC
   have hl:(nx ns (n+1) % (fs.names.length:Int)).toNat<fs.names.length:=by
    have:=Q0k (nx ns (n+1)) (show(0:Int)<fs.names.length by omega);have:=Q0i (nx ns (n+1)) (show(fs.names.length:Int)≠0 by omega);omega
   exact BL ns fs w.2.2.2 w.1 _ room _ h hl
theorem m4 (ns:List Int):∀(fs:Fs),fs.W->∀(room:Nat) (n:Int),room<8->gv fs (fE ns fs room n).1
 | .nil,_,_,_,_=>by unfold fE gv;rfl
 | .cons x k r,w,room,n,h=>by
   unfold Fs.W at w;unfold fE gv;exact⟨_,Zr rfl ⟨rm ns k w.1 room n h,m4 ns r w.2.2 room _ h⟩⟩
theorem BL (ns:List Int):∀(fs:Fs),fs.W->fs.names.Nodup->∀(i room:Nat) (n:Int),room<8->i<fs.names.length->∃x v,(iz ns fs i room n).1=pairD (.str x) v/\ky fs x v
 | .nil,_,_,i,_,_,_,hi=>by simp[Fs.names] at hi
 | .cons x k r,w,I,0,room,n,h,hi=>by
   unfold Fs.W at w;unfold iz;exact⟨x,Zr rfl (by unfold ky;exact .inl ⟨rfl,rm ns k w.1 room n h⟩)⟩
 | .cons x k r,w,I,i+1,room,n,h,hi=>by
   unfold Fs.W at w;unfold iz;have I:(x::r.names).Nodup:=I;obtain⟨J,L⟩:=List.nodup_cons.mp I;obtain⟨y,v,e,f⟩:=BL ns r w.2.2 L i room n h (by simpa[Fs.names] using hi);refine⟨y,v,e,?_⟩;unfold ky;exact .inr ⟨λz=>J (by rw[<-z];exact BG f),f⟩
end
mutual
noncomputable def Kd.dB:Kd->Nat
 | .num=>1
 | .gp=>1
 | .fT fs=>fs.dB+1
 | .rows _ _ fs=>fs.dB+2
 | .tree k=>k.dB+10
 | .gZ fs=>fs.dB+2
noncomputable def Fs.dB:Fs->Nat
 | .nil=>0
 | .cons _ k r=>max k.dB r.dB
end
mutual
noncomputable def Kd.cB:Kd->Nat
 | .num=>1
 | .gp=>1
 | .fT fs=>fs.cB
 | .rows _ _ fs=>8 * fs.cB+1
 | .tree k=>(k.cB+1) * 585
 | .gZ fs=>fs.cB+1
noncomputable def Fs.cB:Fs->Nat
 | .nil=>0
 | .cons _ k r=>k.cB+r.cB
end
theorem rn:∀{l:List Ds}{n:Nat},(∀m∈l,m.dep<=n)->(gA l).dep<=n+1
 |[],n,_=>by simp[gA,Ds.dep]
 |m::r,n,h=>by
  have h1:=h m Q04;have h2:=rn (l:=r) (n:=n) λx I=>h x (Q0e _ I);simp only[gA,Ds.dep,D.dep];omega
theorem BN {g:Int->D × Int}{N:Nat}(I:∀n,(g n).1.dep<=N):∀(m:Nat) (n:Int),(times g m n).1.dep<=N
 |0,_=>by simp[times,Ds.dep]
 |m+1,n=>by
  have h1:=I n;have h2:=BN I m (g n).2;simp only[times,Ds.dep];omega
theorem BO {ns:List Int}{f:Nat->Int->D × Int}{N:Nat}(h1:1<=N)(I:∀room n,(f room n).1.dep<=N):∀(fu room:Nat) (n:Int),(g_ ns f fu room n).1.dep<=N+2 * fu
 |0,_,_=>by simp[g_,D.dep];omega
 |fu+1,room,n=>by
  have a:=I (room / 2) n;have b:=BN (g:=g_ ns f fu (room / 2)) (N:=N+2 * fu) (λn=>BO h1 I fu (room / 2) n) (nx ns ((f (room / 2) n).2+1) % ((room:Int)+1)).toNat ((f (room / 2) n).2+1);simp only[g_,D.dep,Ds.dep];omega
theorem Kd.Hn (k:Kd):1<=k.dB:=by cases k <;> simp[Kd.dB]
mutual
theorem uQ (ns:List Int):∀(k:Kd) (room:Nat) (n:Int),(val ns k room n).1.dep<=k.dB
 | .num,_,_=>by simp[val,D.dep,Kd.dB]
 | .gp,_,_=>by simp[val,D.dep,Kd.dB]
 | .fT fs,room,n=>by
   have:=rq ns fs room n;simp only[val,D.dep,Kd.dB];omega
 | .rows key by_ fs,room,n=>by
   have:=rn (l:=iC key by_ (gB (fE ns fs (room / 2)) key (nx ns (n+1) % ((room:Int)+1)).toNat [] (n+1)).1) (n:=fs.dB) λm I=>
    oh (R:=λm=>m.dep<=fs.dB) (λn=>rq ns fs (room / 2) n) _ _ _ (λr J=>absurd J (by simp)) m ((kX key by_ _).mem_iff.mp I)
   simp only[val,D.dep,Kd.dB];omega
 | .tree k,room,n=>by
   have:=BO (ns:=ns) (f:=val ns k) k.Hn (λroom n=>uQ ns k room n) 4 room n;simp only[val,Kd.dB];omega
 | .gZ fs,room,n=>by
   have:=BQ ns fs (nx ns (n+1) % (fs.names.length:Int)).toNat room (n+1);simp only[val,Kd.dB];omega
theorem rq (ns:List Int):∀(fs:Fs) (room:Nat) (n:Int),(fE ns fs room n).1.dep<=fs.dB
 | .nil,_,_=>by simp[fE,Ds.dep]
 | .cons x k r,room,n=>by
   have a:=uQ ns k room n;have b:=rq ns r room (val ns k room n).2;simp only[fE,Ds.dep,Fs.dB];omega
theorem BQ (ns:List Int):∀(fs:Fs) (i room:Nat) (n:Int),(iz ns fs i room n).1.dep<=fs.dB+2
 | .nil,_,_,_=>by simp[iz,D.dep]
 | .cons x k r,0,room,n=>by
   have a:=uQ ns k room n;simp only[iz,D.dep,Ds.dep,Fs.dB];omega
 | .cons x k r,i+1,room,n=>by
   have a:=BQ ns r i room n;simp only[iz,Fs.dB];omega
end
theorem mod_le {a:Int}{room:Nat}(h:room<8):(a % ((room:Int)+1)).toNat<=room:=by
 have:=Q0k a (show(0:Int)<(room:Int)+1 by omega);have:=Q0i a (show((room:Int)+1)≠0 by omega);omega
theorem uR {g:Int->D × Int}{N:Nat}(I:∀n,n<=(g n).2/\(g n).2<=n+N):∀(m:Nat) (n:Int),n<=(times g m n).2/\(times g m n).2<=n+(m * N:Nat)
 |0,n=>by simp[times]
 |m+1,n=>by
  obtain⟨J,L⟩:=I n;obtain⟨U,Y⟩:=uR I m (g n).2;have e:(m+1) * N=m * N+N:=Q1m m N;simp only[times];rw[e];omega
noncomputable def kZ:Nat->Nat
 |0=>0
 |n+1=>8 * kZ n+1
theorem oi {ns:List Int}{f:Nat->Int->D × Int}{N:Nat}(I:∀room n,room<8->n<=(f room n).2/\(f room n).2<=n+N):∀(fu room:Nat) (n:Int),room<8->n<=(g_ ns f fu room n).2/\(g_ ns f fu room n).2<=n+((N+1) * kZ fu:Nat)
 |0,_,n,_=>by simp[g_,kZ]
 |fu+1,room,n,h=>by
  obtain⟨J,L⟩:=I (room / 2) n (by omega);obtain⟨U,Y⟩:=uR (g:=g_ ns f fu (room / 2)) (N:=(N+1) * kZ fu) (λn=>oi I fu (room / 2) n (by omega)) (nx ns ((f (room / 2) n).2+1) % ((room:Int)+1)).toNat ((f (room / 2) n).2+1);have c:=mod_le (a:=nx ns ((f (room / 2) n).2+1)) h;have d:(nx ns ((f (room / 2) n).2+1) % ((room:Int)+1)).toNat * ((N+1) * kZ fu)<=8 * ((N+1) * kZ fu):=Q14 _ (by omega)
  have e:(N+1) * kZ (fu+1)=8 * ((N+1) * kZ fu)+(N+1):=by
   show(N+1) * (8 * kZ fu+1)=_;rw[Nat.mul_add,Q37,Nat.mul_one]
  simp only[g_];rw[e];omega
theorem rz {g:Int->Ds × Int}{key:Str}{N:Nat}(J:∀n,n<=(g n).2/\(g n).2<=n+N):∀(m:Nat) (I:List Ds) (n:Int),n<=(gB g key m I n).2/\(gB g key m I n).2<=n+(m * N:Nat)
 |0,_,n=>by simp[gB]
 |m+1,I,n=>by
  obtain⟨Y,a2⟩:=J n;have e:(m+1) * N=m * N+N:=Q1m m N;unfold gB;rw[e];split
  . obtain⟨L,U⟩:=rz (key:=key) J m I (g n).2;omega
  . obtain⟨L,U⟩:=rz (key:=key) J m (I++[(g n).1]) (g n).2;omega
mutual
theorem oj (ns:List Int):∀(k:Kd) (room:Nat) (n:Int),room<8->n<=(val ns k room n).2/\(val ns k room n).2<=n+k.cB
 | .num,_,_,_=>by simp only[val,Kd.cB];omega
 | .gp,_,_,_=>by simp only[val,Kd.cB];omega
 | .fT fs,room,n,h=>by
   have:=om ns fs room n h;simp only[val,Kd.cB];omega
 | .rows key by_ fs,room,n,h=>by
   obtain⟨I,J⟩:=rz (g:=fE ns fs (room / 2)) (key:=key) (N:=fs.cB) (λn=>om ns fs (room / 2) n (by omega)) (nx ns (n+1) % ((room:Int)+1)).toNat [] (n+1);have c:=mod_le (a:=nx ns (n+1)) h;have d:(nx ns (n+1) % ((room:Int)+1)).toNat * fs.cB<=8 * fs.cB:=Q14 _ (by omega);simp only[val,Kd.cB];omega
 | .tree k,room,n,h=>by
   have:=oi (ns:=ns) (f:=val ns k) (N:=k.cB) (λroom n h=>oj ns k room n h) 4 room n h;have e:kZ 4=585:=rfl;rw[e] at this;simp only[val,Kd.cB];omega
 | .gZ fs,room,n,h=>by
   have:=BR ns fs (nx ns (n+1) % (fs.names.length:Int)).toNat room (n+1) h;simp only[val,Kd.cB];omega
theorem om (ns:List Int):∀(fs:Fs) (room:Nat) (n:Int),room<8->n<=(fE ns fs room n).2/\(fE ns fs room n).2<=n+fs.cB
 | .nil,_,_,_=>by simp[fE,Fs.cB]
 | .cons x k r,room,n,h=>by
   have a:=oj ns k room n h;have b:=om ns r room (val ns k room n).2 h;simp only[fE,Fs.cB];omega
theorem BR (ns:List Int):∀(fs:Fs) (i room:Nat) (n:Int),room<8->n<=(iz ns fs i room n).2/\(iz ns fs i room n).2<=n+fs.cB
 | .nil,_,_,_,_=>by simp[iz,Fs.cB]
 | .cons x k r,0,room,n,h=>by
   have a:=oj ns k room n h;simp only[iz,Fs.cB];omega
 | .cons x k r,i+1,room,n,h=>by
   have a:=BR ns r i room n h;simp only[iz,Fs.cB];omega
end
noncomputable def CB:Nat->Nat
 |0=>1
 |d+1=>1200 * CB d
theorem oo:∀d,1<=CB d
 |0=>Q00 _
 |d+1=>by have:=oo d;show 1<=1200 * CB d;omega
mutual
theorem BU:∀(k:Kd) (d:Nat),k.W->k.dep<=d+1->k.cB<=CB d
 | .num,d,_,_=>oo d
 | .gp,d,_,_=>oo d
 | .fT fs,0,_,h=>by
   simp only[Kd.dep] at h
   cases fs with
   |nil=>simp[Kd.cB,Fs.cB]
   |cons x k r=>have:=k.lW;simp only[Fs.dep] at h;omega
 | .fT fs,d+1,w,h=>by
   unfold Kd.W at w;simp only[Kd.dep] at h;have:=pP fs d w.2.2 (by omega);have e:fs.names.length * CB d<=12 * CB d:=Q14 _ w.2.1;show fs.cB<=1200 * CB d;omega
 | .rows key by_ fs,0,w,h=>by
   simp only[Kd.dep] at h
   cases fs with
   |nil=>simp[Kd.cB,Fs.cB,CB]
   |cons x k r=>have:=k.lW;simp only[Fs.dep] at h;omega
 | .rows key by_ fs,d+1,w,h=>by
   unfold Kd.W at w;simp only[Kd.dep] at h;have:=pP fs d w.2.2.1 (by omega);have e:fs.names.length * CB d<=12 * CB d:=Q14 _ w.2.1;have p:=oo d;show 8 * fs.cB+1<=1200 * CB d;omega
 | .tree k,0,w,h=>by
   have:=k.lW;simp only[Kd.dep] at h;omega
 | .tree k,d+1,w,h=>by
   unfold Kd.W at w;simp only[Kd.dep] at h;have:=BU k d w (by omega);have p:=oo d;show(k.cB+1) * 585<=1200 * CB d;omega
 | .gZ fs,0,w,h=>by
   simp only[Kd.dep] at h
   cases fs with
   |nil=>simp[Kd.cB,Fs.cB,CB]
   |cons x k r=>have:=k.lW;simp only[Fs.dep] at h;omega
 | .gZ fs,d+1,w,h=>by
   unfold Kd.W at w;simp only[Kd.dep] at h;have:=pP fs d w.2.2.2 (by omega);have e:fs.names.length * CB d<=12 * CB d:=Q14 _ w.2.1;have p:=oo d;show fs.cB+1<=1200 * CB d;omega
theorem pP:∀(fs:Fs) (d:Nat),fs.W->fs.dep<=d+1->fs.cB<=fs.names.length * CB d
 | .nil,d,_,_=>by simp[Fs.cB]
 | .cons x k r,d,w,h=>by
   unfold Fs.W at w;simp only[Fs.dep] at h;have a:=BU k d w.1 (by omega);have b:=pP r d w.2.2 (by omega);show k.cB+r.cB<=(r.names.length+1) * CB d;rw[Q1m];omega
end
mutual
theorem BV:∀(k:Kd),k.dB+8<=10 * k.dep
 | .num=>by simp[Kd.dB,Kd.dep]
 | .gp=>by simp[Kd.dB,Kd.dep]
 | .fT fs=>by have:=pQ fs;simp only[Kd.dB,Kd.dep];omega
 | .rows _ _ fs=>by have:=pQ fs;simp only[Kd.dB,Kd.dep];omega
 | .tree k=>by have:=BV k;simp only[Kd.dB,Kd.dep];omega
 | .gZ fs=>by have:=pQ fs;simp only[Kd.dB,Kd.dep];omega
theorem pQ:∀(fs:Fs),fs.dB<=10 * fs.dep - 8
 | .nil=>by simp[Fs.dB]
 | .cons x k r=>by
   have a:=BV k;have b:=pQ r;simp only[Fs.dB,Fs.dep];omega
end
end Pb
namespace Pb
open L2
mutual
def KA (H:Hp):V->Kd->Prop
 |v,.num=>∃a,v=.ref a/\H a=some (.tup [.str "number"])
 |v,.gp=>∃a,v=.ref a/\H a=some (.tup [.str "word"])
 |v,.fT fs=>∃a b vs,v=.ref a/\H a=some (.tup [.str "record",.ref b])/\H b=some (.tup vs)/\FA H vs fs
 |v,.rows key by_ fs=>∃a b vs,v=.ref a/\H a=some (.tup [.str "rows",.str key,.str by_,.ref b])/\H b=some (.tup vs)/\FA H vs fs
 |v,.tree k=>∃a u,v=.ref a/\H a=some (.tup [.str "tree",u])/\KA H u k
 |v,.gZ fs=>∃a b vs,v=.ref a/\H a=some (.tup [.str "either",.ref b])/\H b=some (.tup vs)/\FA H vs fs
def FA (H:Hp):List V->Fs->Prop
 |vs,.nil=>vs=[]
 |vs,.cons x k r=>∃c u I,vs=.ref c::I/\H c=some (.tup [.str x,u])/\KA H u k/\FA H I r
end
def Tu (H H':Hp):Prop:=∀a xs,H a=some (.tup xs)->H' a=some (.tup xs)
theorem Tu.trans {H H1 H2:Hp}(a:Tu H H1)(b:Tu H1 H2):Tu H H2:=λc xs h=>b c xs (a c xs h)
theorem Tu.of {H H':Hp}(s:Same H H'):Tu H H':=λa xs h=>s a _ h
theorem Tu.wr {H:Hp}{p:Addr}{o:HO}(h:∀xs,H p≠some (.tup xs)):Tu H (upd H p o):=λa xs e=>by
 rw[eU (λz=>h xs (by rw[<-z];exact e))];exact e
mutual
theorem KA.mono {H H':Hp}(t:Tu H H'):∀{v:V}(k:Kd),KA H v k->KA H' v k
 |v,.num,h=>by
  unfold KA at h ⊢;obtain⟨a,e,q⟩:=h;exact⟨a,e,t _ _ q⟩
 |v,.gp,h=>by
  unfold KA at h ⊢;obtain⟨a,e,q⟩:=h;exact⟨a,e,t _ _ q⟩
 |v,.fT fs,h=>by
  unfold KA at h ⊢;obtain⟨a,b,vs,e,I,J,f⟩:=h;exact⟨a,b,vs,e,t _ _ I,t _ _ J,FA.mono t fs f⟩
 |v,.rows key by_ fs,h=>by
  unfold KA at h ⊢;obtain⟨a,b,vs,e,I,J,f⟩:=h;exact⟨a,b,vs,e,t _ _ I,t _ _ J,FA.mono t fs f⟩
 |v,.tree k,h=>by
  unfold KA at h ⊢;obtain⟨a,u,e,q,f⟩:=h;exact⟨a,u,e,t _ _ q,KA.mono t k f⟩
 |v,.gZ fs,h=>by
  unfold KA at h ⊢;obtain⟨a,b,vs,e,I,J,f⟩:=h;exact⟨a,b,vs,e,t _ _ I,t _ _ J,FA.mono t fs f⟩
theorem FA.mono {H H':Hp}(t:Tu H H'):∀{vs:List V}(fs:Fs),FA H vs fs->FA H' vs fs
 |vs,.nil,h=>by
  unfold FA at h ⊢;exact h
 |vs,.cons x k r,h=>by
  unfold FA at h ⊢;obtain⟨c,u,I,e,q,f,g⟩:=h;exact⟨c,u,I,e,t _ _ q,KA.mono t k f,FA.mono t r g⟩
end
theorem FA.len {H:Hp}:∀{vs:List V}(fs:Fs),FA H vs fs->vs.length=fs.names.length
 |vs,.nil,h=>by
  unfold FA at h;rw[h];rfl
 |vs,.cons x k r,h=>by
  unfold FA at h;obtain⟨c,u,I,e,_,_,g⟩:=h;rw[e];show I.length+1=r.names.length+1;rw[FA.len r g]
theorem FA.get {H:Hp}:∀{vs:List V}(fs:Fs) {i:Nat}{v:V},FA H vs fs->vs[i]? =some v->∃c u x k,v=.ref c/\fs.at i=some (x,k)/\H c=some (.tup [.str x,u])/\KA H u k
 |vs,.nil,i,v,h,e=>by
  unfold FA at h;rw[h] at e;simp at e
 |vs,.cons x k r,0,v,h,e=>by
  unfold FA at h;obtain⟨c,u,J,I,q,f,_⟩:=h;rw[I] at e;have e:some (V.ref c)=some v:=e
  cases e;exact⟨c,u,x,k,rfl,rfl,q,f⟩
 |vs,.cons x k r,i+1,v,h,e=>by
  unfold FA at h;obtain⟨c,u,J,I,_,_,g⟩:=h;rw[I] at e;exact FA.get r (i:=i) g (by simpa using e)
theorem FA.at {H:Hp}{vs:List V}{fs:Fs}{i:Nat}{x:Str}{k:Kd}(h:FA H vs fs)(e:fs.at i=some (x,k)):∃c u,vs[i]? =some (.ref c)/\H c=some (.tup [.str x,u])/\KA H u k:=by
 have hl:=FA.len fs h
 have hi:i<fs.names.length:=by
  have:fs.names[i]? =some x:=by rw[Fs.kx,e];rfl
  exact(List.getElem?_eq_some_iff.mp this).1
 have I:vs[i]? =some (vs[i]'(by omega)):=Q02 (by omega);obtain⟨c,u,U,Y,h1,h2,J,L⟩:=FA.get fs h I;rw[e] at h2;cases h2;exact⟨c,u,by rw[I,h1],J,L⟩
theorem FA.snoc {H:Hp}{c:Addr}{u:V}{x:Str}{k:Kd}(hc:H c=some (.tup [.str x,u]))(I:KA H u k):∀{vs:List V}(fs:Fs),FA H vs fs->FA H (vs++[.ref c]) (fs.snoc x k)
 |vs,.nil,h=>by
  unfold FA at h;subst h;show FA H [.ref c] (.cons x k .nil);unfold FA;exact⟨c,u,[],rfl,hc,I,by unfold FA;rfl⟩
 |vs,.cons y q r,h=>by
  unfold FA at h;obtain⟨d,w,J,e,h1,h2,L⟩:=h;subst e;show FA H (.ref d::(J++[.ref c])) (.cons y q (r.snoc x k));unfold FA;exact⟨d,w,J++[.ref c],rfl,h1,h2,FA.snoc hc I r L⟩
mutual
def Own (H:Hp):V->D->List Addr->Prop
 |v,.int z,I=>v=.int z/\I=[]
 |v,.str x,I=>v=.str x/\I=[]
 |v,.non,I=>v=.non/\I=[]
 |v,.boo b,I=>v=.bl b/\I=[]
 |v,.tup xs,I=>∃a vs,v=.ref a/\H a=some (.tup vs)/\fm H vs xs I
 |v,.lst xs,I=>∃a vs J,v=.ref a/\H a=some (.lst vs)/\I=a::J/\fm H vs xs J
 |v,.dct m,I=>∃a kvs J,v=.ref a/\H a=some (.dK kvs)/\I=a::J/\fe H kvs m J
def fm (H:Hp):List V->Ds->List Addr->Prop
 |vs,.nil,I=>vs=[]/\I=[]
 |vs,.cons _ d r,I=>∃v q f1 f2,vs=v::q/\I=f1++f2/\Own H v d f1/\fm H q r f2
def fe (H:Hp):List (Key × V)->Ds->List Addr->Prop
 |kvs,.nil,I=>kvs=[]/\I=[]
 |kvs,.cons x d r,I=>∃v q f1 f2,kvs=(Sum.inr x,v)::q/\I=f1++f2/\Own H v d f1/\fe H q r f2
end
mutual
theorem Own.keep {H H':Hp}(t:Tu H H'):∀{v:V}(d:D) {I:List Addr},(∀a∈I,∀o,H a=some o->H' a=some o)->Own H v d I->Own H' v d I
 |v,.int z,I,k,h=>by unfold Own at h ⊢;exact h
 |v,.str x,I,k,h=>by unfold Own at h ⊢;exact h
 |v,.non,I,k,h=>by unfold Own at h ⊢;exact h
 |v,.boo _,I,k,h=>by unfold Own at h ⊢;exact h
 |v,.tup xs,I,k,h=>by
  unfold Own at h ⊢;obtain⟨a,vs,e,q,f⟩:=h;exact⟨a,vs,e,t _ _ q,fm.keep t xs k f⟩
 |v,.lst xs,I,k,h=>by
  unfold Own at h ⊢;obtain⟨a,vs,J,e,q,rfl,f⟩:=h;exact⟨a,vs,J,e,k a Q04 _ q,rfl,fm.keep t xs (λb L=>k b (Q0e _ L)) f⟩
 |v,.dct m,I,k,h=>by
  unfold Own at h ⊢;obtain⟨a,vs,J,e,q,rfl,f⟩:=h;exact⟨a,vs,J,e,k a Q04 _ q,rfl,fe.keep t m (λb L=>k b (Q0e _ L)) f⟩
theorem fm.keep {H H':Hp}(t:Tu H H'):∀{vs:List V}(xs:Ds) {I:List Addr},(∀a∈I,∀o,H a=some o->H' a=some o)->fm H vs xs I->fm H' vs xs I
 |vs,.nil,I,k,h=>by unfold fm at h ⊢;exact h
 |vs,.cons x d r,I,k,h=>by
  unfold fm at h ⊢;obtain⟨v,q,f1,f2,e,rfl,L,U⟩:=h;exact⟨v,q,f1,f2,e,rfl,Own.keep t d (λb J=>k b (Q0s _ J)) L,fm.keep t r (λb J=>k b (Q08 _ J)) U⟩
theorem fe.keep {H H':Hp}(t:Tu H H'):∀{kvs:List (Key × V)}(m:Ds) {I:List Addr},(∀a∈I,∀o,H a=some o->H' a=some o)->fe H kvs m I->fe H' kvs m I
 |kvs,.nil,I,k,h=>by unfold fe at h ⊢;exact h
 |kvs,.cons x d r,I,k,h=>by
  unfold fe at h ⊢;obtain⟨v,q,f1,f2,e,rfl,L,U⟩:=h;exact⟨v,q,f1,f2,e,rfl,Own.keep t d (λb J=>k b (Q0s _ J)) L,fe.keep t r (λb J=>k b (Q08 _ J)) U⟩
end
theorem Own.same {H H':Hp}{v:V}{d:D}{I:List Addr}(s:Same H H')(h:Own H v d I):Own H' v d I:=h.keep (Tu.of s) d λa _ o e=>s a o e
theorem fm.same {H H':Hp}{v:List V}{d:Ds}{I:List Addr}(s:Same H H')(h:fm H v d I):fm H' v d I:=h.keep (Tu.of s) d λa _ o e=>s a o e
theorem fe.same {H H':Hp}{v:List (Key × V)}{d:Ds}{I:List Addr}(s:Same H H')(h:fe H v d I):fe H' v d I:=h.keep (Tu.of s) d λa _ o e=>s a o e
def Mu (H:Hp) (a:Addr):Prop:=(∃xs,H a=some (.lst xs))\/∃kvs,H a=some (.dK kvs)
mutual
theorem Own.alive {H:Hp}:∀{v:V}(d:D) {I:List Addr},Own H v d I->∀a∈I,Mu H a
 |v,.int z,I,h=>by unfold Own at h;rw[h.2];intro a J;exact absurd J (by simp)
 |v,.str x,I,h=>by unfold Own at h;rw[h.2];intro a J;exact absurd J (by simp)
 |v,.non,I,h=>by unfold Own at h;rw[h.2];intro a J;exact absurd J (by simp)
 |v,.boo _,I,h=>by unfold Own at h;rw[h.2];intro a J;exact absurd J (by simp)
 |v,.tup xs,I,h=>by
  unfold Own at h;obtain⟨a,vs,e,q,f⟩:=h;exact fm.alive xs f
 |v,.lst xs,I,h=>by
  unfold Own at h;obtain⟨a,vs,U,e,q,rfl,f⟩:=h;intro b L;rcases List.mem_cons.mp L with z|z
  . rw[z];exact .inl ⟨_,q⟩
  . exact fm.alive xs f b z
 |v,.dct m,I,h=>by
  unfold Own at h;obtain⟨a,vs,U,e,q,rfl,f⟩:=h;intro b L;rcases List.mem_cons.mp L with z|z
  . rw[z];exact .inr ⟨_,q⟩
  . exact fe.alive m f b z
theorem fm.alive {H:Hp}:∀{vs:List V}(xs:Ds) {I:List Addr},fm H vs xs I->∀a∈I,Mu H a
 |vs,.nil,I,h=>by unfold fm at h;rw[h.2];intro a J;exact absurd J (by simp)
 |vs,.cons x d r,I,h=>by
  unfold fm at h;obtain⟨v,q,f1,f2,e,rfl,L,U⟩:=h;intro b Y;rcases List.mem_append.mp Y with z|z
  . exact Own.alive d L b z
  . exact fm.alive r U b z
theorem fe.alive {H:Hp}:∀{kvs:List (Key × V)}(m:Ds) {I:List Addr},fe H kvs m I->∀a∈I,Mu H a
 |kvs,.nil,I,h=>by unfold fe at h;rw[h.2];intro a J;exact absurd J (by simp)
 |kvs,.cons x d r,I,h=>by
  unfold fe at h;obtain⟨v,q,f1,f2,e,rfl,L,U⟩:=h;intro b Y;rcases List.mem_append.mp Y with z|z
  . exact Own.alive d L b z
  . exact fe.alive r U b z
end
theorem Mu.ex {H:Hp}{a:Addr}(h:Mu H a):∃o,H a=some o:=by
 rcases h with⟨_,h⟩|⟨_,h⟩ <;> exact⟨_,h⟩
theorem Mu.uS {H:Hp}{a:Addr}(h:Mu H a)(xs:List V):H a≠some (.tup xs):=λz=>by
 rcases h with⟨_,h⟩|⟨_,h⟩ <;> rw[h] at z <;> cases z
noncomputable def Ds.len:Ds->Nat
 | .nil=>0
 | .cons _ _ r=>r.len+1
noncomputable def Ds.names:Ds->List Str
 | .nil=>[]
 | .cons x _ r=>x::r.names
noncomputable def Ds.at:Ds->Nat->Option D
 | .nil,_=>none
 | .cons _ d _,0=>some d
 | .cons _ _ r,i+1=>r.at i
noncomputable def Ds.snoc:Ds->Str->D->Ds
 | .nil,x,d=>.cons x d .nil
 | .cons y e r,x,d=>.cons y e (r.snoc x d)
theorem Ds.mW:∀{xs:Ds}{i:Nat}{d:D},xs.at i=some d->d.dep<=xs.dep
 | .nil,_,_,h=>by cases h
 | .cons _ d r,0,_,h=>by cases h;exact Q2 _ _
 | .cons _ d r,i+1,_,h=>Q0h (Ds.mW (xs:=r) (i:=i) h) (Q20 _ _)
theorem Ds.rA:∀{xs:Ds}{x:Str}{d:D},xs.get x=some d->d.dep<=xs.dep
 | .nil,_,_,h=>by cases h
 | .cons y e r,x,d,h=>by
   have h:(if x=y then some e else r.get x)=some d:=h;by_cases c:x=y
   . rw[if_pos c] at h;cases h;exact Q2 _ _
   . rw[if_neg c] at h;exact Q0h (Ds.rA h) (Q20 _ _)
theorem fm.len {H:Hp}:∀{vs:List V}(xs:Ds) {I:List Addr},fm H vs xs I->vs.length=xs.len
 |vs,.nil,I,h=>by unfold fm at h;rw[h.1];rfl
 |vs,.cons x d r,I,h=>by
  unfold fm at h;obtain⟨v,q,f1,f2,rfl,rfl,L,J⟩:=h;show q.length+1=r.len+1;rw[fm.len r J]
theorem fm.get {H:Hp}:∀{vs:List V}(xs:Ds) {I:List Addr}{i:Nat}{v:V},fm H vs xs I->vs[i]? =some v->∃d f,xs.at i=some d/\Own H v d f/\∀a∈f,a∈I
 |vs,.nil,I,i,v,h,e=>by
  unfold fm at h;rw[h.1] at e;simp at e
 |vs,.cons x d r,I,0,v,h,e=>by
  unfold fm at h;obtain⟨w,q,f1,f2,rfl,rfl,L,U⟩:=h;have e:some w=some v:=e
  cases e;exact⟨d,f1,rfl,L,λa J=>Q0s _ J⟩
 |vs,.cons x d r,I,i+1,v,h,e=>by
  unfold fm at h;obtain⟨w,q,f1,f2,rfl,rfl,L,U⟩:=h;obtain⟨d',f,h1,h2,Y⟩:=fm.get r (i:=i) U (by simpa using e);exact⟨d',f,h1,h2,λa J=>Q08 _ (Y a J)⟩
theorem fm.snoc {H:Hp}{v:V}{d:D}{g:List Addr}{y:Str}(J:Own H v d g):∀{vs:List V}(xs:Ds) {I:List Addr},fm H vs xs I->fm H (vs++[v]) (xs.snoc y d) (I++g)
 |vs,.nil,I,h=>by
  unfold fm at h;obtain⟨rfl,rfl⟩:=h;show fm H [v] (.cons y d .nil) g;unfold fm;exact⟨v,[],g,[],rfl,by simp,J,by unfold fm;exact⟨rfl,rfl⟩⟩
 |vs,.cons x e r,I,h=>by
  unfold fm at h;obtain⟨w,q,f1,f2,rfl,rfl,L,U⟩:=h;show fm H (w::(q++[v])) (.cons x e (r.snoc y d)) (f1++f2++g);unfold fm;exact⟨w,q++[v],f1,f2++g,rfl,by rw[Q0u],L,fm.snoc J r U⟩
theorem fe.snoc {H:Hp}{v:V}{d:D}{g:List Addr}{y:Str}(J:Own H v d g):∀{kvs:List (Key × V)}(xs:Ds) {I:List Addr},fe H kvs xs I->fe H (kvs++[(Sum.inr y,v)]) (xs.snoc y d) (I++g)
 |kvs,.nil,I,h=>by
  unfold fe at h;obtain⟨rfl,rfl⟩:=h;show fe H [(Sum.inr y,v)] (.cons y d .nil) g;unfold fe;exact⟨v,[],g,[],rfl,by simp,J,by unfold fe;exact⟨rfl,rfl⟩⟩
 |kvs,.cons x e r,I,h=>by
  unfold fe at h;obtain⟨w,q,f1,f2,rfl,rfl,L,U⟩:=h;show fe H ((Sum.inr x,w)::(q++[(Sum.inr y,v)])) (.cons x e (r.snoc y d)) (f1++f2++g);unfold fe;exact⟨w,q++[(Sum.inr y,v)],f1,f2++g,rfl,by rw[Q0u],L,fe.snoc J r U⟩
theorem fe.keys {H:Hp}:∀{kvs:List (Key × V)}(m:Ds) {I:List Addr},fe H kvs m I->kvs.map (·.1)=m.names.map Sum.inr
 |kvs,.nil,I,h=>by unfold fe at h;rw[h.1];rfl
 |kvs,.cons x d r,I,h=>by
  unfold fe at h;obtain⟨v,q,f1,f2,rfl,rfl,L,J⟩:=h;show Sum.inr x::q.map (·.1)=Sum.inr x::r.names.map Sum.inr;rw[fe.keys r J]
theorem fe.len {H:Hp}{kvs:List (Key × V)}{m:Ds}{I:List Addr}(h:fe H kvs m I):kvs.length=m.names.length:=by
 have:=congrArg List.length (fe.keys m h);simpa using this
theorem fe.val {H:Hp}:∀{kvs:List (Key × V)}(m:Ds) {J:List Addr}{x:Str}{d:D},fe H kvs m J->m.get x=some d->∃v f,h_ kvs (Sum.inr x)=some v/\Own H v d f/\∀a∈f,a∈J
 |kvs,.nil,J,x,d,h,e=>by cases e
 |kvs,.cons y e r,J,x,d,h,I=>by
  unfold fe at h;obtain⟨v,q,f1,f2,rfl,rfl,U,Y⟩:=h;have I:(if x=y then some e else r.get x)=some d:=I;by_cases c:x=y
  . rw[if_pos c] at I
    cases I;exact⟨v,f1,ph (by rw[c]),U,λa L=>Q0s _ L⟩
  . rw[if_neg c] at I;obtain⟨w,f,h1,h2,h3⟩:=fe.val r Y I;exact⟨w,f,by rw[pj (λz=>c (Sum.inr.inj z).symm)];exact h1,h2,λa L=>Q08 _ (h3 a L)⟩
theorem gv.names:∀{fs:Fs}{m:Ds},gv fs m->m.names=fs.names
 | .nil,m,h=>by unfold gv at h;rw[h];rfl
 | .cons x k r,m,h=>by
   unfold gv at h;obtain⟨d,q,rfl,_,g⟩:=h;show x::q.names=x::r.names;rw[gv.names g]
theorem fe.BW {H:Hp}{kvs:List (Key × V)}{m:Ds}{I:List Addr}{x:Str}(h:fe H kvs m I)(J:x ∉ m.names):h_ kvs (Sum.inr x)=none:=by
 cases e:h_ kvs (Sum.inr x) with
 |none=>rfl
 |some v=>
  have:=Gn e;rw[fe.keys m h] at this;obtain⟨y,L,U⟩:=List.mem_map.mp this
  cases U;exact absurd L J
theorem rB {kvs:List (Key × V)}{k:Key}{v:V}(h:h_ kvs k=none):putK kvs k v=kvs++[(k,v)]:=by
 unfold putK;rw[if_neg];rw[pq,h];simp
def Kp (S:Addr->Prop) (H H':Hp):Prop:=∀c o,¬S c->H c=some o->H' c=some o
theorem Kp.refl (S:Addr->Prop)(H:Hp):Kp S H H:=λ_ _ _ h=>h
theorem Kp.trans {S:Addr->Prop}{H H1 H2:Hp}(x:Kp S H H1)(y:Kp S H1 H2):Kp S H H2:=λc o n h=>y c o n (x c o n h)
theorem Kp.of {S:Addr->Prop}{H H':Hp}(s:Same H H'):Kp S H H':=λc o _ h=>s c o h
theorem Kp.pR {S:Addr->Prop}{H H':Hp}{a:Addr}(x:Kp S H H')(I:¬S a)(h:H' a=none):H a=none:=by
 cases e:H a with
 |none=>rfl
 |some o=>rw[x a o I e] at h;cases h
inductive A3 {α β γ:Type} (R:α->β->γ->Prop):List α->List β->List γ->Prop
 |nil:A3 R [] [] []
 |cons {a:α} {b:β} {c:γ} {as:List α} {bs:List β} {cs:List γ}:R a b c->A3 R as bs cs->A3 R (a::as) (b::bs) (c::cs)
theorem A3.snoc {α I J:Type}{R:α->I->J->Prop}{a:α}{b:I}{c:J}(h:R a b c):∀{as:List α}{bs:List I}{L:List J},A3 R as bs L->A3 R (as++[a]) (bs++[b]) (L++[c])
 |_,_,_,.nil=>.cons h .nil
 |_,_,_,.cons x r=>.cons x (A3.snoc h r)
theorem A3.len {α J L:Type}{R:α->J->L->Prop}:∀{as:List α}{bs:List J}{I:List L},A3 R as bs I->as.length=bs.length/\as.length=I.length
 |_,_,_,.nil=>⟨rfl,rfl⟩
 |_,_,_,.cons x r=>by
  obtain⟨h1,h2⟩:=A3.len r;simp only[Q0g];omega
theorem A3.at {α I J:Type}{R:α->I->J->Prop}{a0:α}{b0:I}{c0:J}:∀{as:List α}{bs:List I}{L:List J},A3 R as bs L->∀i,i<as.length->R (as.getD i a0) (bs.getD i b0) (L.getD i c0)
 |_,_,_,.nil,i,h=>absurd h (by simp)
 |_,_,_,.cons x r,0,h=>x
 |_,_,_,.cons x r,i+1,h=>by
  have:=A3.at (a0:=a0) (b0:=b0) (c0:=c0) r i (by simpa using h);simpa using this
theorem A3.pick {α I J:Type}{R:α->I->J->Prop}{a0:α}{b0:I}{c0:J}{as:List α}{bs:List I}{L:List J}(h:A3 R as bs L):∀p:List Nat,(∀i∈p,i<as.length)->A3 R (p.map λi=>as.getD i a0) (p.map λi=>bs.getD i b0) (p.map λi=>L.getD i c0)
 |[],_=>.nil
 |i::p,hp=>.cons (h.at i (hp i Q04)) (A3.pick h p λj U=>hp j (Q0e _ U))
theorem Ho {α:Type}(a0:α):∀l:List α,((List.range l.length).map λi=>l.getD i a0)=l:=λl=>by
 apply Q30
 . simp
 . intro i h1 h2;simp[h2]
theorem rD {α:Type}(a0:α){l:List α}{p:List Nat}(h:p.Perm (List.range l.length)):(p.map λi=>l.getD i a0).Perm l:=by
 have:=h.map (λi=>l.getD i a0)
 rwa [Ho] at this
theorem BX {α:Type}{I J:List (List α)}(h:I.Perm J):I.flatten.Perm J.flatten:=by
 induction h with
 |nil=>exact List.Perm.refl _
 |cons x _ L=>exact L.append_left x
 |swap x y l=>
  show(y++(x++l.flatten)).Perm (x++(y++l.flatten));rw[<-Q0u,<-Q0u];exact List.perm_append_comm.append_right _
 |trans _ _ a b=>exact a.trans b
abbrev fH (H:Hp):List V->List Ds->List (List Addr)->Prop:=A3 λv m f=>Own H v (.dct m) f
theorem fH.own {H:Hp}:∀{vs:List V}{rs:List Ds}{fs:List (List Addr)},fH H vs rs fs->fm H vs (gA rs) fs.flatten
 |_,_,_,.nil=>by unfold gA fm;exact⟨rfl,rfl⟩
 |_,_,_,.cons h r=>by
  unfold gA fm;exact⟨_,_,_,Zr rfl ⟨rfl,h,fH.own r⟩⟩
theorem fm.rows {H:Hp}:∀{rs:List Ds}{vs:List V}{I:List Addr},fm H vs (gA rs) I->∃fs,fH H vs rs fs/\I=fs.flatten
 |[],vs,I,h=>by
  unfold gA fm at h;obtain⟨rfl,rfl⟩:=h;exact⟨[],.nil,rfl⟩
 |m::rs,vs,I,h=>by
  unfold gA fm at h;obtain⟨v,q,f1,f2,rfl,rfl,J,L⟩:=h;obtain⟨fs,h1,rfl⟩:=fm.rows L;exact⟨f1::fs,.cons J h1,rfl⟩
noncomputable def lt (z:Int):Str:=⟨#[97+z.toNat]⟩
theorem rE (z:Int):(lt z).length=1:=rfl
theorem Hq:∀j:Nat,j<26->(("abcdefghijklmnopqrstuvwxyz":Str)).cps.toList[j]? =some (97+j):=by decide +kernel
theorem Hr:(("abcdefghijklmnopqrstuvwxyz":Str)).cps.toList.length=26:=by decide +kernel
theorem rF {z:Int}(I:0<=z)(h1:z<26):gW (("abcdefghijklmnopqrstuvwxyz":Str)).cps.toList z=some (97+z.toNat):=by
 unfold gW ke;rw[Hr,if_pos I,if_pos (show z<((26:Nat):Int) by omega)];exact Hq z.toNat (by omega)
theorem Hs {z:Int}(I:0<=z)(h1:z<6):gW [V.int 1,.int 3,.int 5,.int 7,.int 9,.int 11] z=some (.int (2 * z+1)):=by
 obtain⟨n,rfl⟩:=Int.eq_ofNat_of_zero_le I;have h:=Int.ofNat_lt.mp h1;clear I h1;revert n
 decide
noncomputable def nameAt (m:Int) (k:Nat):Str:=
 if m / 12168 % 4=0 then Txt.mul (lt (m / 6 % 26)) ((k:Int)+1)
 else Txt.slice (lt (m / 6 % 26)++lt (m / 156 % 26)) none (some (m / 4056 % 3))++lt ((m / 156+(k:Int) * (2 * (m % 6)+1)) % 26)++Txt.slice (lt (m / 6 % 26)++lt (m / 156 % 26)) (some (m / 4056 % 3)) none
theorem foldl_size (a:Array Nat):∀(n:Nat) (b:Array Nat),((List.replicate n a).foldl (· ++ ·) b).size=b.size+n * a.size
 |0,b=>by simp
 |n+1,b=>by
  rw[Q1n,Q38,foldl_size a n,Q31,Q1m];omega
theorem BY {x:Str}(I:x.length=1)(k:Nat):(Txt.mul x ((k:Int)+1)).length=k+1:=by
 have J:x.cps.size=1:=I;unfold Txt.mul;rw[if_neg (by omega)];by_cases h:k=0
 . subst h;rw[if_pos (by simp)];exact I
 . rw[if_neg]
   . show((List.replicate ((k:Int)+1).toNat x.cps).foldl (· ++ ·) #[]).size=k+1;rw[foldl_size,J,show((k:Int)+1).toNat=k+1 by omega];simp
   . rw[I];simp;omega
theorem pS (x y:Str):(x++y).cps.toList=x.cps.toList++y.cps.toList:=by
 show(x.cps++y.cps).toList=_;simp
theorem BZ (x y:Str):(x++y).length=x.length+y.length:=by
 show(x.cps++y.cps).size=x.cps.size+y.cps.size;simp
theorem Hu {p q:Str}{z w:Int}(h:p++lt z++q=p++lt w++q):z.toNat=w.toNat:=by
 have e:=congrArg (λs:Str=>s.cps.toList) h;simp only[pS] at e;have e:=List.append_cancel_left (List.append_cancel_right e);have e:[97+z.toNat]=[97+w.toNat]:=e;have e:=List.cons.inj e |>.1;omega
theorem Hv:∀s:Nat,s<6->∀i,i<12->∀j,j<12->(i * (2 * s+1)) % 26=(j * (2 * s+1)) % 26->i=j:=by decide +kernel
theorem Hw {m:Int}{i j:Nat}(U:0<=m)(hi:i<12)(J:j<12)(h:nameAt m i=nameAt m j):i=j:=by
 unfold nameAt at h;by_cases I:m / 12168 % 4=0
 . rw[if_pos I,if_pos I] at h;have e:=congrArg Str.length h;rw[BY (rE _),BY (rE _)] at e;omega
 . rw[if_neg I,if_neg I] at h;have e:=Hu h;obtain⟨s,L⟩:∃s:Nat,m % 6=s:=⟨(m % 6).toNat,by omega⟩;rw[L] at e;have e:((m / 156+(i * (2 * s+1):Nat)) % 26).toNat=((m / 156+(j * (2 * s+1):Nat)) % 26).toNat:=e;generalize m / 156=a at e;exact Hv s (by omega) i hi j J (by omega)
theorem Hx {f:Nat->Str}:∀{n:Nat},(∀i j,i<n->j<n->f i=f j->i=j)->((List.range n).map f).Nodup:=by
 intro n h;refine List.pairwise_map.mpr (List.Pairwise.imp_of_mem (λ{a b} J L I=>?_) (List.nodup_range (n:=n)));intro e;exact I (h a b (List.mem_range.mp J) (List.mem_range.mp L) e)
theorem names_nodup {m:Int}{n:Nat}(I:0<=m)(J:n<=12):((List.range n).map (nameAt m)).Nodup:=
 Hx λi j hi L e=>Hw I (by omega) (by omega) e
theorem Hy {x:Str}(I:x.length=1){k:Nat}(U:k<12)(hl:∀n,n<=1000->Builtin.Str.tooLong n=false):MulOk x ((k:Int)+1):=by
 refine⟨?_,λ_ z=>?_,λ_ _=>?_⟩
 . have J:decide (((k:Int)+1)< -(2 ^ 63:Int))=false:=decide_eq_false (by omega);have L:decide (((k:Int)+1) ≥ 2 ^ 63)=false:=decide_eq_false (by omega);rw[J,L];rfl
 . rw[I];clear hl I z;revert k
   decide
 . rw[I];exact hl _ (by omega)
end Pb
namespace Pb
open L2 PyProof.Rows Spec StrLaws Builtin Builtin.Str
theorem foldl_rep (c:Nat):∀(n:Nat) (b:Array Nat),((List.replicate n #[c]).foldl (· ++ ·) b).toList=b.toList++List.replicate n c
 |0,b=>by simp
 |n+1,b=>by
  rw[Q1n,Q38,foldl_rep c n,Array.toList_append,Q0u];rfl
theorem B0 (z:Int)(k:Nat):(Txt.mul (lt z) ((k:Int)+1)).cps.toList=List.replicate (k+1) (97+z.toNat):=by
 unfold Txt.mul;rw[if_neg (by omega)];by_cases h:(((k:Int)+1 == 1) || (lt z).length == 0)=true
 . rw[if_pos h]
   have I:k=0:=by
    rw[rE] at h;simp at h;omega
   subst I;rfl
 . rw[if_neg h];have e:((k:Int)+1).toNat=k+1:=by omega
   rw[e];show((List.replicate (k+1) #[97+z.toNat]).foldl (· ++ ·) #[]).toList=_;rw[foldl_rep];rfl
theorem B1 (a b:Int){c:Int}(U:0<=c)(h1:c<3):∃I J:List Nat,(Txt.slice (lt a++lt b) none (some c)).cps.toList=I/\(Txt.slice (lt a++lt b) (some c) none).cps.toList=J/\I++J=[97+a.toNat,97+b.toNat]:=by
 have L:(lt a++lt b)=⟨#[97+a.toNat,97+b.toNat]⟩:=rfl;rw[L];have:c=0\/c=1\/c=2:=by omega
 rcases this with rfl|rfl|rfl
 . refine⟨[],[97+a.toNat,97+b.toNat],rfl,?_,rfl⟩;have e:strSliceIndices (some 0) none 1 2=[0,1]:=by decide +kernel
   unfold Txt.slice;rw[show(⟨#[97+a.toNat,97+b.toNat]⟩:Str).length=2 from rfl,e];rfl
 . refine⟨[97+a.toNat],[97+b.toNat],rfl,?_,rfl⟩;have e:strSliceIndices (some 1) none 1 2=[1]:=by decide +kernel
   unfold Txt.slice;rw[show(⟨#[97+a.toNat,97+b.toNat]⟩:Str).length=2 from rfl,e];rfl
 . exact⟨[97+a.toNat,97+b.toNat],[],rfl,rfl,rfl⟩
theorem B2:("":Str).cps.toList=[]:=by decide +kernel
theorem Hz {m:Int}{i:Nat}:nameAt m i≠"":=by
 intro e;unfold nameAt at e;by_cases h:m / 12168 % 4=0
 . rw[if_pos h] at e;have:=congrArg (λx:Str=>x.cps.toList) e;have this:(Txt.mul (lt (m / 6 % 26)) ((i:Int)+1)).cps.toList=("":Str).cps.toList:=this;rw[B0,B2] at this;rw[Q1n] at this
   cases this
 . rw[if_neg h] at e;obtain⟨J,p2,L,U,Y⟩:=B1 (m / 6 % 26) (m / 156 % 26) (c:=m / 4056 % 3) (by omega) (by omega)
   have I:(Txt.slice (lt (m / 6 % 26)++lt (m / 156 % 26)) none (some (m / 4056 % 3))++lt ((m / 156+(i:Int) * (2 * (m % 6)+1)) % 26)++Txt.slice (lt (m / 6 % 26)++lt (m / 156 % 26)) (some (m / 4056 % 3)) none).cps.toList
    =J++[97+((m / 156+(i:Int) * (2 * (m % 6)+1)) % 26).toNat]++p2:=by
    rw[pS,pS,L,U];rfl
   have aa:J.length+p2.length=2:=by
    have:=congrArg List.length Y;rw[Q09] at this;exact this
   have:=congrArg (λx:Str=>x.cps.toList.length) e;have this:List.length _=List.length _:=this;rw[I,B2,Q09,Q09,Q1g] at this;have:J.length+1+p2.length=0:=this;omega
theorem B3:("zyxw":Str).cps.toList=[122,121,120,119]:=by decide +kernel
theorem HA {m:Int}{i:Nat}:nameAt m i≠"zyxw":=by
 intro e;unfold nameAt at e;by_cases h:m / 12168 % 4=0
 . rw[if_pos h] at e;have:=congrArg (λx:Str=>x.cps.toList) e;have this:(Txt.mul (lt (m / 6 % 26)) ((i:Int)+1)).cps.toList=("zyxw":Str).cps.toList:=this;rw[B0,B3,Q1n] at this;injection this with U I
   cases i with
   |zero=>cases I
   |succ i=>
    rw[Q1n] at I;injection I with Y _
    omega
 . rw[if_neg h] at e;obtain⟨L,p2,U,I,Y⟩:=B1 (m / 6 % 26) (m / 156 % 26) (c:=m / 4056 % 3) (by omega) (by omega)
   have J:(Txt.slice (lt (m / 6 % 26)++lt (m / 156 % 26)) none (some (m / 4056 % 3))++lt ((m / 156+(i:Int) * (2 * (m % 6)+1)) % 26)++Txt.slice (lt (m / 6 % 26)++lt (m / 156 % 26)) (some (m / 4056 % 3)) none).cps.toList
    =L++[97+((m / 156+(i:Int) * (2 * (m % 6)+1)) % 26).toNat]++p2:=by
    rw[pS,pS,U,I];rfl
   have aa:L.length+p2.length=2:=by
    have:=congrArg List.length Y;rw[Q09] at this;exact this
   have:=congrArg (λx:Str=>x.cps.toList.length) e;have this:List.length _=List.length _:=this;rw[J,B3,Q09,Q09,Q1g] at this;have:L.length+1+p2.length=4:=this;omega
def sle (x y:Str):Prop:=ku (ia x) (ia y)
def slt (x y:Str):Prop:=gM (ia x) (ia y)=true
theorem uT (x y:Str)(h:slt x y):¬slt y x:=λh2=>by
 have z:=mT _ _ _ h h2;rw[pM] at z
 cases z
theorem HC {x y:Str}(h:ia x=ia y):x=y:=Sum.inr.inj (List.cons.inj h).1
theorem rG {x y:Str}(h:sle x y):slt x y\/x=y:=by
 rcases pN (ia x) (ia y) with q|q|q
 . exact .inl q
 . exact .inr (HC q)
 . have h:gM (ia y) (ia x)=false:=h;rw[h] at q;cases q
theorem HD {x y:Str}(h:slt x y):sle x y:=by
 unfold sle ku
 cases e:gM (ia y) (ia x) with
 |false=>rfl
 |true=>exact absurd e (uT _ _ h)
theorem HE {x y z:Str}(h1:sle x y)(h2:sle y z):sle x z:=by
 rcases rG h1 with a|a
 . rcases rG h2 with b|b
   . exact HD (mT _ _ _ a b)
   . rw[<-b];exact h1
 . rw[a];exact h2
theorem HF (x y:Str):ltCps x.cps.toList y.cps.toList=gM (ia x) (ia y):=by
 rw[Bz];exact ltCps_eq _ _
theorem B4:∀{ss:List Str},sortedS ss=true->ss.Pairwise sle
 |[],_=>.nil
 |[x],_=>Q1z _ _
 |x::y::r,h=>by
  have h:(!ltCps y.cps.toList x.cps.toList && risingS y r)=true:=h;obtain⟨h1,h2⟩:=Bool.and_eq_true_iff.mp h;have J:(y::r).Pairwise sle:=B4 (ss:=y::r) h2
  have I:sle x y:=by
   rw[HF] at h1;unfold sle ku
   cases e:gM (ia y) (ia x) with
   |false=>rfl
   |true=>rw[e] at h1;cases h1
  refine .cons (λz L=>?_) J;rcases List.mem_cons.mp L with e|e
  . rw[e];exact I
  . exact HE I ((List.pairwise_cons.mp J).1 z e)
theorem B5 {α:Type}{R:α->α->Prop}(as:∀a b,R a b->¬R b a):∀{J I:List α},J.Perm I->J.Pairwise R->I.Pairwise R->J=I
 |[],I,p,_,_=>by rw[p.nil_eq]
 |a::r,[],p,_,_=>absurd p.length_eq (by simp)
 |a::r,b::q,p,h1,h2=>by
  obtain⟨Y,a2⟩:=List.pairwise_cons.mp h1;obtain⟨b1,b2⟩:=List.pairwise_cons.mp h2
  have U:a=b:=by
   have ha:a∈b::q:=p.mem_iff.mp Q04;have hb:b∈a::r:=p.mem_iff.mpr Q04;rcases List.mem_cons.mp ha with e|e
   . exact e
   . rcases List.mem_cons.mp hb with L|L
     . exact L.symm
     . exact absurd (Y b L) (as b a (b1 a e))
  subst U;rw[B5 as ((Q36 a).mp p) a2 b2]
end Pb
namespace Pb
open L2
theorem boot_isinstance:bootBuiltins "isinstance"=some (.builtin "isinstance"):=by decide +kernel
theorem boot_sorted:bootBuiltins "sorted"=some (.builtin "sorted"):=by decide +kernel
theorem boot_sum:bootBuiltins "sum"=some (.builtin "sum"):=by decide +kernel
theorem boot_all:bootBuiltins "all"=some (.builtin "all"):=by decide +kernel
theorem boot_int:bootBuiltins "int"=some (.type "int"):=by decide +kernel
theorem boot_bool:bootBuiltins "bool"=some (.type "bool"):=by decide +kernel
theorem boot_str:bootBuiltins "str"=some (.type "str"):=by decide +kernel
theorem boot_list:bootBuiltins "list"=some (.type "list"):=by decide +kernel
theorem boot_tuple:bootBuiltins "tuple"=some (.type "tuple"):=by decide +kernel
theorem boot_dict:bootBuiltins "dict"=some (.type "dict"):=by decide +kernel
structure Tb (mg:Str->Option Value):Prop where
 ib:mg "len"=none
 iY:mg "isinstance"=none
 pT:mg "sorted"=none
 rH:mg "all"=none
 lZ:mg "range"=none
 B6:mg "enumerate"=none
 uU:mg "zip"=none
 B7:mg "int"=none
 uV:mg "bool"=none
 uW:mg "str"=none
 m7:mg "list"=none
 oq:mg "tuple"=none
 uX:mg "dict"=none
 LI:mg "min"=none
 uY:mg "sum"=none
structure Dn (K:W.Frag) (mg:Str->Option Value) (x:Str) (ps:List Str) (st:Stmt) (f:Addr) (fd:FuncData):Prop where
 F:ko K x x st f fd
 b:Binds K fd ps []
 m:mg x=some (.ref f)
theorem fx {X:Cx}{k L:Nat}{f:Addr}{fd:FuncData}{ps:List Str}{sp:Sp}{x:Str}{p pos:Pos}{e:Expr}{es:List Expr}{t:TA}{st:Stmt}(F:eZ X.prog X.w X.K X.mg X.base e_ k f fd ps sp)(U:gy L X.A)(D:Dn X.K X.mg x ps st f fd)(Y:PA X (e::es) t)(hg:Gl X x:=by rfl)(I:(x == ("__debug__":Str))=false:=by decide)(he:starEach (e::es) X.env=(false,eval e X.env)::starEach es X.env:=by rfl)(J:(backTo pos (starEach es X.env)).any (·.1)=false:=by rfl)(hk:k<=L:=by first|decide|omega):PE X (.Call (.Name x p) (e::es) [] pos) (mM sp [] E0 t):=qK F (U.mono hk) hg D.m D.F.kp D.b .nil km Y I he J
theorem fj {X:Cx}(i:Nat){x:Str}{e:Expr}{te:TE}{pos I:Pos}(J:X.N.Nodup)(L:PE X e te)(hi:X.N[i]? =some x:=by rfl)(U:Loc X.env.scope x:=by exact Or.inl rfl)(Y:swapsWith e (some (.Name x I)) pos.line X.env=pure false:=by rfl)(hf:X.fn x=true\/X.env.scope.names.lookup x=some .local:=by first|exact .inl rfl|exact .inr rfl|assumption):PS X (.Assign [.Name x I] e pos) (jT te (gK i)):=tQ J hi U L Y hf
theorem HG {X:Cx}(i:Nat){x:Str}{e:Expr}{te:TE}{pos I:Pos}(J:X.N.Nodup)(L:PE X e te)(hi:X.N[i]? =some x:=by rfl)(U:Loc X.env.scope x:=by exact Or.inr rfl)(Y:swapsWith e (some (.Name x I)) pos.line X.env=pure false:=by rfl)(hf:X.fn x=true\/X.env.scope.names.lookup x=some .local:=by first|exact .inl rfl|exact .inr rfl|assumption):PS X (.Assign [.Name x I] e pos) (jT te (gK i)):=tQ J hi U L Y hf
theorem pU:0<=sizeLine:=by decide
theorem hX:1<=sizeLine:=by decide
theorem gE:2<=sizeLine:=by decide
theorem HH:3<=sizeLine:=by decide
theorem pV:4<=sizeLine:=by decide
theorem LJ:5<=sizeLine:=by decide
theorem HI:6<=sizeLine:=by decide
theorem fh {X:Cx}{a b:Expr}{ta tb:TE}{pos:Pos}(I:PE X a ta)(J:PE X b tb)(L:qL b:=by exact λ_ _=>rfl):PE X (.Subscript a b pos) (gI (iO X.K) ta tb):=lV FP I J L
theorem gC {X:Cx}{a b:Expr}{ta tb:TE}{pos:Pos}(I:PE X a ta)(J:PE X b tb)(L:qL b:=by exact λ_ _=>rfl):PE X (.Subscript a b pos) (gI (Az X.K) ta tb):=lV uh I J L
theorem jj {X:Cx}{own N:List Str}{scope sc:Scope}(I:X.env.scope=sc:=by rfl)(J:X.N=N:=by rfl)(k:scope.kind=.function:=by rfl)(c:uy own N scope sc=true:=by decide +kernel):jv X own scope:=jv.of I J k c
theorem gO {α:Type}{a:α}{p:Prop}:a=a\/p:=Or.inl rfl
theorem gz {N P:List Str}{sc:Scope}(h:(sc.kind == .function && !sc.isCoroutine && !sc.isGenerator && decide N.Nodup && N.take P.length == P && P.all (λx=>sc.names.lookup x == some .local || sc.names.lookup x == some .cell) && sc.names.all (λy=>y.2 != .free))=true:=by decide +kernel):f_ N P sc:=by
 simp only[Bool.and_eq_true,Q13,Bool.or_eq_true,beq_iff_eq,bne_iff_ne,decide_eq_true_eq,Bool.not_eq_true',ne_eq] at h;obtain⟨⟨⟨⟨⟨⟨h1,h2⟩,I⟩,J⟩,L⟩,U⟩,Y⟩:=h;exact⟨h1,h2,I,J,L,U,Y⟩
abbrev fJ:List Str:=XD
abbrev iL:List Str:=XM
abbrev iP:List Str:=XU
abbrev jx:List Str:=XH
abbrev jy:List Str:=["kind","value"]
abbrev jL:List Str:=XF
abbrev j0:List Str:=XR
abbrev kz:List Str:=Xd
abbrev lF:List Str:=["kind","tree"]
abbrev lG:List Str:=["pairs"]
abbrev m8:List Str:=Xb
abbrev m9:List Str:=["fields","name"]
abbrev m_:List Str:=["value"]
abbrev ot:List Str:=["self","way"]
abbrev ou:List Str:=Xi
abbrev ow:List Str:=Xk
abbrev pW:List Str:=["kind","row"]
abbrev pX:List Str:=Xg
abbrev pY:List Str:=["kind","rows"]
abbrev pZ:List Str:=["fields","value"]
abbrev rJ:List Str:=XV
abbrev rK:List Str:=["kind","seen"]
abbrev rL:List Str:=XY
abbrev rM:List Str:=XZ
abbrev rO:List Str:=Xl
abbrev rP:List Str:=Xe
abbrev rQ:List Str:=Xa
abbrev rR:List Str:=XN
abbrev rS:List Str:=Xc
abbrev rT:List Str:=XQ
abbrev rV:List Str:=XI
def jz (K:W.Frag) (H:Hp) (a:Addr) (ns:List Int):Prop:=
 (∃o,H a=some (.i6 o (.lst (ns.map V.int))))\/
   ∃(o:Obj) (I:Array Value) (n:Nat),K.lookup a=some o/\o.cls=.type "list"/\o.dict=none/\o.data=.seq I n/\I.size<=sizeLine/\Vals (ns.map V.int) I.toList
theorem jz.sq {K:W.Frag}{H:Hp}{a:Addr}{ns:List Int}(h:jz K H a ns):d_ K H a (ns.map V.int):=by
 rcases h with⟨o,h⟩|h
 . exact .inl (.inr ⟨o,h⟩)
 . exact .inr h
def SB (b:Addr) (H H':Hp):Prop:=∀c o,c≠b->H c=some o->H' c=some o
theorem SB.trans {b:Addr}{H H1 H2:Hp}(x:SB b H H1)(y:SB b H1 H2):SB b H H2:=λc o n h=>y c o n (x c o n h)
theorem SB.of {b:Addr}{H H':Hp}(s:Same H H'):SB b H H':=λc o _ h=>s c o h
theorem SB.wr {b:Addr}{H:Hp}{o:HO}:SB b H (upd H b o):=λc u n h=>by rw[eU n];exact h
theorem SB.new {b p:Addr}{H:Hp}{o:HO}(h:H p=none):SB b H (upd H p o):=λc u n q=>by rw[eU (ff q h)];exact q
structure G0 (K:W.Frag) (H:Hp) (a b:Addr) (ns:List Int) (n:Int):Prop where
 jA:jz K H a ns
 len:ns.length<=63
 at_:H b=some (.lst [.int n])
 pos:0<=n
theorem SB.jA {K:W.Frag}{b:Addr}{H H':Hp}{a:Addr}{ns:List Int}{n:Int}(x:SB b H H')(I:H b=some (.lst [.int n]))(h:jz K H a ns):jz K H' a ns:=by
 rcases h with⟨o,h⟩|h
 . exact .inl ⟨o,x a _ (gN h I (by intro z;cases z)) h⟩
 . exact .inr h
theorem SB.tu {b:Addr}{H H':Hp}{n:Int}(x:SB b H H')(I:H b=some (.lst [.int n])):Tu H H':=λc xs h=>x c _ (gN h I (by intro z;cases z)) h
theorem G0.go {K:W.Frag}{H H':Hp}{a b:Addr}{ns:List Int}{n n':Int}(g:G0 K H a b ns n)(x:SB b H H')(h:H' b=some (.lst [.int n']))(I:n<=n'):G0 K H' a b ns n':=
 ⟨x.jA g.at_ g.jA,g.len,h,by have:=g.pos;omega⟩
theorem Same.new {H:Hp}{p:Addr}{o:HO}(h:H p=none):Same H (upd H p o):=λc u q=>by rw[eU (ff q h)];exact q
theorem int_at {ns:List Int}{z:Int}(I:0<=z)(h1:z<ns.length):gW (ns.map V.int) z=some (.int (ns.getD z.toNat 0)):=by
 obtain⟨j,rfl⟩:∃j:Nat,z=(j:Int):=⟨z.toNat,by omega⟩;rw[Q1u];exact gL (by rw[Q0j,Q06,Q02 (by omega)];rfl)
def l4 (K:W.Frag):Sp:=λvs H Q _=>∃a b ns n,vs=[.ref a,.ref b]/\G0 K H a b ns n/\n<=1000000000000/\
 ∀(H':Hp),SB b H H'->H' b=some (.lst [.int (n+1)])->Q (.int (nx ns (n+1))) H'
def kB (K:W.Frag):Sp:=λvs H Q _=>∃a b ns n,vs=[.ref a,.ref b]/\G0 K H a b ns n/\n<=1000000000000/\
 ∀(r:Int) (H':Hp),0<=r->r<1999999973->SB b H H'->H' b=some (.lst [.int (n+1)])->Q (.int r) H'
theorem rW {P:Program}{w:World}{K:W.Frag}{mg:Str->Option Value}{base:Heap}{CX:jf}{k:Nat}{f:Addr}{fd:FuncData}{ps:List Str}(F:eZ P w K mg base CX k f fd ps (l4 K)):eZ P w K mg base CX k f fd ps (kB K):=
 F.imp λvs H Q E ⟨a,b,ns,n,e,g,I,q⟩=>⟨a,b,ns,n,e,g,I,λH' J h1=>q _ H' (rh _ _) (uP _ _) J h1⟩
def p6 (K:W.Frag):Sp:=λvs H Q _=>∃a b ns n,vs=[.ref a,.ref b]/\G0 K H a b ns n/\n<=1000000000000/\
 ∀(v:V) (k:Kd) (H':Hp),SB b H H'->H' b=some (.lst [.int (n+1)])->KA H' v k->k.dep<=1->lX k->k.W->Q v H'
def p7 (K:W.Frag):Sp:=λvs H Q _=>∃a b ns n,∃m:Nat,vs=[.ref a,.ref b,.int m]/\m<=12/\G0 K H a b ns n/\n<=1000000000000/\
 ∀(p:Addr) (ss:List Str) (H':Hp),SB b H H'->H' b=some (.lst [.int (n+1)])->p≠b->H' p=some (.lst (ss.map V.str))->ss.length=m->ss.Nodup->(∀x∈ss,x≠"")->(ss.Pairwise sle/\∀x∈ss,x≠"zyxw")->Q (.ref p) H'
noncomputable def ck:Nat->Nat
 |0=>2
 |d+1=>3 * ck d+6
def ng (K:W.Frag) (d:Nat):Sp:=λvs H Q _=>∃a b ns n,vs=[.ref a,.ref b,.int d]/\G0 K H a b ns n/\n+ck d<=1000000000000/\
 ∀(v:V) (k:Kd) (n':Int) (H':Hp),SB b H H'->H' b=some (.lst [.int n'])->n<=n'->n'<=n+ck d->KA H' v k->k.dep<=d+1->k.W->Q v H'
def B8 (K:W.Frag) (d:Nat):Sp:=λvs H Q _=>∃a b ns n,∃m:Nat,vs=[.ref a,.ref b,.int m,.int d]/\m<=3/\G0 K H a b ns n/\n+1+3 * ck d<=1000000000000/\
 ∀(t:Addr) (xs:List V) (fs:Fs) (n':Int) (H':Hp),SB b H H'->H' b=some (.lst [.int n'])->n<=n'->n'<=n+1+3 * ck d->H' t=some (.tup xs)->FA H' xs fs->fs.names.Nodup->fs.names.length=m->fs.dep<=d+1->fs.W->Q (.ref t) H'
def B9 (K:W.Frag) (d:Nat):Sp:=λvs H Q _=>∃a b ns n,∃m:Nat,vs=[.ref a,.ref b,.int m,.int d]/\1<=m/\m<=3/\G0 K H a b ns n/\n+5+3 * ck d<=1000000000000/\
 ∀(v:V) (k:Kd) (n':Int) (H':Hp),SB b H H'->H' b=some (.lst [.int n'])->n<=n'->n'<=n+5+3 * ck d->KA H' v k->k.dep<=d+2->k.W->Q v H'
def rX (K:W.Frag) (d:Nat):Sp:=λvs H Q _=>∃a b ns n,∃m:Nat,vs=[.ref a,.ref b,.int m,.int d]/\1<=m/\m<=12/\G0 K H a b ns n/\n+2+(m:Int) * (ck d+1)<=1000000000000/\
 ∀(v:V) (key by_:Str) (fs:Fs) (n':Int) (H':Hp),SB b H H'->H' b=some (.lst [.int n'])->n<=n'->n'<=n+2+(m:Int) * (ck d+1)->KA H' v (.rows key by_ fs)->(Kd.rows key by_ fs).dep<=d+2->(Kd.rows key by_ fs).W->fs.names.length=m->Q v H'
def B_ (K:W.Frag):Sp:=λvs H Q _=>∃a b ns n,vs=[.ref a,.ref b]/\G0 K H a b ns n/\n<=1000000000000/\
 ∀(H':Hp),SB b H H'->H' b=some (.lst [.int (n+1)])->Q (.int (num ns (n+1))) H'
def Ca (K:W.Frag):Sp:=λvs H Q _=>∃a b ns n,vs=[.ref a,.ref b]/\G0 K H a b ns n/\n<=1000000000000/\
 ∀(H':Hp),SB b H H'->H' b=some (.lst [.int (n+1)])->Q (.str (gp ns (n+1))) H'
variable {P:Program}{w:World}{K:W.Frag}{mg:Str->Option Value}{base:Heap}
theorem HJ:f_ ["_law_script","_law_at","_law_cell","_law_m"] XD (fo (top 25)):=gz
theorem p8 (T:Tb mg)(I:Dn K mg "_law_next" fJ (top 25) J L):eZ P w K mg base e_ (1) J L fJ (l4 K):=by
 refine I.F.ok HJ λvs H Q E h=>?_;obtain⟨a,b,ns,n,rfl,g,hn,q⟩:=h;refine⟨rfl,λaa A outer s Y hr hu=>?_⟩
 refine⟨_,(eV (o7 (eY iq (gC (pv 1) b_) b_) (z7 (pv 1) b_ set_list))
  (eV (fj 2 Y b_)
  (eV (fA (fw mH (fZ iu (by rfl) T.ib PySem.boot_len (a_ (pv 0) c_)) b_ (fv _)) (fc (fj 2 Y (gC (pv 0) (eY fM (gC (pv 1) b_) (fZ iu (by rfl) T.ib PySem.boot_len (a_ (pv 0) c_)))))) fy)
  (eV (fj 3 Y (eY fM (eY lq (eY iq (eY iq (eY fM (pv 2) b_) (eY lq (eY lq (gC (pv 1) b_) (gC (pv 1) b_)) b_)) b_) b_) b_))
  (fc (fg (eY fM (eY lq (pv 3) (pv 3)) b_))))))),?_⟩
 ac_rfl
 have hb:=g.at_;have hp:=g.pos;have hS:d_ K (upd H b (.lst [.int (n+1)])) a (ns.map V.int):=(SB.wr.jA hb g.jA).sq;have U:upd H b (.lst [.int (n+1)]) b=some (.lst [.int (n+1)]):=eW;refine(Zr rfl ⟨b,_,_,Zr rfl ⟨rfl,d_.of hb,rfl,_,Zr rfl ⟨rfl,Zr rfl ⟨b,_,_,0,rfl,rfl,hb,rfl,?_⟩⟩⟩⟩);refine(Zr rfl ⟨a,Zr rfl ⟨.inl hS,_,Zr rfl ⟨rfl,Zr rfl ?_⟩⟩⟩);have hl:(ns.map V.int).length=ns.length:=Q03 _;refine gm (λc=>?_) (λc=>?_)
 . have c':(0:Int)<((ns.map V.int).length:Nat):=of_decide_eq_true c;rw[hl] at c';have i0:=Q0i (n+1) (show(ns.length:Int)≠0 by omega);have i1:=Q0k (n+1) c'
   have hz:gW (ns.map V.int) ((n+1) % (((ns.map V.int).length:Nat):Int))=some (.int (cellAt ns (n+1))):=by
    rw[hl,int_at i0 i1];unfold cellAt;rw[if_pos (by omega)]
   refine(Zr rfl (Zr rfl ⟨b,_,_,Zr rfl ⟨rfl,d_.of U,rfl,Zr rfl ⟨a,Zr rfl ⟨.inl hS,_,Zr rfl ⟨rfl,by rw[hl];exact c',a,_,_,Zr rfl ⟨rfl,hS,hz,?_⟩⟩⟩⟩⟩⟩))
   refine(Zr rfl ⟨_,Zr rfl ⟨rfl,(by show(0:Int)<_;decide),Zr rfl ⟨b,_,_,Zr rfl ⟨rfl,d_.of U,rfl,Zr rfl ⟨b,_,_,Zr rfl ⟨rfl,d_.of U,rfl,_,Zr rfl ⟨rfl,.inl ⟨by omega,by omega⟩,_,Zr rfl ⟨rfl,.inr ⟨by decide,by decide⟩,
    _,Zr rfl ⟨rfl,_,Zr rfl ⟨rfl,_,Zr rfl ⟨rfl,.inr ⟨by decide,by decide⟩,_,Zr rfl ⟨rfl,(by show(0:Int)<_;decide),?_⟩⟩⟩⟩⟩⟩⟩⟩⟩⟩⟩⟩)
   refine(Zr rfl (Zr rfl ⟨_,Zr rfl ⟨rfl,.inl ⟨?_,?_⟩,_,Zr rfl ⟨rfl,(by show(0:Int)<_;decide),q _ SB.wr U⟩⟩⟩))
   . exact Q39 (by decide) (Q0i _ (by decide))
   . exact Int.lt_trans (Q0k _ (by decide)) (by decide)
 . have c':¬(0:Int)<((ns.map V.int).length:Nat):=λz=>c (decide_eq_true z);rw[hl] at c'
   have hz:cellAt ns (n+1)=0:=by
    unfold cellAt;rw[if_neg (by omega)]
   have q':Q (.int (((0:Int) % 2147483647+(n+1) * (n+1) * 7919+11) * 48271 % 2147483647 * (((0:Int) % 2147483647+(n+1) * (n+1) * 7919+11) * 48271 % 2147483647) % 1999999973)) (upd H b (.lst [.int (n+1)])):=by
    have:=q _ SB.wr U;unfold nx at this;rw[hz] at this;exact this
   refine(Zr rfl ⟨_,Zr rfl ⟨rfl,(by show(0:Int)<_;decide),Zr rfl ⟨b,_,_,Zr rfl ⟨rfl,d_.of U,rfl,Zr rfl ⟨b,_,_,Zr rfl ⟨rfl,d_.of U,rfl,_,Zr rfl ⟨rfl,.inl ⟨by omega,by omega⟩,_,Zr rfl ⟨rfl,.inr ⟨by decide,by decide⟩,
    _,Zr rfl ⟨rfl,_,Zr rfl ⟨rfl,_,Zr rfl ⟨rfl,.inr ⟨by decide,by decide⟩,_,Zr rfl ⟨rfl,(by show(0:Int)<_;decide),?_⟩⟩⟩⟩⟩⟩⟩⟩⟩⟩⟩⟩)
   refine(Zr rfl (Zr rfl ⟨_,Zr rfl ⟨rfl,.inl ⟨?_,?_⟩,_,Zr rfl ⟨rfl,(by show(0:Int)<_;decide),q'⟩⟩⟩))
   . exact Q39 (by decide) (Q0i _ (by decide))
   . exact Int.lt_trans (Q0k _ (by decide)) (by decide)
theorem HK:f_ XD XD (fo (top 29)):=gz
theorem uZ (T:Tb mg)(I:Dn K mg "_law_plain" fJ (top 29) J L)(U:Dn K mg "_law_next" fJ (top 25) Y aa)(ab:eZ P w K mg base e_ (1) Y aa fJ (kB K)):eZ P w K mg base e_ (2) J L fJ (p6 K):=by
 refine I.F.ok HK λvs H Q E h=>?_;obtain⟨a,b,ns,n,rfl,g,hn,q⟩:=h;refine⟨rfl,λae A outer s nd hr hu=>?_⟩
 refine⟨_,(eV (fA (fw gg (eY fM (fx ab hr U (a_ (pv 0) (a_ (pv 1) c_))) b_) b_ (fv _)) (fc (fg (gi (a_ fV c_)))) fy)
  (fc (fg (gi (a_ fV c_))))),?_⟩
 ac_rfl
 refine(Zr rfl (Zr rfl ⟨a,b,ns,n,rfl,g,hn,λr H1 r0 r1 s1 h1=>?_⟩));refine⟨_,Zr rfl ⟨rfl,(by show(0:Int)<_;decide),rfl,Zr rfl ?_⟩⟩
 have fin:∀(x:Str) (k:Kd),(∀(p:Addr) (H2:Hp),H2 p=some (.tup [.str x])->KA H2 (.ref p) k)->k.dep<=1->lX k->k.W->∀p,H1 p=none->Q (.ref p) (upd H1 p (.tup [.str x])):=λx k hk hd hp hw p ac=>
  q _ k _ (s1.trans (SB.new ac)) (by rw[eU (ff h1 ac)];exact h1) (hk p _ eW) hd hp hw
 refine gm (λc=>?_) (λc=>?_)
 . exact⟨hX,λp hp=>fin _ .num (λp H2 e=>by unfold KA;exact⟨p,rfl,e⟩) (Q00 _) trivial (by unfold Kd.W;trivial) p hp⟩
 . exact⟨hX,λp hp=>fin _ .gp (λp H2 e=>by unfold KA;exact⟨p,rfl,e⟩) (Q00 _) trivial (by unfold Kd.W;trivial) p hp⟩
theorem HL:f_ ["_law_script","_law_at","_law_m","_law_cell"] XD (fo (top 26)):=gz
theorem HM (T:Tb mg)(I:Dn K mg "_law_number" fJ (top 26) J L)(U:Dn K mg "_law_next" fJ (top 25) Y aa)(ab:eZ P w K mg base e_ (1) Y aa fJ (l4 K)):eZ P w K mg base e_ (2) J L fJ (B_ K):=by
 refine I.F.ok HL λvs H Q E h=>?_;obtain⟨a,b,ns,n,rfl,g,hn,q⟩:=h;refine⟨rfl,λae A outer s nd hr hu=>?_⟩
 refine⟨_,(eV (fj 2 nd (fx ab hr U (a_ (pv 0) (a_ (pv 1) c_))))
  (eV (fj 3 nd b_)
  (eV (fA (fw mH (fZ iu (by rfl) T.ib PySem.boot_len (a_ (pv 0) c_)) b_ (fv _)) (fc (fj 3 nd (gC (pv 0) (eY fM (gC (pv 1) b_) (fZ iu (by rfl) T.ib PySem.boot_len (a_ (pv 0) c_)))))) fy)
  (eV (fA (fw gg (eY fM (pv 2) b_) b_ (fv _)) (fc (fg (eY jd (eY fM (eY gJ (pv 2) b_) b_) b_))) fy)
  (fc (fg (eY jd (eY fM (eY iq (eY fM (pv 3) (eY o9 b_ b_)) (eY lq (pv 2) (eY o9 b_ b_))) (eY lq b_ (eY o9 b_ b_))) (eY o9 b_ b_)))))))),?_⟩
 ac_rfl
 refine(Zr rfl (Zr rfl ⟨a,b,ns,n,rfl,g,hn,λH1 s1 h1=>?_⟩));have g1:=g.go s1 h1 (by omega);have hS:=g1.jA.sq;have r0:=rh ns (n+1);have r1:=uP ns (n+1);have hl:(ns.map V.int).length=ns.length:=Q03 _;have hq:∀e,num ns (n+1)=e->Q (.int e) H1:=λe he=>by rw[<-he];exact q _ s1 h1
 unfold num at hq;refine(Zr rfl ⟨a,Zr rfl ⟨.inl hS,_,Zr rfl ⟨rfl,Zr rfl ?_⟩⟩⟩);have pw:tW 10 40:=⟨by decide,by decide,by decide⟩;have ac:tW 10 29:=⟨by decide,by decide,by decide⟩;refine gm (λc=>?_) (λc=>?_)
 . have c':(0:Int)<((ns.map V.int).length:Nat):=of_decide_eq_true c;rw[hl] at c';have i0:=Q0i (n+1) (show(ns.length:Int)≠0 by omega);have i1:=Q0k (n+1) c'
   have hz:gW (ns.map V.int) ((n+1) % (((ns.map V.int).length:Nat):Int))=some (.int (cellAt ns (n+1))):=by
    rw[hl,int_at i0 i1];unfold cellAt;rw[if_pos (by omega)]
   refine(Zr rfl (Zr rfl ⟨b,_,_,Zr rfl ⟨rfl,d_.of h1,rfl,Zr rfl ⟨a,Zr rfl ⟨.inl hS,_,Zr rfl ⟨rfl,by rw[hl];exact c',a,_,_,Zr rfl ⟨rfl,hS,hz,?_⟩⟩⟩⟩⟩⟩));refine(Zr rfl ⟨_,Zr rfl ⟨rfl,(by show(0:Int)<_;decide),rfl,Zr rfl (gm (λc2=>?_) (λc2=>?_))⟩⟩)
   . have c3:nx ns (n+1) % 3=0:=by
      have:=of_decide_eq_true c2;injection this
     refine(Zr rfl ⟨_,Zr rfl ⟨rfl,⟨by decide,by decide⟩,_,Zr rfl ⟨rfl,(by show(0:Int)<_;decide),_,Zr rfl ⟨rfl,hq _ (by rw[if_pos c3])⟩⟩⟩⟩)
   . have c3:¬nx ns (n+1) % 3=0:=λz=>c2 (decide_eq_true (show V.int (nx ns (n+1) % 3)=V.int 0 by rw[z]));refine(Zr rfl ⟨_,Zr rfl ⟨rfl,pw,_,Zr rfl ⟨rfl,(by show(0:Int)<_;decide),Zr rfl ⟨_,Zr rfl ⟨rfl,ac,_,Zr rfl ⟨rfl,.inl ⟨by omega,by omega⟩,_,Zr rfl ⟨rfl,_,Zr rfl ⟨rfl,pw,_,Zr rfl ⟨rfl,.inl ⟨by decide,by decide⟩,_,Zr rfl ⟨rfl,(by show(0:Int)<_;decide),_,Zr rfl ⟨rfl,pw,_,Zr rfl ⟨rfl,hq _ (by rw[if_neg c3];rfl)⟩⟩⟩⟩⟩⟩⟩⟩⟩⟩⟩⟩)
 . have c':¬(0:Int)<((ns.map V.int).length:Nat):=λz=>c (decide_eq_true z);rw[hl] at c'
   have hz:cellAt ns (n+1)=0:=by
    unfold cellAt;rw[if_neg (by omega)]
   refine(Zr rfl ⟨_,Zr rfl ⟨rfl,(by show(0:Int)<_;decide),rfl,Zr rfl (gm (λc2=>?_) (λc2=>?_))⟩⟩)
   . have c3:nx ns (n+1) % 3=0:=by
      have:=of_decide_eq_true c2;injection this
     refine(Zr rfl ⟨_,Zr rfl ⟨rfl,⟨by decide,by decide⟩,_,Zr rfl ⟨rfl,(by show(0:Int)<_;decide),_,Zr rfl ⟨rfl,hq _ (by rw[if_pos c3])⟩⟩⟩⟩)
   . have c3:¬nx ns (n+1) % 3=0:=λz=>c2 (decide_eq_true (show V.int (nx ns (n+1) % 3)=V.int 0 by rw[z]));refine(Zr rfl ⟨_,Zr rfl ⟨rfl,pw,_,Zr rfl ⟨rfl,(by show(0:Int)<_;decide),Zr rfl ⟨_,Zr rfl ⟨rfl,ac,_,Zr rfl ⟨rfl,.inl ⟨by omega,by omega⟩,_,Zr rfl ⟨rfl,_,Zr rfl ⟨rfl,pw,_,Zr rfl ⟨rfl,.inl ⟨by decide,by decide⟩,_,Zr rfl ⟨rfl,(by show(0:Int)<_;decide),_,Zr rfl ⟨rfl,pw,_,Zr rfl ⟨rfl,hq _ (by rw[if_neg c3,hz];rfl)⟩⟩⟩⟩⟩⟩⟩⟩⟩⟩⟩⟩)
theorem oy:jZ.length=93:=by decide +kernel
theorem Cb {z:Int}(I:0<=z)(h1:z<93):gW jZ.cps.toList z=some (jZ.cps.toList.getD z.toNat 0):=by
 have hl:jZ.cps.toList.length=93:=by
  have:=oy;rw[Q1p];exact this
 unfold gW ke;rw[hl,if_pos I,if_pos (show z<((93:Nat):Int) by omega)];show jZ.cps.toList[z.toNat]? =_;rw[Q06,Q02 (by omega)];rfl
theorem u0 (m:Int):∀k,(og m k).length=k
 |0=>rfl
 |k+1=>by
  show(og m k++_).length=_;rw[BZ,u0 m k];rfl
noncomputable def σW (a b:Addr) (m:Int) (k:Int) (w:Str) (y z:Option V):St:=[some (.ref a),some (.ref b),some (.str jZ),some (.int m),some (.int k),some (.str w),y,z]
theorem HN:f_ ["_law_script","_law_at","_law_signs","_law_m","_law_many","_law_word_here","_law_k","_law_place"] XD (fo (top 27)):=gz
theorem HP (T:Tb mg)(I:Dn K mg "_law_word" fJ (top 27) J L)(U:Dn K mg "_law_next" fJ (top 25) Y aa)(ab:eZ P w K mg base e_ (1) Y aa fJ (l4 K)):eZ P w K mg base e_ (2) J L fJ (Ca K):=by
 refine I.F.ok HN λvs H Q E h=>?_;obtain⟨a,b,ns,n,rfl,g,hn,q⟩:=h;refine⟨rfl,λae A outer s nd hr hu=>?_⟩
 refine⟨_,(eV (fj 2 nd fV)
  (eV (fj 2 nd (eY o_ (pv 2) fV))
  (eV (fj 3 nd (fx ab hr U (a_ (pv 0) (a_ (pv 1) c_))))
  (eV (fj 4 nd (eY fM (pv 3) b_))
  (eV (fA (fw gg (eY fM (eY gJ (pv 3) b_) b_) b_ (fv _)) (fc (fj 4 nd b_)) fy)
  (eV (fj 5 nd fV)
  (eV (jc PassesOwn.never rfl (mF rfl T.lZ (a_ (pv 4) c_)) (gq (i:=6) nd rfl gO) (eV (fj 7 nd (eY iq (eY gJ (pv 3) b_) (eY lq (eY lq (pv 6) (pv 6)) (eY fM (eY gJ (pv 3) b_) b_))))
  (fc (fj 5 nd (eY o_ (pv 5) (lV pf (pv 2) (eY fM (pv 7) (fZ FX (by rfl) T.ib PySem.boot_len (a_ (pv 2) c_))) (λ_ _=>rfl)))))))
  (fc (fg (pv 5)))))))))),?_⟩
 ac_rfl
 have ac:(jZ).length<=sizeLine:=by rw[oy];decide
 refine(Zr rfl ⟨_,Zr rfl ⟨rfl,ac,?_⟩⟩);refine(Zr rfl (Zr rfl ⟨a,b,ns,n,rfl,g,hn,λH1 s1 h1=>?_⟩));have r0:=rh ns (n+1);have r1:=uP ns (n+1);have hq:∀e,gp ns (n+1)=e->Q (.str e) H1:=λe he=>by rw[<-he];exact q _ s1 h1
 unfold gp at hq;generalize nx ns (n+1)=m at *;refine(Zr rfl ⟨_,Zr rfl ⟨rfl,(by show(0:Int)<_;decide),?_⟩⟩);refine(Zr rfl ⟨_,Zr rfl ⟨rfl,⟨by decide,by decide⟩,_,Zr rfl ⟨rfl,(by show(0:Int)<_;decide),rfl,Zr rfl (gm (λc=>?_) (λc=>?_))⟩⟩⟩)
 . have c3:m / 5 % 29=0:=by
    have:=of_decide_eq_true c;injection this
   rw[if_pos c3] at hq;refine(Zr rfl (Zr rfl ⟨by decide,by decide,lQ (n:=Int.toNat 40) (λi σ H'=>∃y z,σ=σW a b m 40 (og m i) y z/\H'=H1) ⟨_,Zr rfl rfl⟩ ?_ ?_⟩))
   . rintro i σ H' hi ⟨y,z,rfl,rfl⟩;have hi:i<40:=hi;have e0:(0:Int)+(i:Int)=(i:Int):=by omega
     have l3:0<=(m / 145+((0:Int)+(i:Int)) * ((0:Int)+(i:Int)) * (m / 7 % 3)) % 93/\(m / 145+((0:Int)+(i:Int)) * ((0:Int)+(i:Int)) * (m / 7 % 3)) % 93<93:=⟨Q0i _ (by decide),Q0k _ (by decide)⟩;refine(Zr rfl ⟨_,Zr rfl ⟨rfl,⟨by decide,by decide⟩,Zr rfl (Zr rfl ⟨_,Zr rfl ⟨rfl,.inl ⟨by omega,by omega⟩,Zr rfl ⟨_,Zr rfl ⟨rfl,⟨by decide,by decide⟩,_,Zr rfl ⟨rfl,(by show(0:Int)<_;decide),_,Zr rfl ⟨rfl,.inr ⟨by omega,by omega⟩,_,Zr rfl ⟨rfl,?_⟩⟩⟩⟩⟩⟩⟩)⟩⟩);refine(Zr rfl (Zr rfl (Zr rfl (Zr rfl (Zr rfl ⟨ac,_,Zr rfl ⟨rfl,(by show(0:Int)<((jZ.length:Nat):Int);rw[oy];decide),jZ,_,Zr rfl ⟨rfl,ac,(by rw[oy];exact Cb l3.1 l3.2),_,Zr rfl ⟨rfl,?_,?_⟩⟩⟩⟩)))))
     . rw[u0];show i+1<=sizeLine;exact Q0p (ig (by omega))
     . rw[e0];exact⟨_,Zr rfl rfl⟩
   . rintro σ H' ⟨y,z,rfl,rfl⟩;exact(Zr rfl (hq _ rfl))
 . have c3:¬m / 5 % 29=0:=λz=>c (decide_eq_true (show V.int (m / 5 % 29)=V.int 0 by rw[z]));rw[if_neg c3] at hq;have h5:0<=m % 5/\m % 5<5:=by omega
   refine(Zr rfl (Zr rfl ⟨by omega,by omega,lQ (n:=Int.toNat (m % 5)) (λi σ H'=>∃y z,σ=σW a b m (m % 5) (og m i) y z/\H'=H1) ⟨_,Zr rfl rfl⟩ ?_ ?_⟩))
   . rintro i σ H' hi ⟨y,z,rfl,rfl⟩;have hi:i<40:=by omega
     have e0:(0:Int)+(i:Int)=(i:Int):=by omega
     have l3:0<=(m / 145+((0:Int)+(i:Int)) * ((0:Int)+(i:Int)) * (m / 7 % 3)) % 93/\(m / 145+((0:Int)+(i:Int)) * ((0:Int)+(i:Int)) * (m / 7 % 3)) % 93<93:=⟨Q0i _ (by decide),Q0k _ (by decide)⟩;refine(Zr rfl ⟨_,Zr rfl ⟨rfl,⟨by decide,by decide⟩,Zr rfl (Zr rfl ⟨_,Zr rfl ⟨rfl,.inl ⟨by omega,by omega⟩,Zr rfl ⟨_,Zr rfl ⟨rfl,⟨by decide,by decide⟩,_,Zr rfl ⟨rfl,(by show(0:Int)<_;decide),_,Zr rfl ⟨rfl,.inr ⟨by omega,by omega⟩,_,Zr rfl ⟨rfl,?_⟩⟩⟩⟩⟩⟩⟩)⟩⟩);refine(Zr rfl (Zr rfl (Zr rfl (Zr rfl (Zr rfl ⟨ac,_,Zr rfl ⟨rfl,(by show(0:Int)<((jZ.length:Nat):Int);rw[oy];decide),jZ,_,Zr rfl ⟨rfl,ac,(by rw[oy];exact Cb l3.1 l3.2),_,Zr rfl ⟨rfl,?_,?_⟩⟩⟩⟩)))))
     . rw[u0];show i+1<=sizeLine;exact Q0p (ig (by omega))
     . rw[e0];exact⟨_,Zr rfl rfl⟩
   . rintro σ H' ⟨y,z,rfl,rfl⟩;exact(Zr rfl (hq _ rfl))
theorem HQ (n:Nat)(h:n<=1000):Builtin.Str.tooLong n=false:=by
 have:n<=sizeLine:=Q0p (ig h);unfold Builtin.Str.tooLong;exact decide_eq_false (by omega)
theorem HS (f:Nat->Str)(i:Nat):((List.range (i+1)).map f).map V.str=((List.range i).map f).map V.str++[V.str (f i)]:=by
 rw[List.range_succ,Q0f,Q0f];rfl
noncomputable abbrev abc:Str:="abcdefghijklmnopqrstuvwxyz"
noncomputable abbrev stemOf (r:Int):Str:=lt (r / 6 % 26)++lt (r / 156 % 26)
noncomputable def σN (a b:Addr) (m:Nat) (r:Int) (p:Addr) (y z:Option V):St:=
 [some (.ref a),some (.ref b),some (.int m),some (.str abc),some (.int r),some (.int (2 * (r % 6)+1)),some (.str (stemOf r)),some (.int (r / 4056 % 3)),some (.ref p),y,z]
theorem HU:f_ ["_law_script","_law_at","_law_many","_law_letters","_law_m","_law_step","_law_stem","_law_cut","_law_names_here","_law_k","_law_sign"] Xd (fo (top 28)):=gz
theorem Cc (T:Tb mg)(I:Dn K mg "_law_names" kz (top 28) J L)(Y:Dn K mg "_law_next" fJ (top 25) aa ab)(ac:eZ P w K mg base e_ (1) aa ab fJ (kB K)):eZ P w K mg base e_ (2) J L kz (p7 K):=by
 refine I.F.ok HU λvs H Q E h=>?_;obtain⟨a,b,ns,n,m,rfl,hm,g,hn,q⟩:=h;refine⟨rfl,λam A outer s nd hr hu=>?_⟩
 refine⟨_,(eV (fj 3 nd fV)
  (eV (fj 4 nd (fx ac hr Y (a_ (pv 0) (a_ (pv 1) c_))))
  (eV (fj 5 nd (gC (gu (a_ b_ (a_ b_ (a_ b_ (a_ b_ (a_ b_ (a_ b_ c_))))))) (eY fM (pv 4) b_)))
  (eV (fj 6 nd (eY o_ (lV pf (pv 3) (eY fM (eY gJ (pv 4) b_) b_) (λ_ _=>rfl)) (lV pf (pv 3) (eY fM (eY gJ (pv 4) b_) b_) (λ_ _=>rfl))))
  (eV (fj 7 nd (eY fM (eY gJ (pv 4) b_) b_))
  (eV (fj 8 nd (gu c_))
  (eV (jc PassesOwn.never rfl (mF rfl T.lZ (a_ (pv 2) c_)) (gq (i:=9) nd rfl gO) (fc (fA (fw gg (eY fM (eY gJ (pv 4) b_) b_) b_ (fv _)) (fc (kI (mP PySem.F.plainAttrs_list PySem.F.slot_list_append PySem.F.type_list_append nU (pv 8) (a_ (eY GB (lV pf (pv 3) (eY fM (eY gJ (pv 4) b_) b_) (λ_ _=>rfl)) (eY iq (pv 9) b_)) c_)))) (eV (fj 10 nd (lV pf (pv 3) (eY fM (eY iq (eY gJ (pv 4) b_) (eY lq (pv 9) (pv 5))) b_) (λ_ _=>rfl)))
  (fc (kI (mP PySem.F.plainAttrs_list PySem.F.slot_list_append PySem.F.type_list_append nU (pv 8) (a_ (eY o_ (eY o_ (jJ A6 (pv 6) jH (jI (pv 7))) (pv 10)) (jJ A6 (pv 6) (jI (pv 7)) jH)) c_))))))))
  (fc (fg (fZ Gw (by rfl) T.pT boot_sorted (a_ (pv 8) c_))))))))))),?_⟩
 ac_rfl
 refine(Zr rfl (Zr rfl ⟨a,b,ns,n,rfl,g,hn,λr H1 r0 r1 s1 h1=>?_⟩));have hz:(abc).length<=sizeLine:=by decide +kernel
 have m6:0<=r % 6/\r % 6<6:=by omega
 have l1:0<=r / 6 % 26/\r / 6 % 26<26:=by omega
 have l2:0<=r / 156 % 26/\r / 156 % 26<26:=by omega
 refine⟨HI,λp1 ai=>?_⟩;refine(Zr rfl ⟨_,Zr rfl ⟨rfl,(by show(0:Int)<_;decide),p1,_,_,Zr rfl ⟨rfl,d_.of eW,Hs m6.1 m6.2,?_⟩⟩⟩);have s2:SB b H (upd H1 p1 (.lst [.int 1,.int 3,.int 5,.int 7,.int 9,.int 11])):=s1.trans (SB.new ai);have h2:upd H1 p1 (.lst [.int 1,.int 3,.int 5,.int 7,.int 9,.int 11]) b=some (.lst [.int (n+1)]):=by rw[eU (ff h1 ai)];exact h1
 generalize upd H1 p1 (.lst [.int 1,.int 3,.int 5,.int 7,.int 9,.int 11])=H2 at s2 h2
 refine(Zr rfl (Zr rfl ⟨_,Zr rfl ⟨rfl,⟨by decide,by decide⟩,_,Zr rfl ⟨rfl,(by show(0:Int)<_;decide),_,_,Zr rfl ⟨rfl,hz,rF l1.1 l1.2,Zr rfl (Zr rfl ⟨_,Zr rfl ⟨rfl,⟨by decide,by decide⟩,_,Zr rfl ⟨rfl,(by show(0:Int)<_;decide),_,_,Zr rfl ⟨rfl,hz,rF l2.1 l2.2,
  _,Zr rfl ⟨rfl,gE,?_⟩⟩⟩⟩⟩)⟩⟩⟩⟩))
 refine(Zr rfl ⟨_,Zr rfl ⟨rfl,⟨by decide,by decide⟩,_,Zr rfl ⟨rfl,(by show(0:Int)<_;decide),?_⟩⟩⟩);refine⟨pU,λp hp=>?_⟩;have ak:p≠b:=λz=>by rw[z,h2] at hp;cases hp
 have em:Int.toNat (m:Int)=m:=by omega
 refine(Zr rfl (Zr rfl ⟨by omega,by omega,lQ (n:=Int.toNat (m:Int)) (λi σ H'=>∃y z,σ=σN a b m r p y z/\SB b H H'/\H' b=some (.lst [.int (n+1)])/\H' p=some (.lst (((List.range i).map (nameAt r)).map V.str))) ?_ ?_ ?_⟩))
 . exact⟨_,Zr rfl ⟨s2.trans (SB.new hp),by rw[eU (ff h2 hp)];exact h2,eW⟩⟩
 . intro i σ H' hi zq;obtain⟨y,z,rfl,sb,ag,af⟩:=zq;rw[em] at hi
   have ae:(((List.range i).map (nameAt r)).map V.str).length<sizeLine:=by
    rw[Q03,Q03,Q2e];exact ig (by omega)
   have next:∀(v:Str) (y' z':Option V),v=nameAt r i->∃y z,σN a b m r p y' z'=σN a b m r p y z/\SB b H (upd H' p (.lst (((List.range i).map (nameAt r)).map V.str++[V.str v])))/\
    upd H' p (.lst (((List.range i).map (nameAt r)).map V.str++[V.str v])) b=some (.lst [.int (n+1)])/\upd H' p (.lst (((List.range i).map (nameAt r)).map V.str++[V.str v])) p=some (.lst (((List.range (i+1)).map (nameAt r)).map V.str)):=by
    rintro v y' z' rfl;refine⟨y',z',rfl,λc o hc hh=>?_,by rw[eU (Ne.symm ak)];exact ag,by rw[eW,HS]⟩;by_cases e:c=p
    . subst e;have:=s2 c o hc hh;rw[hp] at this;cases this
    . rw[eU e];exact sb c o hc hh
   have e0:(0:Int)+(i:Int)=(i:Int):=by omega
   refine(Zr rfl ⟨_,Zr rfl ⟨rfl,⟨by decide,by decide⟩,_,Zr rfl ⟨rfl,(by show(0:Int)<_;decide),rfl,Zr rfl ?_⟩⟩⟩);refine gm (λc=>?_) (λc=>?_)
   . have c':r / 12168 % 4=0:=by
      have:=of_decide_eq_true c;injection this
     refine(Zr rfl ⟨.inl ⟨rfl,_,d_.of af⟩,Zr rfl (Zr rfl ⟨_,Zr rfl ⟨rfl,⟨by decide,by decide⟩,_,Zr rfl ⟨rfl,(by show(0:Int)<_;decide),_,_,Zr rfl ⟨rfl,hz,rF l1.1 l1.2,Zr rfl ⟨_,Zr rfl ⟨rfl,_,Zr rfl ⟨rfl,?_,p,_,Zr rfl ⟨rfl,af,ae,?_⟩⟩⟩⟩⟩⟩⟩⟩)⟩)
     . rw[e0];exact Hy (rE _) (by omega) HQ
     . refine next _ _ _ ?_;rw[e0];unfold nameAt;rw[if_pos c'];rfl
   . have c':¬r / 12168 % 4=0:=λz=>c (decide_eq_true (show V.int (r / 12168 % 4)=V.int 0 by rw[z]));have l3:0<=(r / 156+((0:Int)+(i:Int)) * (2 * (r % 6)+1)) % 26/\(r / 156+((0:Int)+(i:Int)) * (2 * (r % 6)+1)) % 26<26:=⟨Q0i _ (by decide),Q0k _ (by decide)⟩;have ls:(stemOf r).length<=sizeLine:=gE;refine(Zr rfl (Zr rfl ⟨_,Zr rfl ⟨rfl,⟨by decide,by decide⟩,Zr rfl (Zr rfl ⟨_,Zr rfl ⟨rfl,.inl ⟨by omega,by omega⟩,_,Zr rfl ⟨rfl,_,Zr rfl ⟨rfl,(by show(0:Int)<_;decide),_,_,Zr rfl ⟨rfl,hz,rF l3.1 l3.2,?_⟩⟩⟩⟩⟩)⟩⟩));have k1:=Txt.slice_le (stemOf r) none (some (r / 4056 % 3));have k2:=Txt.slice_le (stemOf r) (some (r / 4056 % 3)) none;have k0:(stemOf r).length=2:=rfl;rw[k0] at k1 k2;refine(Zr rfl ⟨.inl ⟨rfl,_,d_.of af⟩,Zr rfl (Zr rfl (Zr rfl (Zr rfl ⟨ls,Zr rfl ⟨_,Zr rfl ⟨rfl,?_,Zr rfl (Zr rfl (Zr rfl (Zr rfl ⟨ls,_,Zr rfl ⟨rfl,?_,p,_,Zr rfl ⟨rfl,af,ae,?_⟩⟩⟩)))⟩⟩⟩)))⟩)
     . show _+1<=sizeLine;exact Q0h (Q3a k1 1) (by decide)
     . rw[BZ];show _+1+_<=sizeLine;exact Q0h (Nat.add_le_add (Q3a k1 1) k2) (by decide)
     . refine next _ _ _ ?_;rw[e0];unfold nameAt;rw[if_neg c'];rfl
 . intro σ H' zq;obtain⟨y,z,rfl,sb,ag,af⟩:=zq;rw[em] at af;have ae:((List.range m).map (nameAt r)).length=m:=by rw[Q03,Q2e]
   refine(Zr rfl ⟨p,Zr rfl ⟨d_.of af,by rw[ae];omega,λp' al ah U aj=>?_⟩⟩);refine q p' al _ (sb.trans (SB.new ah)) (by rw[eU (ff ag ah)];exact ag) (λz=>by rw[z,ag] at ah;cases ah) eW (U.length_eq.trans ae) ?_ ?_ ⟨B4 aj,?_⟩
   . exact U.nodup_iff.mpr (names_nodup r0 hm)
   . intro x hx;obtain⟨i,hi,rfl⟩:=List.mem_map.mp (U.mem_iff.mp hx);exact Hz
   . intro x hx;obtain⟨i,hi,rfl⟩:=List.mem_map.mp (U.mem_iff.mp hx);exact HA
theorem HV:f_ Xh XH (fo (top 30)):=gz
theorem HW (d:Nat)(T:Tb mg)(I:Dn K mg "_law_fields" jx (top 30) J L)(U:Dn K mg "_law_names" kz (top 28) Y aa)(ab:eZ P w K mg base e_ (2) Y aa kz (p7 K))(ac:Dn K mg "_law_kind" iP (top 32) ae af)(ag:eZ P w K mg base e_ (2 * d+4) ae af iP (ng K d)):eZ P w K mg base e_ (2 * d+5) J L jx (B8 K d):=by
 refine I.F.ok HV λvs H Q E h=>?_;obtain⟨a,b,ns,n,m,rfl,hm,g,hn,q⟩:=h;refine⟨rfl,λaC A outer s nd hr hu=>?_⟩
 refine⟨_,(eV (fj 4 nd (fx ab hr U (a_ (pv 0) (a_ (pv 1) (a_ (pv 2) c_)))))
  (fc (fg (mO qM (by rfl) T.oq boot_tuple (a_ (kr (g:=(gK 0)) (tt:=jX) (te:=(mK (g9 (gf 0) (g9 (mM _ _ _ (g9 (gf 1) (g9 (gf 2) (g9 (gf 4) iS)))) iS)))) (own:=["_law_name"]) rfl (jj (N:=Xh) (sc:=fo (top 30))) (mE (pv 4)) (λ_ _ _ _ _=>(gq (i:=0) (show(["_law_name","_law_script","_law_at","_law_many","_law_deep","_law_names_here"]:List Str).Nodup by decide +kernel) rfl (Or.inl rfl) (.inr rfl))) (λ_ _ _ _ _=>kT) (λ_ _ _ _ _=>(gi (a_ (pv 0) (a_ (fx ag hr ac (a_ (pv 1) (a_ (pv 2) (a_ (pv 4) c_)))) c_))))) c_))))),?_⟩
 ac_rfl
 have ap:n<=1000000000000:=by omega
 refine(Zr rfl (Zr rfl (Zr rfl ⟨a,b,ns,n,m,rfl,by omega,g,ap,λp ss H1 s1 h1 aq hp hl ar au _=>?_⟩)))
 refine(Zr rfl ⟨p,rfl,⟨_,d_.of hp⟩,λi m' ys H'=>m'=ss.length - i/\i<=ss.length/\∃(fs:Fs) (n':Int),SB b H H'/\H' b=some (.lst [.int n'])/\n<=n'/\n'<=n+1+i * ck d/\H' p=some (.lst (ss.map V.str))/\FA H' ys fs/\fs.names=ss.take i/\fs.dep<=d+1/\ys.length=i/\fs.W,
  (Zr rfl ⟨Q07 _,.nil,n+1,s1,h1,by omega,by omega,hp,by unfold FA;rfl,by simp[Fs.names],by simp[Fs.dep],rfl,by unfold Fs.W;trivial⟩),?_⟩)
 intro i m' ys H' zq;obtain⟨rfl,aB,fs,n',sb,ai,z1,z2,aj,hf,ak,av,hy,hW⟩:=zq;by_cases hi:i<ss.length
 . refine .inr ⟨⟨_,.str ss[i],d_.of aj,by rw[Q0j,Q02 hi];rfl⟩,ig (by omega),λx aw y=>?_⟩;obtain⟨rfl,y⟩:=y;have hx:=y _ (d_.of aj)
   have ex:x=.str ss[i]:=by
    rw[Q0j,Q02 hi] at hx;exact(Option.some.inj hx).symm
   subst ex;refine⟨rfl,yes (fY ?_)⟩;have ax:(i:Int)<=2:=by omega
   have aD:(i:Int) * ck d<=2 * ck d:=Q1o ax (by omega);refine(Zr rfl (Zr rfl (Zr rfl (Zr rfl ⟨a,b,ns,n',rfl,g.go sb ai z1,by omega,λv k ay H2 s2 h2 y1 y2 hk aE az=>?_⟩))));refine⟨gE,λt ht=>?_⟩;have aA:t≠b:=λz=>by rw[z,h2] at ht;cases ht
   have al:Tu H2 (upd H2 t (.tup [.str ss[i],v])):=Tu.of (λc o h=>by rw[eU (ff h ht)];exact h);have tu:Tu aw (upd H2 t (.tup [.str ss[i],v])):=(s2.tu ai).trans al;refine⟨_,Nat.sub_lt_sub_left hi (Q1 i),rfl,hi,fs.snoc ss[i] k,ay,sb.trans (s2.trans (SB.new ht)),by rw[eU (Ne.symm aA)];exact h2,by omega,?_,?_,FA.snoc eW (KA.mono al k hk) fs (FA.mono tu fs hf),?_,?_,?_,Fs.uN az (au _ (Q0y _)) hW⟩
   . have e:((i+1:Nat):Int) * ck d=(i:Int) * ck d+ck d:=by
      rw[Q21,Q22];simp
     rw[e];omega
   . have h3:=s2 p _ aq aj;rw[eU (ff h3 ht)];exact h3
   . rw[Fs.uL,ak,Q0q,Q02 hi];rfl
   . rw[Fs.uM];omega
   . rw[Q09,hy];rfl
 . have ei:i=m:=by omega
   subst ei;refine .inl ⟨⟨_,d_.of aj,by rw[Q03];omega⟩,λp' ah=>?_⟩;have e3:(i:Int) * ck d<=3 * ck d:=Q1o (by omega) (by omega);refine⟨p',ys,rfl,.inl ⟨d_.of eW,λt ht=>?_⟩⟩;have ao:p'≠b:=λz=>by rw[z,ai] at ah;cases ah
   have am:upd H' p' (.lst ys) b=some (.lst [.int n']):=by rw[eU (Ne.symm ao)];exact ai
   have tu:Tu H' (upd (upd H' p' (.lst ys)) t (.tup ys)):=λc xs h=>by
    rw[eU (ff (show upd H' p' (.lst ys) c=some (.tup xs) by rw[eU (ff h ah)];exact h) ht),eU (ff h ah)];exact h
   have an:ss.take i=ss:=by rw[<-hl,Q0z]
   refine q t ys fs n' _ (sb.trans ((SB.new ah).trans (SB.new ht))) (by rw[eU (ff am ht)];exact am) z1 (by omega) eW (FA.mono tu fs hf) ?_ ?_ av hW
   . rw[ak,an];exact ar
   . rw[ak,an];exact hl
noncomputable def σR (a b:Addr) (m d:Nat) (p:Addr) (r:Int) (I:Addr) (x y z:Option V):St:=
 [some (.ref a),some (.ref b),some (.int m),some (.int d),some (.ref p),some (.int r),some (.int (r % m)),some (.int (r / m % (m+1))),some (.ref I),x,y,z]
theorem p9 {ss:List Str}{z:Int}(I:0<=z)(h1:z<ss.length):∃x:Str,gW (ss.map V.str) z=some (.str x)/\ss[z.toNat]? =some x:=by
 obtain⟨j,rfl⟩:∃j:Nat,z=(j:Int):=⟨z.toNat,by omega⟩;exact⟨ss[j]'(by omega),gL (by rw[Q0j,Q02 (by omega)];rfl),by rw[Q1u];exact Q02 (by omega)⟩
theorem Fs.Cd:∀{fs:Fs}{x:Str}{k:Kd}{j:Nat}{y:Str}{q:Kd},fs.at j=some (y,q)->(fs.snoc x k).at j=some (y,q)
 | .nil,_,_,_,_,_,h=>by cases h
 | .cons _ _ _,_,_,0,_,_,h=>h
 | .cons _ _ r,x,k,j+1,y,q,h=>Fs.Cd (fs:=r) (j:=j) h
theorem Fs.Ce:∀{fs:Fs}{x:Str}{k:Kd},(fs.snoc x k).at fs.names.length=some (x,k)
 | .nil,_,_=>rfl
 | .cons _ _ r,x,k=>Fs.Ce (fs:=r)
theorem HX:f_ ["_law_script","_law_at","_law_many","_law_deep","_law_names_here","_law_m","_law_lead","_law_by","_law_fields_here","_law_k","_law_kind_here","_law_name"] XH (fo (top 31)):=gz
theorem u3 (d:Nat)(T:Tb mg)(L:Dn K mg "_law_rows_kind" jx (top 31) U Y)(ac:Dn K mg "_law_names" kz (top 28) ae af)(ag:eZ P w K mg base e_ (2) ae af kz (p7 K))(am:Dn K mg "_law_next" fJ (top 25) an ao)(ap:eZ P w K mg base e_ (1) an ao fJ (kB K))(ah:Dn K mg "_law_plain" fJ (top 29) ai aj)(ak:eZ P w K mg base e_ (2) ai aj fJ (p6 K))(aq:Dn K mg "_law_kind" iP (top 32) ar au)(av:eZ P w K mg base e_ (2 * d+4) ar au iP (ng K d)):
 eZ P w K mg base e_ (2 * d+5) U Y jx (rX K d):=by
 refine L.F.ok HX λvs H Q E h=>?_;obtain⟨a,b,ns,n,m,rfl,bn,hm,g,hn,q⟩:=h;refine⟨rfl,λbo A outer s nd hr hu=>?_⟩;have bp:(0:Int)<=(m:Int) * (ck d+1):=Int.mul_nonneg (by omega) (by omega)
 refine⟨_,(eV (fj 4 nd (fx ag hr ac (a_ (pv 0) (a_ (pv 1) (a_ (pv 2) c_)))))
  (eV (fj 5 nd (fx ap hr am (a_ (pv 0) (a_ (pv 1) c_))))
  (eV (fj 6 nd (eY fM (pv 5) (pv 2)))
  (eV (fj 7 nd (eY fM (eY gJ (pv 5) (pv 2)) (eY iq (pv 2) b_)))
  (eV (fj 8 nd (gu c_))
  (eV (jc PassesOwn.never rfl (mF rfl T.lZ (a_ (pv 2) c_)) (gq (i:=9) nd rfl gO) (eV (fj 10 nd (fx av hr aq (a_ (pv 0) (a_ (pv 1) (a_ (pv 3) c_)))))
  (eV (fA (PW.pt (jb (fw gg (pv 9) (pv 6) (fv _)) (jt (fw gg (pv 9) (pv 7) (fv _))))) (fc (fj 10 nd (fx ak hr ah (a_ (pv 0) (a_ (pv 1) c_))))) fy)
  (fc (kI (mP PySem.F.plainAttrs_list PySem.F.slot_list_append PySem.F.type_list_append nU (pv 8) (a_ (gi (a_ (gC (pv 4) (pv 9)) (a_ (pv 10) c_))) c_)))))))
  (eV (fj 11 nd fV)
  (eV (fA (PW.pt (lb (fw qH (pv 7) (pv 2) (fv _)) (lP (fw jV (pv 7) (pv 6) (fv _))))) (fc (fj 11 nd (gC (pv 4) (pv 7)))) fy)
  (fc (fg (gi (a_ fV (a_ (gC (pv 4) (pv 6)) (a_ (pv 11) (a_ (mO qM (by rfl) T.oq boot_tuple (a_ (pv 8) c_)) c_))))))))))))))),?_⟩
 ac_rfl
 refine(Zr rfl (Zr rfl (Zr rfl ⟨a,b,ns,n,m,rfl,by omega,g,by omega,λp ss H1 s1 h1 aA hp hl a7 a8 _=>?_⟩)));refine(Zr rfl (Zr rfl ⟨a,b,ns,n+1,rfl,g.go s1 h1 (by omega),by omega,λr H2 r0 r1 s2 h2=>?_⟩));have aK:H2 p=some (.lst (ss.map V.str)):=s2 p _ aA hp;have aT:SB b H H2:=s1.trans s2;refine(Zr rfl (Zr rfl ⟨_,Zr rfl ⟨rfl,by omega,?_⟩⟩));refine(Zr rfl (Zr rfl ⟨_,Zr rfl ⟨rfl,⟨by omega,by omega⟩,Zr rfl ⟨_,Zr rfl ⟨rfl,_,Zr rfl ⟨rfl,by omega,?_⟩⟩⟩⟩⟩));refine⟨pU,λI aB=>?_⟩;have aa:I≠b:=λz=>by rw[z,h2] at aB;cases aB
 have aU:p≠I:=λz=>by rw[z,aB] at aK;cases aK
 have a3:∀o,H I=some o->False:=λo ho=>by
  have:=aT I o aa ho;rw[aB] at this;cases this
 have em:Int.toNat (m:Int)=m:=by omega
 refine(Zr rfl (Zr rfl ⟨by omega,by omega,lQ (n:=Int.toNat (m:Int)) (λi σ H'=>∃(x y z:Option V) (n':Int) (ys:List V) (fs:Fs),σ=σR a b m d p r I x y z/\SB b H H'/\H' b=some (.lst [.int n'])/\n<=n'/\n'<=n+2+i * (ck d+1)/\
  H' p=some (.lst (ss.map V.str))/\H' I=some (.lst ys)/\FA H' ys fs/\fs.dep<=d+1/\ys.length=i/\fs.W/\fs.names=ss.take i/\∀j:Nat,j<i->((j:Int)=r % m\/(j:Int)=r / m % (m+1))->∃y q,fs.at j=some (y,q)/\lX q) ?_ ?_ ?_⟩))
 . refine⟨_,_,_,n+1+1,[],.nil,rfl,aT.trans (SB.new aB),by rw[eU (Ne.symm aa)];exact h2,by omega,by omega,by rw[eU aU];exact aK,eW,by unfold FA;rfl,by simp[Fs.dep],rfl,by unfold Fs.W;trivial,rfl,λj hj=>absurd hj (by omega)⟩
 . intro i σ H' hi zq;obtain⟨x,y,z,n',ys,fs,rfl,sb,ax,z1,z2,al,J,aG,a9,hy,hW,aH,aI⟩:=zq;rw[em] at hi
   have e1:((i+1:Nat):Int) * (ck d+1)=(i:Int) * (ck d+1)+(ck d+1):=by
    rw[Q21,Q22];simp
   have ba:((i+1:Nat):Int) * (ck d+1)<=(m:Int) * (ck d+1):=Q1o (by omega) (by omega);rw[e1] at ba;have aC:ys.length<sizeLine:=ig (by omega);have bb:∃q:Str,gW (ss.map V.str) ((0:Int)+(i:Int))=some (.str q)/\ss[((0:Int)+(i:Int)).toNat]? =some q:=p9 (by omega) (by omega);obtain⟨nm,aD,aw⟩:=bb
   have aw:ss[i]? =some nm:=by
    rw[show((0:Int)+(i:Int)).toNat=i by omega] at aw;exact aw
   have bc:fs.names.length=i:=by rw[<-FA.len fs aG];exact hy
   have next:∀(x' y' z':Option V) (v:V) (k:Kd) (n2:Int) (H3:Hp) (t:Addr),SB b H' H3->H3 b=some (.lst [.int n2])->n'<=n2->n2<=n'+(ck d+1)->KA H3 v k->k.dep<=d+1->k.W->(((i:Int)=r % m\/(i:Int)=r / m % (m+1))->lX k)->H3 t=none->
    ∃(x y z:Option V) (n':Int) (aL:List V) (fs:Fs),σR a b m d p r I x' y' z'=σR a b m d p r I x y z/\SB b H (upd (upd H3 t (.tup [.str nm,v])) I (.lst (ys++[.ref t])))/\(upd (upd H3 t (.tup [.str nm,v])) I (.lst (ys++[.ref t]))) b=some (.lst [.int n'])/\n<=n'/\
     n'<=n+2+((i+1:Nat):Int) * (ck d+1)/\(upd (upd H3 t (.tup [.str nm,v])) I (.lst (ys++[.ref t]))) p=some (.lst (ss.map V.str))/\(upd (upd H3 t (.tup [.str nm,v])) I (.lst (ys++[.ref t]))) I=some (.lst aL)/\
     FA (upd (upd H3 t (.tup [.str nm,v])) I (.lst (ys++[.ref t]))) aL fs/\fs.dep<=d+1/\aL.length=i+1/\fs.W/\fs.names=ss.take (i+1)/\∀j:Nat,j<i+1->((j:Int)=r % m\/(j:Int)=r / m % (m+1))->∃y q,fs.at j=some (y,q)/\lX q:=by
    intro x' y' z' v k n2 H3 t s3 h3 w1 w2 hk aV aM bd ht;have aW:H3 I=some (.lst ys):=s3 I _ aa J;have aX:H3 p=some (.lst (ss.map V.str)):=s3 p _ aA al;have be:t≠I:=λz=>by rw[z,aW] at ht;cases ht
    have bf:t≠b:=λz=>by rw[z,h3] at ht;cases ht
    have bg:t≠p:=λz=>by rw[z,aX] at ht;cases ht
    have aY:Tu H3 (upd (upd H3 t (.tup [.str nm,v])) I (.lst (ys++[.ref t]))):=λc xs h=>by
     rw[eU (gN h aW (by intro z;cases z)),eU (ff h ht)];exact h
    have p_:upd (upd H3 t (.tup [.str nm,v])) I (.lst (ys++[.ref t])) t=some (.tup [.str nm,v]):=by rw[eU be];exact eW
    refine⟨x',y',z',n2,ys++[.ref t],fs.snoc nm k,rfl,λc o hc hh=>?_,?_,by omega,by rw[e1];omega,?_,eW,FA.snoc p_ (KA.mono aY k hk) fs (FA.mono ((s3.tu ax).trans aY) fs aG),by rw[Fs.uM];omega,by rw[Q09,hy];rfl,Fs.uN aM (a8 _ (Q0r aw)) hW,by rw[Fs.uL,aH,Q0q,aw];rfl,λj hj az=>?_⟩
    . have q1:=s3 c o hc (sb c o hc hh);by_cases e:c=I
      . subst e;exact(a3 o hh).elim
      . rw[eU e,eU (ff q1 ht)];exact q1
    . rw[eU (Ne.symm aa),eU (Ne.symm bf)];exact h3
    . rw[eU aU,eU (Ne.symm bg)];exact aX
    . by_cases e:j<i
      . obtain⟨y,q,e1,e2⟩:=aI j e az;exact⟨y,q,Fs.Cd e1,e2⟩
      . have:j=i:=by omega
        subst this;exact⟨nm,k,by have:=Fs.Ce (fs:=fs) (x:=nm) (k:=k);rwa [bc] at this,bd az⟩
   refine(Zr rfl (Zr rfl (Zr rfl ⟨a,b,ns,n',rfl,g.go sb ax z1,by omega,λv k n2 H3 s3 h3 w1 w2 hk aV aM=>?_⟩)));refine(Zr rfl (Zr rfl ⟨rfl,Zr rfl ?_⟩));refine gm (λc=>fY ?_) (λcL=>(Zr rfl (Zr rfl ⟨rfl,Zr rfl (gm (λc=>?_) (λc=>?_))⟩)))
   . refine(Zr rfl (Zr rfl ⟨a,b,ns,n2,rfl,(g.go sb ax z1).go s3 h3 w1,by omega,λv' k' H4 s4 h4 aP a4 aE aF=>?_⟩));have ab:=s3.trans s4;refine(Zr rfl ⟨.inl ⟨rfl,_,d_.of (ab I _ aa J)⟩,Zr rfl (Zr rfl ⟨p,_,_,Zr rfl ⟨rfl,d_.of (ab p _ aA al),aD,Zr rfl ⟨gE,λt ht=>?_⟩⟩⟩)⟩);refine⟨I,_,Zr rfl ⟨rfl,by rw[eU (ff (ab I _ aa J) ht)];exact ab I _ aa J,aC,?_⟩⟩;exact next _ _ _ v' k' _ H4 t ab h4 (by omega) (by omega) aP (by omega) aF (λ_=>aE) ht
   . refine(Zr rfl (Zr rfl ⟨a,b,ns,n2,rfl,(g.go sb ax z1).go s3 h3 w1,by omega,λv' k' H4 s4 h4 aP a4 aE aF=>?_⟩));have ab:=s3.trans s4;refine(Zr rfl ⟨.inl ⟨rfl,_,d_.of (ab I _ aa J)⟩,Zr rfl (Zr rfl ⟨p,_,_,Zr rfl ⟨rfl,d_.of (ab p _ aA al),aD,Zr rfl ⟨gE,λt ht=>?_⟩⟩⟩)⟩);refine⟨I,_,Zr rfl ⟨rfl,by rw[eU (ff (ab I _ aa J) ht)];exact ab I _ aa J,aC,?_⟩⟩;exact next _ _ _ v' k' _ H4 t ab h4 (by omega) (by omega) aP (by omega) aF (λ_=>aE) ht
   . refine(Zr rfl ⟨.inl ⟨rfl,_,d_.of (s3 I _ aa J)⟩,Zr rfl (Zr rfl ⟨p,_,_,Zr rfl ⟨rfl,d_.of (s3 p _ aA al),aD,Zr rfl ⟨gE,λt ht=>?_⟩⟩⟩)⟩);refine⟨I,_,Zr rfl ⟨rfl,by rw[eU (ff (s3 I _ aa J) ht)];exact s3 I _ aa J,aC,?_⟩⟩;refine next _ _ _ v k _ H3 t s3 h3 (by omega) (by omega) hk aV aM (λaz=>?_) ht
     exact(by
      rcases az with e|e
      . exact absurd (decide_eq_true (show V.int ((0:Int)+(i:Int))=V.int (r % m) by rw[<-e];congr 1;omega)) cL
      . exact absurd (decide_eq_true (show V.int ((0:Int)+(i:Int))=V.int (r / m % (m+1)) by rw[<-e];congr 1;omega)) c)
 . intro σ H' zq;obtain⟨x,y,z,n',ys,fs,rfl,sb,ax,z1,z2,al,J,aG,a9,hy,hW,aH,aI⟩:=zq;rw[em] at z2 hy aI aH;have l0:0<=r % (m:Int):=Q0i _ (by omega);have l1:r % (m:Int)<m:=Q0k _ (by omega);have b0:0<=r / (m:Int) % ((m:Int)+1):=Q0i _ (by omega);obtain⟨xk,aQ,bh⟩:=p9 (ss:=ss) l0 (by omega);have ay:fs.names=ss:=by rw[aH,<-hl,Q0z]
   have aZ:fs.names.Nodup:=by rw[ay];exact a7
   have pl:∀(z:Int) (x:Str),0<=z->z<m->(z=r % m\/z=r / m % (m+1))->ss[z.toNat]? =some x->fs.pl x:=λz x h0 h1 az hx=>by
    obtain⟨y,q,e1,e2⟩:=aI z.toNat (by omega) (by rw[Int.toNat_of_nonneg h0];exact az);have a1:=Fs.kx fs z.toNat;rw[e1,ay,hx] at a1;have e3:some x=some y:=a1
    cases e3;exact⟨q,Fs.lE aZ e1,e2⟩
   have bi:fs.pl xk:=pl _ _ l0 l1 (.inl rfl) bh;have aJ:fs.names.length<=12:=by rw[ay,hl];omega
   have fin:∀(nm:Str),(nm=""\/fs.pl nm)->∀(t:Addr),H' t=none->∀v:Addr,upd H' t (.tup ys) v=none->Q (.ref v) (upd (upd H' t (.tup ys)) v (.tup [.str "rows",.str xk,.str nm,.ref t])):=by
    intro nm bj t ht v hv;have bm:v≠t:=λz=>by rw[z,eW] at hv;cases hv
    have tu:Tu H' (upd (upd H' t (.tup ys)) v (.tup [.str "rows",.str xk,.str nm,.ref t])):=λc xs h=>by
     have e:upd H' t (.tup ys) c=some (.tup xs):=by rw[eU (ff h ht)];exact h
     rw[eU (ff e hv)];exact e
    have a2:upd H' t (.tup ys) b=some (.lst [.int n']):=by rw[eU (ff ax ht)];exact ax
    refine q (.ref v) xk nm fs n' _ (sb.trans ((SB.new ht).trans (SB.new hv))) (by rw[eU (ff a2 hv)];exact a2) z1 (by omega) ?_ (by simp only[Kd.dep];omega) (by unfold Kd.W;exact⟨aZ,aJ,hW,bi,bj⟩) (by rw[ay,hl]);unfold KA;exact⟨v,t,ys,rfl,eW,by rw[eU (Ne.symm bm)];exact eW,FA.mono tu fs aG⟩
   refine(Zr rfl (Zr rfl ⟨_,Zr rfl ⟨rfl,Zr rfl ?_⟩⟩));refine gm (λc=>(Zr rfl (Zr rfl ⟨rfl,Zr rfl (gm (λc2=>?_) (λc2=>?_))⟩))) (λc=>fL ?_)
   . have c':r / (m:Int) % ((m:Int)+1)<m:=of_decide_eq_true c;obtain⟨nm,a5,a6⟩:=p9 (ss:=ss) b0 (by omega);refine(Zr rfl (Zr rfl ⟨p,_,_,Zr rfl ⟨rfl,d_.of al,a5,?_⟩⟩));exact(Zr rfl (Zr rfl ⟨p,_,_,Zr rfl ⟨rfl,d_.of al,aQ,Zr rfl (Zr rfl ⟨I,ys,rfl,.inl ⟨d_.of J,λt ht=>⟨pV,λv hv=>fin nm (.inr (pl _ _ b0 c' (.inr rfl) a6)) t ht v hv⟩⟩⟩)⟩⟩))
   . exact(Zr rfl (Zr rfl ⟨p,_,_,Zr rfl ⟨rfl,d_.of al,aQ,Zr rfl (Zr rfl ⟨I,ys,rfl,.inl ⟨d_.of J,λt ht=>⟨pV,λv hv=>fin _ (.inl rfl) t ht v hv⟩⟩⟩)⟩⟩))
   . exact(Zr rfl (Zr rfl ⟨p,_,_,Zr rfl ⟨rfl,d_.of al,aQ,Zr rfl (Zr rfl ⟨I,ys,rfl,.inl ⟨d_.of J,λt ht=>⟨pV,λv hv=>fin _ (.inl rfl) t ht v hv⟩⟩⟩)⟩⟩))
theorem HY (d:Nat)(T:Tb mg)(I:Dn K mg "_law_rows_kind" jx (top 31) J L)(U:Dn K mg "_law_names" kz (top 28) Y aa)(ab:eZ P w K mg base e_ (2) Y aa kz (p7 K))(ah:Dn K mg "_law_next" fJ (top 25) ai aj)(ak:eZ P w K mg base e_ (1) ai aj fJ (kB K))(ac:Dn K mg "_law_plain" fJ (top 29) ae af)(ag:eZ P w K mg base e_ (2) ae af fJ (p6 K))(al:Dn K mg "_law_kind" iP (top 32) am an)(ao:eZ P w K mg base e_ (2 * d+4) am an iP (ng K d)):
 eZ P w K mg base e_ (2 * d+5) J L jx (B9 K d):=(u3 d T I U ab ah ak ac ag al ao).imp λvs H Q E h=>by
 obtain⟨a,b,ns,n,m,e,h1,h3,g,hn,q⟩:=h;have e3:(m:Int) * (ck d+1)<=3 * (ck d+1):=Q1o (by omega) (by omega);exact⟨a,b,ns,n,m,e,h1,by omega,g,by omega,λv key by_ fs n' H' s h0 l1 l2 k kd kw _=>q v _ n' H' s h0 l1 (by omega) k kd kw⟩
theorem Cf:f_ ["_law_script","_law_at","_law_deep","_law_m"] XU (fo (top 32)):=gz
theorem HZ (T:Tb mg)(Y:Dn K mg "_law_kind" iP (top 32) aa ab)(ac:Dn K mg "_law_next" fJ (top 25) ae af)(ag:eZ P w K mg base e_ (1) ae af fJ (kB K))(I:Dn K mg "_law_plain" fJ (top 29) J L)(U:eZ P w K mg base e_ (2) J L fJ (p6 K)):eZ P w K mg base e_ (2 * 0+4) aa ab iP (ng K 0):=by
 refine Y.F.ok Cf λvs H Q E h=>?_;obtain⟨a,b,ns,n,rfl,g,hn,q⟩:=h;refine⟨rfl,λai A outer s nd hr hu=>?_⟩;have ah:ck 0=2:=rfl;rw[ah] at hn q
 refine⟨_,(eV (fj 3 nd (fx ag hr ac (a_ (pv 0) (a_ (pv 1) c_))))
  (eV (fA (PW.pt (jb (fw Ah (pv 2) b_ (fv _)) (jt Gv))) (fc (fg (fx U hr I (a_ (pv 0) (a_ (pv 1) c_))))) fy) Fc)),?_⟩
 ac_rfl
 refine(Zr rfl (Zr rfl ⟨a,b,ns,n,rfl,g,by omega,λr H1 r0 r1 s1 h1=>?_⟩));refine(Zr rfl ⟨_,Zr rfl ⟨rfl,Zr rfl ?_⟩⟩);refine gm (λc=>fY ?_) (λc=>(c (by decide)).elim);refine(Zr rfl (Zr rfl ⟨a,b,ns,n+1,rfl,g.go s1 h1 (by omega),by omega,λv k H2 s2 h2 hk hd hp hw=>?_⟩));exact q v k (n+1+1) H2 (s1.trans s2) h2 (by omega) (by omega) hk (by omega) hw
theorem H_ (d:Nat)(T:Tb mg)(L:Dn K mg "_law_kind" iP (top 32) U Y)(al:Dn K mg "_law_next" fJ (top 25) am an)(ao:eZ P w K mg base e_ (1) am an fJ (kB K))(ah:Dn K mg "_law_plain" fJ (top 29) ai aj)(ak:eZ P w K mg base e_ (2) ai aj fJ (p6 K))(I:Dn K mg "_law_fields" jx (top 30) af ag)(J:eZ P w K mg base e_ (2 * d+5) af ag jx (B8 K d))(aa:Dn K mg "_law_rows_kind" jx (top 31) ab ac)(ae:eZ P w K mg base e_ (2 * d+5) ab ac jx (B9 K d))
 (ap:eZ P w K mg base e_ (2 * d+4) U Y iP (ng K d)):eZ P w K mg base e_ (2 * (d+1)+4) U Y iP (ng K (d+1)):=by
 refine L.F.ok Cf λvs H Q E h=>?_;obtain⟨a,b,ns,n,rfl,g,hn,q⟩:=h;refine⟨rfl,λaw A outer s nd hr hu=>?_⟩
 have aq:(ck (d+1):Int)=3 * ck d+6:=by
  have:ck (d+1)=3 * ck d+6:=rfl;omega
 rw[aq] at hn
 refine⟨_,(eV (fj 3 nd (fx ao hr al (a_ (pv 0) (a_ (pv 1) c_))))
  (eV (fA (PW.pt (jb (fw Ah (pv 2) b_ (fv _)) (jt (fw qH (eY fM (pv 3) b_) b_ (fv _))))) (fc (fg (fx ak hr ah (a_ (pv 0) (a_ (pv 1) c_))))) fy)
  (eV (fA (fw qH (eY fM (pv 3) b_) b_ (fv _)) (fc (fg (gi (a_ fV (a_ (fx J hr I (a_ (pv 0) (a_ (pv 1) (a_ (eY fM (eY gJ (pv 3) b_) b_) (a_ (eY jd (pv 2) b_) c_))))) c_))))) fy)
  (eV (fA (fw qH (eY fM (pv 3) b_) b_ (fv _)) (fc (fg (fx ae hr aa (a_ (pv 0) (a_ (pv 1) (a_ (eY iq b_ (eY fM (eY gJ (pv 3) b_) b_)) (a_ (eY jd (pv 2) b_) c_))))))) fy)
  (eV (fA (fw gg (eY fM (pv 3) b_) b_ (fv _)) (fc (fg (gi (a_ fV (a_ (fx ap hr L (a_ (pv 0) (a_ (pv 1) (a_ (eY jd (pv 2) b_) c_)))) c_))))) fy)
  (fc (fg (gi (a_ fV (a_ (fx J hr I (a_ (pv 0) (a_ (pv 1) (a_ (eY iq b_ (eY fM (eY gJ (pv 3) b_) b_)) (a_ (eY jd (pv 2) b_) c_))))) c_)))))))))),?_⟩
 ac_rfl
 refine(Zr rfl (Zr rfl ⟨a,b,ns,n,rfl,g,by omega,λr H1 r0 r1 s1 h1=>?_⟩));have g1:=g.go s1 h1 (by omega);have e2:(((d+1:Nat):Int)) - 1=(d:Int):=by omega
 have e0:(if decide ((((d+1:Nat):Int))<=0)=true then True else False)=False:=by
  rw[if_neg (by rw[decide_eq_true_iff];omega)]
 refine(Zr rfl ⟨_,Zr rfl ⟨rfl,Zr rfl (gm (λc=>?_) (λc=>?_))⟩⟩)
 . exact absurd (of_decide_eq_true c) (by omega)
 refine(Zr rfl ⟨_,Zr rfl ⟨rfl,(by show(0:Int)<_;decide),_,Zr rfl ⟨rfl,Zr rfl (gm (λc1=>?_) (λc1=>?_))⟩⟩⟩)
 . refine(Zr rfl (Zr rfl ⟨a,b,ns,n+1,rfl,g1,by omega,λv k H2 s2 h2 hk hd hp hw=>?_⟩));exact q v k (n+1+1) H2 (s1.trans s2) h2 (by omega) (by rw[aq];omega) hk (by omega) hw
 refine(Zr rfl ⟨_,Zr rfl ⟨rfl,(by show(0:Int)<_;decide),_,Zr rfl ⟨rfl,Zr rfl (gm (λc2=>?_) (λc2=>?_))⟩⟩⟩)
 . obtain⟨m,hm⟩:∃m:Nat,r / 10 % 4=(m:Int):=⟨(r / 10 % 4).toNat,by omega⟩;refine(Zr rfl (Zr rfl (Zr rfl ⟨_,Zr rfl ⟨rfl,⟨by decide,by decide⟩,_,Zr rfl ⟨rfl,(by show(0:Int)<_;decide),Zr rfl ⟨_,Zr rfl ⟨rfl,a,b,ns,n+1,m,(by show [V.ref a,V.ref b,V.int (r / 10 % 4),V.int (((d+1:Nat):Int) - 1)]=_;rw[hm,e2]),by omega,g1,by omega,λt xs fs n' H2 s2 h2 w1 w2 ht ar au hl av hW=>?_⟩⟩⟩⟩⟩)));refine⟨gE,λv hv=>?_⟩;have tu:Tu H2 (upd H2 v (.tup [.str "record",.ref t])):=λc ys h=>by rw[eU (ff h hv)];exact h
   refine q (.ref v) (.fT fs) n' _ (s1.trans (s2.trans (SB.new hv))) (by rw[eU (ff h2 hv)];exact h2) (by omega) (by rw[aq];omega) ?_ (by simp only[Kd.dep];omega) (by unfold Kd.W;exact⟨au,by omega,hW⟩);unfold KA;exact⟨v,t,xs,rfl,eW,tu _ _ ht,FA.mono tu fs ar⟩
 refine(Zr rfl ⟨_,Zr rfl ⟨rfl,(by show(0:Int)<_;decide),_,Zr rfl ⟨rfl,Zr rfl (gm (λc3=>?_) (λc3=>?_))⟩⟩⟩)
 . obtain⟨m,hm⟩:∃m:Nat,1+r / 10 % 3=(m:Int):=⟨(1+r / 10 % 3).toNat,by omega⟩;refine(Zr rfl (Zr rfl (Zr rfl ⟨_,Zr rfl ⟨rfl,⟨by decide,by decide⟩,_,Zr rfl ⟨rfl,(by show(0:Int)<_;decide),_,Zr rfl ⟨rfl,Zr rfl ⟨_,Zr rfl ⟨rfl,a,b,ns,n+1,m,(by show [V.ref a,V.ref b,V.int (1+r / 10 % 3),V.int (((d+1:Nat):Int) - 1)]=_;rw[hm,e2]),by omega,by omega,g1,by omega,λv k n' H2 s2 h2 w1 w2 hk av hw=>?_⟩⟩⟩⟩⟩⟩)));exact q v k n' H2 (s1.trans s2) h2 (by omega) (by rw[aq];omega) hk (by omega) hw
 refine(Zr rfl ⟨_,Zr rfl ⟨rfl,(by show(0:Int)<_;decide),rfl,Zr rfl (gm (λc4=>?_) (λc4=>?_))⟩⟩)
 . refine(Zr rfl (Zr rfl (Zr rfl ⟨_,Zr rfl ⟨rfl,a,b,ns,n+1,(by show [V.ref a,V.ref b,V.int (((d+1:Nat):Int) - 1)]=_;rw[e2]),g1,by omega,λu k n' H2 s2 h2 w1 w2 hk av hw=>?_⟩⟩)));refine⟨gE,λv hv=>?_⟩;have tu:Tu H2 (upd H2 v (.tup [.str "tree",u])):=λc ys h=>by rw[eU (ff h hv)];exact h
   refine q (.ref v) (.tree k) n' _ (s1.trans (s2.trans (SB.new hv))) (by rw[eU (ff h2 hv)];exact h2) (by omega) (by rw[aq];omega) ?_ (by simp only[Kd.dep];omega) (by unfold Kd.W;exact hw);unfold KA;exact⟨v,u,rfl,eW,KA.mono tu k hk⟩
 . obtain⟨m,hm⟩:∃m:Nat,1+r / 10 % 3=(m:Int):=⟨(1+r / 10 % 3).toNat,by omega⟩;refine(Zr rfl (Zr rfl (Zr rfl ⟨_,Zr rfl ⟨rfl,⟨by decide,by decide⟩,_,Zr rfl ⟨rfl,(by show(0:Int)<_;decide),_,Zr rfl ⟨rfl,Zr rfl ⟨_,Zr rfl ⟨rfl,a,b,ns,n+1,m,(by show [V.ref a,V.ref b,V.int (1+r / 10 % 3),V.int (((d+1:Nat):Int) - 1)]=_;rw[hm,e2]),by omega,g1,by omega,λt xs fs n' H2 s2 h2 w1 w2 ht ar au hl av hW=>?_⟩⟩⟩⟩⟩⟩)));refine⟨gE,λv hv=>?_⟩;have tu:Tu H2 (upd H2 v (.tup [.str "either",.ref t])):=λc ys h=>by rw[eU (ff h hv)];exact h
   refine q (.ref v) (.gZ fs) n' _ (s1.trans (s2.trans (SB.new hv))) (by rw[eU (ff h2 hv)];exact h2) (by omega) (by rw[aq];omega) ?_ (by simp only[Kd.dep];omega) (by unfold Kd.W;exact⟨au,by omega,by omega,hW⟩);unfold KA;exact⟨v,t,xs,rfl,eW,tu _ _ ht,FA.mono tu fs ar⟩
theorem kind_all (T:Tb mg)(L:Dn K mg "_law_kind" iP (top 32) ab ac)(I:Dn K mg "_law_next" fJ (top 25) am an)(J:Dn K mg "_law_plain" fJ (top 29) ai aj)(Y:Dn K mg "_law_names" kz (top 28) ak al)(aa:Dn K mg "_law_fields" jx (top 30) ag ah)(U:Dn K mg "_law_rows_kind" jx (top 31) ae af):∀d:Nat,eZ P w K mg base e_ (2 * d+4) ab ac iP (ng K d)
 |0=>HZ T L I (rW (p8 T I)) J (uZ T J I (rW (p8 T I)))
 |d+1=>by
  have N:=rW (p8 (P:=P) (w:=w) (base:=base) T I);have Pl:=uZ T J I N;have Nm:=Cc T Y I N;have ih:=kind_all T L I J Y aa U d;have Fd:=HW d T aa Y Nm L ih;have Rw:=HY d T U Y Nm I N J Pl L ih;exact H_ d T L I N J Pl aa Fd U Rw ih
theorem Cg (ns:List Int)(x:Str)(k:Kd)(room:Nat):∀(fs:Fs) (n:Int),fE ns (fs.snoc x k) room n=((fE ns fs room n).1.snoc x (val ns k room (fE ns fs room n).2).1,(val ns k room (fE ns fs room n).2).2)
 | .nil,n=>by
   show fE ns (.cons x k .nil) room n=_;simp only[fE,Ds.snoc]
 | .cons y q r,n=>by
   show fE ns (.cons y q (r.snoc x k)) room n=_;simp only[fE,Ds.snoc];rw[Cg ns x k room r]
theorem Ci (g:Int->D × Int):∀(m:Nat) (n:Int),times g (m+1) n=((times g m n).1.snoc "" (g (times g m n).2).1,(g (times g m n).2).2)
 |0,n=>by simp only[times,Ds.snoc]
 |m+1,n=>by
  have I:=Ci g m (g n).2;show(Ds.cons "" (g n).1 (times g (m+1) (g n).2).1,(times g (m+1) (g n).2).2)=_;rw[I];simp only[times,Ds.snoc]
theorem u4 {g h:Int->D × Int}(e:∀n,g n=h n):∀(m:Nat) (n:Int),times g m n=times h m n
 |0,n=>rfl
 |m+1,n=>by
  simp only[times];rw[e n,u4 e m]
theorem l5 {ns:List Int}{f:Nat->Int->D × Int}:∀(fu room:Nat) (n:Int),room<2 ^ fu->g_ ns f (fu+1) room n=g_ ns f (fu+2) room n
 |0,room,n,h=>by
  have e:room=0:=by simpa using h
  subst e
  have I:(nx ns ((f (0 / 2) n).2+1) % (((0:Nat):Int)+1)).toNat=0:=by
   have:nx ns ((f (0 / 2) n).2+1) % (((0:Nat):Int)+1)=0:=by
    show _ % (1:Int)=0;exact Int.emod_one _
   rw[this];rfl
  unfold g_;rw[I];rfl
 |fu+1,room,n,h=>by
  have J:=λm=>l5 (ns:=ns) (f:=f) fu (room / 2) m (by rw[Nat.pow_succ] at h;omega);show(pairD (f (room / 2) n).1 (.lst (times (g_ ns f (fu+1) (room / 2)) _ _).1),(times (g_ ns f (fu+1) (room / 2)) _ _).2)=(pairD (f (room / 2) n).1 (.lst (times (g_ ns f (fu+2) (room / 2)) _ _).1),(times (g_ ns f (fu+2) (room / 2)) _ _).2);rw[u4 J]
theorem Ia (ns:List Int)(k:Kd)(room:Nat)(n:Int)(h:room<8):val ns (.tree k) room n=
 (pairD (val ns k (room / 2) n).1 (.lst (times (val ns (.tree k) (room / 2)) (nx ns ((val ns k (room / 2) n).2+1) % ((room:Int)+1)).toNat ((val ns k (room / 2) n).2+1)).1),
   (times (val ns (.tree k) (room / 2)) (nx ns ((val ns k (room / 2) n).2+1) % ((room:Int)+1)).toNat ((val ns k (room / 2) n).2+1)).2):=by
 have e:∀m,val ns (.tree k) (room / 2) m=g_ ns (val ns k) 3 (room / 2) m:=λm=>by
  show g_ ns (val ns k) 4 (room / 2) m=_;exact(l5 2 (room / 2) m (by show _<4;omega)).symm
 rw[u4 e];simp only[val,g_]
theorem u5 {g:Int->Ds × Int}{key:Str}:∀(m:Nat) (I:List Ds) (n:Int),gB g key (m+1) I n=
 (if lY key (gB g key m I n).1 (keyOf (g (gB g key m I n).2).1 key)=true then((gB g key m I n).1,(g (gB g key m I n).2).2) else((gB g key m I n).1++[(g (gB g key m I n).2).1],(g (gB g key m I n).2).2))
 |0,I,n=>by
  simp only[gB]
  first
   |rfl
   |(by_cases c:lY key I (keyOf (g n).1 key)=true <;> simp[c])
 |m+1,I,n=>by
  rw[gB];split
  . rename_i c;rw[u5 m I]
    conv=>rhs;rw[gB]
    simp only[c,if_true]
  . rename_i c;rw[u5 m (I++[(g n).1])]
    conv=>rhs;rw[gB]
    simp only[c,if_false];rfl
noncomputable def mu:Kd->Nat->Nat
 | .rows key by_ fs,room=>(2 * (fs.dep+1)+1) * 8+room
 |k,room=>(2 * k.dep) * 8+room
theorem u6 (k:Kd)(room:Nat):mu k room<=(2 * k.dep+1) * 8+room:=by
 cases k <;> simp only[mu,Kd.dep] <;> omega
theorem u7 {k J:Kd}{room I:Nat}(h:k.dep<J.dep)(L:room<8):mu k room<mu J I:=by
 have:=u6 k room
 cases J <;> simp only[mu,Kd.dep] at * <;> omega
noncomputable def gr (room:Nat):Nat:=if room=0 then 1 else if room=1 then 9 else if room<4 then 73 else 585
noncomputable def kc:Kd->Nat->Nat
 | .tree k,room=>(k.cB+1) * gr room
 |k,_=>k.cB
theorem u_ (room:Nat):1<=gr room/\gr room<=585:=by
 unfold gr;by_cases I:room=0
 . rw[if_pos I];omega
 . rw[if_neg I];by_cases h1:room=1
   . rw[if_pos h1];omega
   . rw[if_neg h1];by_cases h2:room<4
     . rw[if_pos h2];omega
     . rw[if_neg h2];omega
theorem Ib (room:Nat):gr room<=585:=(u_ room).2
theorem va (k:Kd)(room:Nat):kc k room<=k.cB:=by
 cases k with
 |tree k=>exact Q3b _ (Ib room)
 |_=>exact Q00 _
theorem Ic {room:Nat}(h1:1<=room)(I:room<8):1+room * gr (room / 2)<=gr room:=by
 have h:room=1\/room=2\/room=3\/room=4\/room=5\/room=6\/room=7:=by omega
 rcases h with h|h|h|h|h|h|h <;> subst h <;> decide
theorem Ie (ns:List Int)(k:Kd)(room:Nat)(n:Int)(h:room<8):n<=(val ns (.tree k) room n).2/\(val ns (.tree k) room n).2<=n+((k.cB+1) * gr room:Nat):=by
 have I:=λ(room:Nat) (n:Int) (h:room<8)=>oj ns k room n h;have e:val ns (.tree k) room n=g_ ns (val ns k) 4 room n:=by simp only[val]
 rw[e];unfold gr;by_cases J:room=0
 . rw[if_pos J,<-l5 2 room n (by omega),<-l5 1 room n (by omega),<-l5 0 room n (by omega)];exact oi (N:=k.cB) I 1 room n h
 . rw[if_neg J];by_cases h1:room=1
   . rw[if_pos h1,<-l5 2 room n (by omega),<-l5 1 room n (by omega)];exact oi (N:=k.cB) I 2 room n h
   . rw[if_neg h1];by_cases h2:room<4
     . rw[if_pos h2,<-l5 2 room n (by omega)];exact oi (N:=k.cB) I 3 room n h
     . rw[if_neg h2];exact oi (N:=k.cB) I 4 room n h
theorem Cj (ns:List Int):∀(fs:Fs) (i room:Nat) (n:Int) (x:Str) (k:Kd),fs.at i=some (x,k)->iz ns fs i room n=(pairD (.str x) (val ns k room n).1,(val ns k room n).2)
 | .nil,i,_,_,_,_,h=>by cases h
 | .cons y q r,0,room,n,x,k,h=>by
   cases h;simp only[iz]
 | .cons y q r,i+1,room,n,x,k,h=>by
   simp only[iz];exact Cj ns r i room n x k h
theorem Fs.Ck:∀{fs:Fs}{i:Nat}{x:Str}{k:Kd},fs.at i=some (x,k)->k.cB<=fs.cB
 | .nil,_,_,_,h=>by cases h
 | .cons y q r,0,x,k,h=>by
   cases h;simp only[Fs.cB];omega
 | .cons y q r,i+1,x,k,h=>by
   have:=Fs.Ck (fs:=r) (i:=i) h;simp only[Fs.cB];omega
theorem Fs.Cm:∀{fs:Fs}{i:Nat}{x:Str}{k:Kd},fs.at i=some (x,k)->(fs.take i).cB+k.cB<=fs.cB
 | .nil,_,_,_,h=>by cases h
 | .cons y q r,0,x,k,h=>by
   cases h;simp only[Fs.take,Fs.cB];omega
 | .cons y q r,i+1,x,k,h=>by
   have:=Fs.Cm (fs:=r) (i:=i) h;simp only[Fs.take,Fs.cB];omega
theorem Fs.vb:∀(fs:Fs) (i:Nat),(fs.take i).names=fs.names.take i
 | .nil,i=>by simp[Fs.take,Fs.names]
 | .cons x k r,0=>by simp[Fs.take,Fs.names]
 | .cons x k r,i+1=>by
   show x::(r.take i).names=x::r.names.take i;rw[Fs.vb r i]
theorem Fs.Ig {fs:Fs}{i:Nat}{x:Str}{k:Kd}(I:fs.names.Nodup)(h:fs.at i=some (x,k)):x ∉ (fs.take i).names:=by
 rw[Fs.vb];intro J;obtain⟨j,L,e⟩:=Q1b J;have U:fs.names[i]? =some x:=by rw[Fs.kx,h];rfl
 obtain⟨hi,Y⟩:=List.getElem?_eq_some_iff.mp U;rw[Q0o] at L;rw[Q1d] at e;have:=(Q28 I).mp (e.trans Y.symm);omega
theorem rY (ns:List Int)(room:Nat):∀(fs:Fs) (n:Int),(fE ns fs room n).1.names=fs.names
 | .nil,n=>by simp[fE,Ds.names,Fs.names]
 | .cons x k r,n=>by
   simp only[fE,Ds.names,Fs.names];rw[rY ns room r]
theorem fe.key {H:Hp}{kvs:List (Key × V)}{m:Ds}{L:List Addr}{fs:Fs}{x:Str}(h:fe H kvs m L)(f:gv fs m)(hp:fs.pl x):h_ kvs (Sum.inr x)=some (kV (keyOf m x)):=by
 rcases(f.plain hp).2 with⟨z,I,J,_⟩|⟨s,I,J,_⟩
 . obtain⟨v,g,h1,h2,_⟩:=fe.val m h I;unfold Own at h2;rw[h1,J,h2.1];rfl
 . obtain⟨v,g,h1,h2,_⟩:=fe.val m h I;unfold Own at h2;rw[h1,J,h2.1];rfl
abbrev fQ (b P:Addr):Hp->Hp->Prop:=Kp (λc=>c=b\/c=P)
theorem _root_.L2.fi.tab {P:Addr}{I:Pos}{J:Str}{H:Hp}(h:fi P I J H):∃ps,H P=some (.gS ps):=by
 rcases h with e|⟨c,e,_⟩ <;> exact⟨_,e⟩
theorem _root_.L2.fi.keep {P:Addr}{I:Pos}{J:Str}{H H':Hp}(h:fi P I J H)(k:∀c o,(∀xs,o≠ .lst xs)->H c=some o->H' c=some o):fi P I J H':=by
 rcases h with e|⟨c,e,f⟩
 . exact .inl (k _ _ (by intro xs z;cases z) e)
 . exact .inr ⟨c,k _ _ (by intro xs z;cases z) e,k _ _ (by intro xs z;cases z) f⟩
theorem _root_.L2.fi.same {P:Addr}{I:Pos}{J:Str}{H H':Hp}(h:fi P I J H)(s:Same H H'):fi P I J H':=h.keep λc o _ e=>s c o e
theorem _root_.L2.fi.sb {P b:Addr}{I:Pos}{J:Str}{H H':Hp}{l:List V}(h:fi P I J H)(L:H b=some (.lst l))(s:SB b H H'):fi P I J H':=
 h.keep λc o U e=>s c o (gN e L (U l)) e
theorem _root_.L2.fi.wr {P p:Addr}{J:Pos}{L:Str}{H:Hp}{o:HO}(h:fi P J L H)(hp:Mu H p):fi P J L (upd H p o):=by
 have key:∀c u,(∀xs,u≠ .lst xs)->(∀I,u≠ .dK I)->H c=some u->upd H p o c=some u:=λc u h1 h2 e=>by
  rw[eU];· exact e
  intro z;subst z;rcases hp with⟨xs,q⟩|⟨I,q⟩
  . rw[e] at q;exact h1 xs (Option.some.inj q)
  . rw[e] at q;exact h2 I (Option.some.inj q)
 rcases h with e|⟨c,e,f⟩
 . exact .inl (key _ _ (by intro xs z;cases z) (by intro xs z;cases z) e)
 . exact .inr ⟨c,key _ _ (by intro xs z;cases z) (by intro xs z;cases z) e,key _ _ (by intro xs z;cases z) (by intro xs z;cases z) f⟩
theorem SB.f7 {b P:Addr}{H H':Hp}(s:SB b H H'):fQ b P H H':=λc o n e=>s c o (λz=>n (.inl z)) e
theorem fQ.at {b P c:Addr}{H H':Hp}{n:Int}{I:Pos}{J:Str}{o:HO}(x:fQ b P H H')(L:H b=some (.lst [.int n]))(hT:fi P I J H)(h1:o≠ .lst [.int n])(h2:∀ps,o≠ .gS ps)(e:H c=some o):H' c=some o:=by
 obtain⟨ps,U⟩:=hT.tab;refine x c o (λz=>?_) e;rcases z with z|z
 . exact gN e L h1 z
 . exact gN e U (h2 ps) z
theorem fQ.tu {b P:Addr}{H H':Hp}{n:Int}{I:Pos}{J:Str}(x:fQ b P H H')(L:H b=some (.lst [.int n]))(hT:fi P I J H):Tu H H':=λa xs e=>x.at L hT (by intro z;cases z) (by intro ps z;cases z) e
theorem fQ.g0 {K:W.Frag}{a b P:Addr}{H H':Hp}{ns:List Int}{n n':Int}{I:Pos}{J:Str}(x:fQ b P H H')(g:G0 K H a b ns n)(hT:fi P I J H)(h:H' b=some (.lst [.int n']))(L:n<=n'):G0 K H' a b ns n':=by
 refine⟨?_,g.len,h,by have:=g.pos;omega⟩;rcases g.jA with⟨o,e⟩|e
 . exact .inl ⟨o,x.at g.at_ hT (by intro z;cases z) (by intro ps z;cases z) e⟩
 . exact .inr e
theorem Own.f7 {b P:Addr}{H₀ H H':Hp}{v:V}{d:D}{I:List Addr}{n:Int}{L:Pos}{U:Str}(h:Own H v d I)(x:fQ b P H H')(Y:H b=some (.lst [.int n]))(hT:fi P L U H)(J:∃o,H₀ b=some o)(fr:∀c∈I,H₀ c=none):Own H' v d I:=by
 refine h.keep (x.tu Y hT) d λc hc o e=>x c o (λz=>?_) e;rcases z with z|z
 . obtain⟨o',e'⟩:=J;have:=fr c hc;rw[z,e'] at this;cases this
 . obtain⟨ps,hP⟩:=hT.tab;rcases Own.alive d h c hc with⟨xs,q⟩|⟨xs,q⟩ <;> rw[z,hP] at q <;> cases q
def oz:Sp:=λvs H Q _=>∃p r b key by_ fs kvs m I,vs=[.ref p,.ref r]/\H p=some (.tup [.str "rows",.str key,.str by_,.ref b])/\H r=some (.dK kvs)/\fe H kvs m I/\gv fs m/\fs.pl key/\(by_=""\/fs.pl by_)/\
 ∀q,H q=none->Q (.ref q) (upd H q (.tup ((rankOf key by_ m).map kV)))
noncomputable def Cn (st:Stmt):Pos:=match(h8 st).getLast? with
 |some (.Return (some (.Call _ _ [⟨_,.Lambda _ _ _ I,_⟩] _)) _)=>I
 |_=>⟨0,0,0,0⟩
noncomputable abbrev iD:Pos:=Cn (top 34)
noncomputable abbrev iE:Str:=("_law_rows":Str)++".<locals>."++"<lambda>"
def nh (K:W.Frag) (P:Addr) (N:Nat):Sp:=λvs H Q _=>∃a b ns n J k,∃room:Nat,vs=[.ref a,.ref b,J,.int room]/\G0 K H a b ns n/\fi P iD iE H/\KA H J k/\k.W/\room<8/\mu k room<=N/\n+kc k room<=1000000000000/\
 ∀(v:V) (H':Hp) (I:List Addr),fQ b P H H'->H' b=some (.lst [.int (val ns k room n).2])->fi P iD iE H'->Own H' v (val ns k room n).1 I->I.Nodup->(∀c∈I,H c=none)->Q v H'
def Co (K:W.Frag) (P:Addr) (N:Nat):Sp:=λvs H Q _=>∃a b ns n J key by_ fs,∃room:Nat,vs=[.ref a,.ref b,J,.int room]/\G0 K H a b ns n/\fi P iD iE H/\KA H J (.rows key by_ fs)/\(Kd.rows key by_ fs).W/\room<8/\mu (.rows key by_ fs) room<=N+1/\n+(Kd.rows key by_ fs).cB<=1000000000000/\
 ∀(v:V) (H':Hp) (I:List Addr),fQ b P H H'->H' b=some (.lst [.int (val ns (.rows key by_ fs) room n).2])->fi P iD iE H'->Own H' v (val ns (.rows key by_ fs) room n).1 I->I.Nodup->(∀c∈I,H c=none)->Q v H'
theorem Ih:f_ Xb Xb (fo (top 33)):=gz
theorem Cp (T:Tb mg)(I:Dn K mg "_law_rank" m8 (top 33) J L):eZ P w K mg base e_ (1) J L m8 (oz):=by
 refine I.F.ok Ih λvs H Q E h=>?_;obtain⟨p,r,b,key,by_,fs,kvs,m,fp,rfl,hp,hR,hO,hF,hk,Y,q⟩:=h;refine⟨rfl,λab A outer s nd hr U=>?_⟩
 refine⟨_,(eV (fA (fw gg (fh (pv 0) b_) fV (fv _)) (fc (fg (gi (a_ (iF U (pv 1) (fh (pv 0) b_) (λ_ _=>rfl)) c_)))) fy)
  (fc (fg (gi (a_ (iF U (pv 1) (fh (pv 0) b_) (λ_ _=>rfl)) (a_ (iF U (pv 1) (fh (pv 0) b_) (λ_ _=>rfl)) c_)))))),?_⟩
 ac_rfl
 have gk:gj H r (.str key) (some (kV (keyOf m key))):=by have:=gj.k (k:=Sum.inr key) hR;rw[hO.key hF hk] at this;exact this
 refine(Zr rfl ⟨p,_,_,Zr rfl ⟨rfl,eX.of hp,rfl,rfl,Zr rfl (gm (λc=>?_) (λc=>?_))⟩⟩)
 . have c':by_="":=by
    have:=of_decide_eq_true c;injection this
   refine(Zr rfl (Zr rfl ⟨p,_,_,Zr rfl ⟨rfl,eX.of hp,rfl,r,Zr rfl ⟨gk,hX,λt ht=>?_⟩⟩⟩));have:=q t ht;unfold rankOf at this;rw[if_pos c'] at this;exact this
 . have c':¬by_="":=λz=>c (decide_eq_true (show V.str by_=V.str "" by rw[z]));have aa:fs.pl by_:=Y.resolve_left c';have gb:gj H r (.str by_) (some (kV (keyOf m by_))):=by have:=gj.k (k:=Sum.inr by_) hR;rw[hO.key hF aa] at this;exact this
   refine(Zr rfl (Zr rfl ⟨p,_,_,Zr rfl ⟨rfl,eX.of hp,rfl,r,Zr rfl ⟨gb,Zr rfl (Zr rfl ⟨p,_,_,Zr rfl ⟨rfl,eX.of hp,rfl,r,Zr rfl ⟨gk,gE,λt ht=>?_⟩⟩⟩)⟩⟩⟩));have:=q t ht;unfold rankOf at this;rw[if_neg c'] at this;exact this
theorem Ii:f_ ["kind","row","key","by"] ["kind","row"] (fo (top 17)):=gz
theorem Ij (T:Tb mg)(I:Dn K mg "rank" pW (top 17) J L):eZ P w K mg base e_ (1) J L pW (oz):=by
 refine I.F.ok Ii λvs H Q E h=>?_;obtain⟨p,r,b,key,by_,fs,kvs,m,fp,rfl,hp,hR,hO,hF,hk,Y,q⟩:=h;refine⟨rfl,λab A outer s nd hr U=>?_⟩
 refine⟨_,(eV (fj 2 nd (fh (pv 0) b_))
  (eV (fj 3 nd (fh (pv 0) b_))
  (eV (fA (fw gg (pv 3) fV (fv _)) (fc (fg (gi (a_ (iF U (pv 1) (pv 2) (λ_ _=>rfl)) c_)))) fy)
  (fc (fg (gi (a_ (iF U (pv 1) (pv 3) (λ_ _=>rfl)) (a_ (iF U (pv 1) (pv 2) (λ_ _=>rfl)) c_)))))))),?_⟩
 ac_rfl
 have gk:gj H r (.str key) (some (kV (keyOf m key))):=by have:=gj.k (k:=Sum.inr key) hR;rw[hO.key hF hk] at this;exact this
 refine(Zr rfl ⟨p,_,_,Zr rfl ⟨rfl,eX.of hp,rfl,?_⟩⟩);refine(Zr rfl ⟨p,_,_,Zr rfl ⟨rfl,eX.of hp,rfl,?_⟩⟩);refine(Zr rfl ⟨rfl,Zr rfl (gm (λc=>?_) (λc=>?_))⟩)
 . have c':by_="":=by
    have:=of_decide_eq_true c;injection this
   refine(Zr rfl (Zr rfl ⟨r,Zr rfl ⟨gk,hX,λt ht=>?_⟩⟩));have:=q t ht;unfold rankOf at this;rw[if_pos c'] at this;exact this
 . have c':¬by_="":=λz=>c (decide_eq_true (show V.str by_=V.str "" by rw[z]));have aa:fs.pl by_:=Y.resolve_left c';have gb:gj H r (.str by_) (some (kV (keyOf m by_))):=by have:=gj.k (k:=Sum.inr by_) hR;rw[hO.key hF aa] at this;exact this
   refine(Zr rfl (Zr rfl ⟨r,Zr rfl ⟨gb,Zr rfl (Zr rfl ⟨r,Zr rfl ⟨gk,gE,λt ht=>?_⟩⟩)⟩⟩));have:=q t ht;unfold rankOf at this;rw[if_neg c'] at this;exact this
noncomputable def σV (a b pk:Addr) (room:Nat) (I ps:Addr) (x y:Option V):St:=[some (.ref a),some (.ref b),some (.ref pk),some (.int room),some (.ref I),some (.ref ps),x,y]
theorem vc {α I:Type}{F:α->I->Prop}{a:α}{b:I}:∀{as:List α}{bs:List I},Paired F as bs->F a b->Paired F (as++[a]) (bs++[b])
 |_,_,.nil,h=>.cons h .nil
 |_,_,.cons x r,h=>.cons x (vc r h)
theorem Cq {J:List (Key × V)}{I:List Ds}{key:Str}(h:J.map (·.1)=I.map λr=>keyOf r key)(k:Key):(h_ J k).isSome=lY key I k:=by
 rw[<-pq];unfold lY;have e:∀(l:List Ds),(l.any λr=>decide (keyOf r key=k))=((l.map λr=>keyOf r key).any λx=>decide (x=k)):=λl=>by rw[Q23];rfl
 rw[e,<-h,Q23];rfl
theorem fH.f7 {b P:Addr}{H₀ H H':Hp}{n:Int}{Y:Pos}{ql:Str}(x:fQ b P H H')(L:H b=some (.lst [.int n]))(hT:fi P Y ql H)(I:∃o,H₀ b=some o):
 ∀{vs:List V} {rs:List Ds} {J:List (List Addr)},fH H vs rs J->(∀c∈J.flatten,H₀ c=none)->fH H' vs rs J
 |_,_,_,.nil,_=>.nil
 |_,_,_,.cons h r,U=>.cons (h.f7 x L hT I λc hc=>U c (Q0s _ hc)) (fH.f7 x L hT I r λc hc=>U c (Q08 _ hc))
theorem fH.keep {H H':Hp}(t:Tu H H'):∀{vs:List V}{rs:List Ds}{I:List (List Addr)},fH H vs rs I->(∀c∈I.flatten,∀o,H c=some o->H' c=some o)->fH H' vs rs I
 |_,_,_,.nil,_=>.nil
 |_,_,_,.cons h r,k=>.cons (h.keep t _ λc hc=>k c (Q0s _ hc)) (fH.keep t r λc hc=>k c (Q08 _ hc))
theorem fH.mu {H:Hp}{vs:List V}{rs:List Ds}{I:List (List Addr)}(h:fH H vs rs I):∀c∈I.flatten,Mu H c:=fm.alive _ h.own
theorem Cr:f_ XW XM (fo (top 34)):=gz
theorem Ik {Pt c:Addr}(N:Nat)(T:Tb mg)(ah:Dn K mg "_law_rows" iL (top 34) ai U)(ba:U.code=.ref c)(bz:W.CodeHd base c Pt)(bA:BM mg base)(aj:Dn K mg "_law_next" fJ (top 25) ak al)(am:eZ P w K mg base e_ (1) ak al fJ (l4 K))(J:Dn K mg "_law_rank" m8 (top 33) an ao)(ap:eZ P w K mg base e_ (1) an ao m8 (oz))(ab:Dn K mg "_law_value" iL (top 35) ac ae)(af:eZ P w K mg base e_ (2 * N+5) ac ae iL (nh K Pt N)):
 eZ P w K mg base e_ (2 * N+6) ai U iL (Co K Pt N):=by
 refine ah.F.ra ba Cr (λvs H Q E h=>?_) (λA outer s H vs Q E hr h=>?_)
 . obtain⟨a,b,ns,n,kv,key,by_,fs,room,rfl,_⟩:=h;rfl
 obtain⟨a,b,ns,n,kv,key,by_,fs,room,rfl,g,hT,hk,hW,b2,bB,hn,q⟩:=h;have nd:=Cr.nd;have hu:=pF hr;unfold KA at hk;obtain⟨pk,pb,xs,rfl,aX,bC,bD⟩:=hk;have b3:=hW;unfold Kd.W at hW;obtain⟨bE,bF,aY,aE,bd⟩:=hW
 refine⟨_,(eV (fj 4 nd (gu c_))
  (eV (fj 5 nd qQ)
  (eV (jc PassesOwn.never rfl (mF rfl T.lZ (a_ (eY fM (fx am hr aj (a_ (pv 0) (a_ (pv 1) c_))) (eY iq (pv 3) b_)) c_)) (gq (i:=6) nd rfl gO) (eV (fj 7 nd (fx af hr ab (a_ (pv 0) (a_ (pv 1) (a_ (gi (a_ fV (a_ (fh (pv 2) b_) c_))) (a_ (eY gJ (pv 3) b_) c_))))))
  (fc (fA (tL (AM hu (iF hu (pv 7) (fh (pv 2) b_) (λ_ _=>rfl)) (pv 5)) (by with_unfolding_all rfl)) (eV (nW hu (pv 5) (iF hu (pv 7) (fh (pv 2) b_) (λ_ _=>rfl)) iw rfl)
  (fc (kI (mP PySem.F.plainAttrs_list PySem.F.slot_list_append PySem.F.type_list_append nU (pv 4) (a_ (pv 7) c_))))) fy))))
  (fc (fg (Bt (x:="_law_row") (N':=["","","_law_kind_here","","","","",""]) rfl T.pT boot_sorted hr rfl rfl bz bA (kW.of (N:=XW) (sc:=fo (top 34)) rfl rfl rfl rfl rfl (by decide +kernel)) rfl (λ_ _ _ _ _=>rfl) (pv 4) (λ_ _ _ _ _=>(qK ap (gy.deeper (k:=1) (gy.in1 (k:=2) (gy.in1 (k:=3) (hr.mono (by omega)))) _) rfl J.m J.F.kp J.b .nil km (a_ (pv 3) (a_ (pv 0) c_)))))))))),?_⟩
 ac_rfl
 have bG:(Kd.rows key by_ fs).cB=8 * fs.cB+1:=rfl;rw[bG] at hn;have hb:=g.at_;obtain⟨b4,hP⟩:=hT.tab;refine⟨pU,λpr aK=>?_⟩;intro ps ay
 have aF:H ps=none:=by
  by_cases e:ps=pr
  . rw[e,eW] at ay;cases ay
  . rwa [eU e] at ay
 have aZ:ps≠pr:=λe=>by rw[e,eW] at ay;cases ay
 have s0:Same H (upd (upd H pr (.lst [])) ps (.dK [])):=(Same.new aK).trans (Same.new ay);have hT0:=hT.same s0;have g0:G0 K (upd (upd H pr (.lst [])) ps (.dK [])) a b ns n:=⟨(SB.of s0).jA hb g.jA,g.len,s0 _ _ hb,g.pos⟩;refine(Zr rfl (Zr rfl ⟨a,b,ns,n,rfl,g0,by omega,λH1 s1 h1=>?_⟩));refine(Zr rfl ⟨_,Zr rfl ⟨rfl,_,Zr rfl ⟨rfl,by omega,?_⟩⟩⟩);have b5:=Q0i (nx ns (n+1)) (show((room:Int)+1)≠0 by omega);have b6:=Q0k (nx ns (n+1)) (show(0:Int)<(room:Int)+1 by omega);have a1:b≠pr:=ff hb aK;have a2:b≠ps:=ff hb aF;have jP:Pt≠pr:=ff hP aK;have bH:Pt≠ps:=ff hP aF;have bI:H1 pr=some (.lst []):=s1 pr _ (Ne.symm a1) (by rw[eU (Ne.symm aZ)];exact eW);have bJ:H1 ps=some (.dK []):=s1 ps _ (Ne.symm a2) eW;have bK:fi Pt iD iE H1:=hT0.sb (s0 _ _ hb) s1;have k1:fQ b Pt H H1:=λc o nc e=>s1 c o (λz=>nc (.inl z)) (s0 c o e);have cnt:=λm=>om ns fs (room / 2) m (by omega)
 refine(Zr rfl ⟨by omega,by omega,lQ (n:=Int.toNat (nx ns (n+1) % ((room:Int)+1))) (λi σ H'=>∃x y vs fl sk,σ=σV a b pk room pr ps x y/\fQ b Pt H H'/\H' b=some (.lst [.int (gB (fE ns fs (room / 2)) key i [] (n+1)).2])/\fi Pt iD iE H'/\
  H' pr=some (.lst vs)/\H' ps=some (.dK sk)/\fH H' vs (gB (fE ns fs (room / 2)) key i [] (n+1)).1 fl/\fl.flatten.Nodup/\(∀c∈fl.flatten,H c=none/\c≠pr/\c≠ps)/\sk.map (·.1)=((gB (fE ns fs (room / 2)) key i [] (n+1)).1.map λr=>keyOf r key)/\vs.length<=i) ?_ ?_ ?_⟩)
 . exact⟨_,_,[],[],[],rfl,k1,h1,bK,bI,bJ,.nil,Q0t,λc hc=>absurd hc (by simp),rfl,Q00 _⟩
 . intro i σ H' hi zq;obtain⟨x,y,vs,fl,sk,rfl,kp,aB,az,aL,a3,Y,aM,ar,aC,bL⟩:=zq;have b7:i<8:=by omega
   obtain⟨c1,c2⟩:=rz (key:=key) cnt i [] (n+1);have c3:i * fs.cB<=7 * fs.cB:=Q14 _ (by omega);have aD:Tu H H':=kp.tu hb hT;refine(Zr rfl (Zr rfl (Zr rfl ⟨pk,_,_,Zr rfl ⟨rfl,eX.of (aD _ _ aX),rfl,gE,λt ht=>?_⟩⟩)));have st:Same H' (upd H' t (.tup [.str "record",.ref pb])):=Same.new ht;have e2:((room / 2:Nat):Int)=(room:Int) / 2:=by omega
   have bM:KA (upd H' t (.tup [.str "record",.ref pb])) (.ref t) (.fT fs):=by
    unfold KA;exact⟨t,pb,xs,rfl,eW,st _ _ (aD _ _ bC),FA.mono (aD.trans (Tu.of st)) fs bD⟩
   have b8:=g.pos;refine(Zr rfl ⟨_,Zr rfl ⟨rfl,⟨by decide,by decide⟩,a,b,ns,(gB (fE ns fs (room / 2)) key i [] (n+1)).2,.ref t,.fT fs,room / 2,(by rw[e2];rfl),fQ.g0 (kp.trans (Kp.of st)) g hT (st _ _ aB) (by omega),az.same st,bM,(by unfold Kd.W;exact⟨bE,bF,aY⟩),by omega,(by simp only[mu,Kd.dep] at bB ⊢;omega),(by simp only[kc,Kd.cB];omega),?_⟩⟩);intro v H2 fp f7 aA be av br aU;have ev:val ns (.fT fs) (room / 2) (gB (fE ns fs (room / 2)) key i [] (n+1)).2=(.dct (fE ns fs (room / 2) (gB (fE ns fs (room / 2)) key i [] (n+1)).2).1,(fE ns fs (room / 2) (gB (fE ns fs (room / 2)) key i [] (n+1)).2).2):=by simp only[val]
   rw[ev] at aA av;have bt:=m4 ns fs aY (room / 2) (gB (fE ns fs (room / 2)) key i [] (n+1)).2 (by omega);have succ:=u5 (g:=fE ns fs (room / 2)) (key:=key) i [] (n+1);generalize gB (fE ns fs (room / 2)) key (i+1) [] (n+1)=b9 at succ ⊢;generalize gB (fE ns fs (room / 2)) key i [] (n+1)=I at *;generalize fE ns fs (room / 2) I.2=aa at *;have aq:fQ b Pt H' H2:=(Kp.of st).trans f7;have bN:∃o,H b=some o:=⟨_,hb⟩;have bf:H2 pr=some (.lst vs):=aq pr _ (λz=>z.elim (Ne.symm a1) (Ne.symm jP)) aL;have aP:H2 ps=some (.dK sk):=aq ps _ (λz=>z.elim (Ne.symm a2) (Ne.symm bH)) a3;have L:fH H2 vs I.1 fl:=fH.f7 aq aB az bN Y λc hc=>(ar c hc).1;have bb:=av;unfold Own at av;obtain⟨rr,kvs,fq,rfl,a4,ca,a5⟩:=av;have aw:H2 pk=some (.tup [.str "rows",.str key,.str by_,.ref pb]):=fQ.at (kp.trans aq) hb hT (by intro z;cases z) (by intro ps z;cases z) aX;have gk:gj H2 rr (.str key) (some (kV (keyOf aa.1 key))):=by have:=gj.k (k:=Sum.inr key) a4;rw[a5.key bt aE] at this;exact this
   have gs:gj H2 ps (kV (keyOf aa.1 key)) (h_ sk (keyOf aa.1 key)):=gj.k aP;have sv:=Cq aC (keyOf aa.1 key);have aH:fQ b Pt H H2:=kp.trans aq;refine(Zr rfl (Zr rfl ⟨pk,_,_,Zr rfl ⟨rfl,eX.of aw,rfl,rr,Zr rfl ⟨gk,Zr rfl ⟨ps,Zr rfl ⟨gs,Zr rfl ?_⟩⟩⟩⟩⟩))
   cases ec:lY key I.1 (keyOf aa.1 key) with
   |true=>
    rw[ec] at sv;rw[ec,if_pos rfl] at succ;rw[sv];subst succ;exact fL ⟨_,_,vs,fl,sk,rfl,aH,aA,be,bf,aP,L,aM,ar,aC,by omega⟩
   |false=>
    rw[ec] at sv;rw[ec,if_neg (by simp)] at succ;rw[sv];subst succ;refine fY ?_
    have bO:h_ sk (keyOf aa.1 key)=none:=by
     cases z:h_ sk (keyOf aa.1 key) with
     |none=>rfl
     |some o=>rw[z] at sv;cases sv
    have bu:sk.length<sizeLine:=by
     have e1:sk.length=(I.1.map λr=>keyOf r key).length:=by rw[<-aC,Q03]
     rw[Q03] at e1;have cb:=(A3.len L).1;exact ig (by omega)
    refine(Zr rfl (Zr rfl (Zr rfl ⟨pk,_,_,Zr rfl ⟨rfl,eX.of aw,rfl,rr,Zr rfl ⟨gk,ps,Zr rfl ⟨ki.k aP bu,?_⟩⟩⟩⟩)));rw[rB bO];have bg:Mu H2 ps:=.inr ⟨_,aP⟩;have bP:Tu H2 (upd H2 ps (.dK (sk++[(keyOf aa.1 key,.bl true)]))):=Tu.wr λys z=>bg.uS ys z;have a6:upd H2 ps (.dK (sk++[(keyOf aa.1 key,.bl true)])) pr=some (.lst vs):=by rw[eU (Ne.symm aZ)];exact bf
    refine(Zr rfl ⟨.inl ⟨rfl,_,d_.of a6⟩,Zr rfl ⟨pr,_,Zr rfl ⟨rfl,a6,ig (by omega),?_⟩⟩⟩);have bh:Mu (upd H2 ps (.dK (sk++[(keyOf aa.1 key,.bl true)]))) pr:=.inl ⟨_,a6⟩;have bi:Tu H2 (upd (upd H2 ps (.dK (sk++[(keyOf aa.1 key,.bl true)]))) pr (.lst (vs++[.ref rr]))):=bP.trans (Tu.wr λys z=>bh.uS ys z)
    have aG:∀c∈fp,H c=none/\c≠pr/\c≠ps:=λc hc=>by
     have z:=aU c hc;have z':H' c=none:=st.free z;have nb:c≠b:=λe=>by rw[e,aB] at z';cases z'
     obtain⟨bj,a7⟩:=az.tab;have nP:c≠Pt:=λe=>by rw[e,a7] at z';cases z'
     refine⟨kp.pR (λe=>e.elim nb nP) z',λe=>?_,λe=>?_⟩
     . rw[e,aL] at z';cases z'
     . rw[e,a3] at z';cases z'
    have ag:∀c,c≠pr->c≠ps->upd (upd H2 ps (.dK (sk++[(keyOf aa.1 key,.bl true)]))) pr (.lst (vs++[.ref rr])) c=H2 c:=λc n1 n2=>by rw[eU n1,eU n2]
    refine⟨_,_,vs++[.ref rr],fl++[fp],Zr rfl ⟨λc o nc e=>?_,by rw[ag b a1 a2];exact aA,(be.wr bg).wr bh,eW,by rw[eU aZ];exact eW,?_,?_,?_,?_,by rw[Q09];show vs.length+1<=i+1;omega⟩⟩
    . rw[ag c (ff e aK) (ff e aF)];exact aH c o nc e
    . refine A3.snoc ?_ (fH.keep bi L λc hc o e=>by rw[ag c (ar c hc).2.1 (ar c hc).2.2];exact e);exact bb.keep bi _ λc hc o e=>by rw[ag c (aG c hc).2.1 (aG c hc).2.2];exact e
    . rw[Q2h];refine List.nodup_append.mpr ⟨aM,by simpa using br,λc hc d hd=>?_⟩;have bQ:d∈fp:=by simpa using hd
      intro e;subst e;obtain⟨o,eo⟩:=(fH.mu Y c hc).ex;have:=st.free (aU c bQ);rw[eo] at this;cases this
    . intro c hc;rw[Q2h] at hc;rcases List.mem_append.mp hc with z|z
      . exact ar c z
      . exact aG c (by simpa using z)
    . rw[Q0f,Q0f,aC];rfl
 . intro σ H' zq;obtain⟨x,y,vs,fl,sk,rfl,kp,aB,az,aL,a3,Y,aM,ar,aC,bL⟩:=zq;have bR:val ns (.rows key by_ fs) room n=(.lst (gA (iC key by_ (gB (fE ns fs (room / 2)) key (nx ns (n+1) % ((room:Int)+1)).toNat [] (n+1)).1)),(gB (fE ns fs (room / 2)) key (nx ns (n+1) % ((room:Int)+1)).toNat [] (n+1)).2):=by simp only[val]
   rw[bR] at q;have aI:∀m∈(gB (fE ns fs (room / 2)) key (nx ns (n+1) % ((room:Int)+1)).toNat [] (n+1)).1,gv fs m:=oh (R:=gv fs) (λn=>m4 ns fs aY (room / 2) n (by omega)) _ _ _ (λr hr=>absurd hr (by simp));have bS:=rj (g:=fE ns fs (room / 2)) (key:=key) (nx ns (n+1) % ((room:Int)+1)).toNat [] (n+1) Q0t;generalize gB (fE ns fs (room / 2)) key (nx ns (n+1) % ((room:Int)+1)).toNat [] (n+1)=I at *;obtain⟨aV,bv⟩:=A3.len Y;refine(Zr rfl ⟨pr,vs,rfl,d_.of aL,by omega,az,λc' H2 a8 mono=>?_⟩);have aD:Tu H H':=kp.tu hb hT
   have np:∀cc o,(∀ps,o≠ .gS ps)->H' cc=some o->H2 cc=some o:=λcc o ho e=>by
    obtain⟨bj,a7⟩:=az.tab;exact mono cc o (gN e a7 (ho bj)) e
   have bm:Tu H' H2:=λcc ys e=>np cc _ (by intro ps z;cases z) e
   have L:fH H2 vs I.1 fl:=fH.keep bm Y λcc hc o e=>np cc o (by
    intro ps z;rcases fH.mu Y cc hc with⟨_,q⟩|⟨_,q⟩ <;> rw[e] at q <;> rw[z] at q <;> cases q) e
   have aw:H2 pk=some (.tup [.str "rows",.str key,.str by_,.ref pb]):=bm _ _ (aD _ _ aX);refine⟨λks H3=>Same H2 H3/\ks.length<=vs.length/\mU H3 ks ((I.1.map (rankOf key by_)).take ks.length),⟨Same.refl _,Q07 _,.nil⟩,λks H3 hw=>a8.mono λcc o _ e=>hw.1 _ _ e,?_,?_⟩
   . rintro ks H3 yv ⟨s3,bT,aQ⟩ hy;have bn:ks.length<vs.length:=(List.getElem?_eq_some_iff.mp hy).1;have aW:=A3.at (a0:=V.non) (b0:=Ds.nil) (c0:=[]) L ks.length bn;have ey:vs.getD ks.length .non=yv:=by rw[Q06,hy];rfl
     rw[ey] at aW
     have bw:I.1.getD ks.length .nil∈I.1:=by
      rw[Q06,Q02 (by omega)];exact Q0y _
     have aJ:=Own.same s3 aW;unfold Own at aJ;obtain⟨rr,kvs,fq,rfl,a4,_,a5⟩:=aJ;refine(Zr rfl (Zr rfl ⟨pk,rr,pb,key,by_,fs,kvs,_,fq,rfl,s3 _ _ aw,a4,a5,aI _ bw,aE,bd,λt ht=>⟨s3.trans (Same.new ht),by rw[Q09];exact bn,?_⟩⟩))
     have et:(I.1.map (rankOf key by_)).take (ks++[V.ref t]).length=(I.1.map (rankOf key by_)).take ks.length++[rankOf key by_ (I.1.getD ks.length .nil)]:=by
      rw[Q09];show List.take (ks.length+1) _=_;rw[Q0q,Q0j,Q06,Q02 (by omega)];rfl
     rw[et];refine vc (Paired.oW aQ λk kl z=>?_) ⟨t,rfl,eW⟩;obtain⟨pp,e,hh⟩:=z;exact⟨pp,e,by rw[eU (ff hh ht)];exact hh⟩
   . rintro ks H3 ⟨s3,bT,aQ⟩ bx
     have bU:(I.1.map (rankOf key by_)).take ks.length=I.1.map (rankOf key by_):=by
      rw[bx,aV,Q0w (by rw[Q03];exact Q00 _)]
     rw[bU] at aQ;refine⟨_,aQ,⟨if by_="" then [kY (fs.get key)] else [kY (fs.get by_),kY (fs.get key)],by split <;> simp,λkl bV=>?_⟩,λp hp hs D hD=>?_⟩
     . obtain⟨m,hm,rfl⟩:=List.mem_map.mp bV;exact rg (aI m hm) aE bd
     have a9:∀i∈p,i<vs.length:=λi hi=>by
      have:=hp.mem_iff.mp hi;simpa using this
     have bW:p.Perm (List.range I.1.length):=by rw[<-aV];exact hp
     have hz:(p.map λi=>I.1.getD i .nil)=iC key by_ I.1:=by
      refine BF (rD _ bW) ?_ bS;rw[Q1l] at hs ⊢;refine List.Pairwise.imp_of_mem (λ{i j} hi hj h=>?_) hs;have bX:=a9 i hi;have bY:=a9 j hj
      have ge:∀i,i<vs.length->(I.1.map (rankOf key by_)).getD i []=rankOf key by_ (I.1.getD i .nil):=λi hi=>by
       rw[Q06,Q06,Q0j,Q02 (by omega)];rfl
      rw[ge i bX,ge j bY] at h;exact h
     have ax:fH H3 vs I.1 fl:=fH.keep (Tu.of s3) L λcc _ o e=>s3 cc o e;have sD:Same H3 (upd H3 D (.lst (p.map λi=>vs.getD i .non))):=Same.new hD;have aT:fH (upd H3 D (.lst (p.map λi=>vs.getD i .non))) vs I.1 fl:=fH.keep (Tu.of sD) ax λcc _ o e=>sD cc o e;have bc:=A3.pick (a0:=V.non) (b0:=Ds.nil) (c0:=[]) aT p a9;have bZ:(p.map λi=>fl.getD i []).Perm fl:=rD _ (by rw[<-bv];exact hp);have au:=BX bZ;have aA:H2 b=some (.lst [.int I.2]):=np b _ (by intro ps z;cases z) aB;have bo:D≠b:=λe=>by rw[e,s3 _ _ aA] at hD;cases hD
     have bp:D≠Pt:=λe=>by rw[e,s3 _ _ a8.1] at hD;cases hD
     have bq:=s3.free hD
     have b1:H' D=none:=by
      cases e:H' D with
      |none=>rfl
      |some o=>rw[mono D o bp e] at bq;cases bq
     refine q (.ref D) _ (D::(p.map λi=>fl.getD i []).flatten) (λcc o nc e=>?_) (by rw[eU (Ne.symm bo)];exact s3 _ _ aA) (.inr ⟨c',a8.mono λcc o _ e=>sD _ _ (s3 _ _ e)⟩) ?_ ?_ ?_
     . have e1:=kp cc o nc e;exact sD _ _ (s3 _ _ (mono cc o (λz=>nc (.inr z)) e1))
     . unfold Own;exact⟨D,_,Zr rfl ⟨eW,rfl,by rw[<-hz];exact fH.own bc⟩⟩
     . refine List.nodup_cons.mpr ⟨λhm=>?_,au.nodup_iff.mpr aM⟩;obtain⟨o,eo⟩:=(fH.mu ax D (au.mem_iff.mp hm)).ex;rw[hD] at eo;cases eo
     . intro cc hc;rcases List.mem_cons.mp hc with z|z
       . rw[z];exact kp.pR (λe=>e.elim bo bp) b1
       . exact(ar cc (au.mem_iff.mp z)).1
theorem Il (k:Kd)(room:Nat):16<=mu k room:=by
 have:=k.lW
 cases k <;> simp only[mu,Kd.dep] at * <;> omega
noncomputable def σU (a b:Addr) (I:V) (room:Nat) (x1 J L U Y:Option V):St:=[some (.ref a),some (.ref b),some I,some (.int room),x1,J,L,U,Y]
theorem fe.f7 {b P:Addr}{H₀ H H':Hp}{v:List (Key × V)}{d:Ds}{I:List Addr}{n:Int}{L:Pos}{U:Str}(h:fe H v d I)(x:fQ b P H H')(Y:H b=some (.lst [.int n]))(hT:fi P L U H)(J:∃o,H₀ b=some o)(fr:∀c∈I,H₀ c=none):fe H' v d I:=by
 refine h.keep (fQ.tu x Y hT) d λc hc o e=>x c o (λz=>?_) e;rcases z with z|z
 . obtain⟨o',e'⟩:=J;have:=fr c hc;rw[z,e'] at this;cases this
 . obtain⟨ps,hP⟩:=hT.tab;rcases fe.alive d h c hc with⟨xs,q⟩|⟨xs,q⟩ <;> rw[z,hP] at q <;> cases q
theorem fm.f7 {b P:Addr}{H₀ H H':Hp}{v:List V}{d:Ds}{I:List Addr}{n:Int}{L:Pos}{U:Str}(h:fm H v d I)(x:fQ b P H H')(Y:H b=some (.lst [.int n]))(hT:fi P L U H)(J:∃o,H₀ b=some o)(fr:∀c∈I,H₀ c=none):fm H' v d I:=by
 refine h.keep (fQ.tu x Y hT) d λc hc o e=>x c o (λz=>?_) e;rcases z with z|z
 . obtain⟨o',e'⟩:=J;have:=fr c hc;rw[z,e'] at this;cases this
 . obtain⟨ps,hP⟩:=hT.tab;rcases fm.alive d h c hc with⟨xs,q⟩|⟨xs,q⟩ <;> rw[z,hP] at q <;> cases q
theorem fQ.fresh {b P c:Addr}{H H':Hp}{n:Int}{I:Pos}{J:Str}(x:fQ b P H H')(L:H' b=some (.lst [.int n]))(hT:fi P I J H')(h:H' c=none):H c=none:=by
 obtain⟨ps,U⟩:=hT.tab;exact x.pR (λe=>e.elim (λz=>by rw[z,L] at h;cases h) λz=>by rw[z,U] at h;cases h) h
theorem Cs:f_ XS XM (fo (top 35)):=gz
theorem Im {Pt:Addr}(T:Tb mg)(I:Dn K mg "_law_value" iL (top 35) J L):eZ P w K mg base e_ (2 * 0+5) J L iL (nh K Pt 0):=by
 refine I.F.ok Cs λvs H Q E h=>?_;obtain⟨a,b,ns,n,kv,k,room,rfl,g,hT,hk,hW,Y,U,_⟩:=h;refine⟨rfl,λaa A outer s nd hr hu=>?_⟩;exact absurd U (by have:=Il k room;omega)
theorem Io {Pt:Addr}(N:Nat)(T:Tb mg)(I:Dn K mg "_law_value" iL (top 35) aa ab)(L:eZ P w K mg base e_ (2 * N+5) aa ab iL (nh K Pt N))(ao:Dn K mg "_law_rows" iL (top 34) ap aq)(ar:eZ P w K mg base e_ (2 * N+6) ap aq iL (Co K Pt N))(ac:Dn K mg "_law_next" fJ (top 25) au av)(ae:eZ P w K mg base e_ (1) au av fJ (l4 K))(ak:Dn K mg "_law_number" fJ (top 26) al am)(an:eZ P w K mg base e_ (2) al am fJ (B_ K))(aw:Dn K mg "_law_word" fJ (top 27) ax ay)(az:eZ P w K mg base e_ (2) ax ay fJ (Ca K)):
 eZ P w K mg base e_ (2 * (N+1)+5) aa ab iL (nh K Pt (N+1)):=by
 refine I.F.ok Cs λvs H Q E h=>?_;obtain⟨a,b,ns,n,kv,k,room,rfl,g,hT,hk,hW,Y,aZ,hn,q⟩:=h;refine⟨rfl,λbC A outer s nd hr hu=>?_⟩
 refine⟨_,(eV (fA (fw gg (fh (pv 2) b_) fV (fv _)) (fc (fg (fx an hr ak (a_ (pv 0) (a_ (pv 1) c_))))) fy)
  (eV (fA (fw gg (fh (pv 2) b_) fV (fv _)) (fc (fg (fx az hr aw (a_ (pv 0) (a_ (pv 1) c_))))) fy)
  (eV (fA (fw gg (fh (pv 2) b_) fV (fv _)) (eV (fj 4 nd qQ)
  (eV (jc PassesOwn.never rfl (kJ (fh (pv 2) b_)) (jS rfl (ik (gq (i:=5) nd rfl gO) (ik (gq (i:=6) nd rfl gO) jR))) (fc (nW hu (pv 4) (pv 5) (fx L hr I (a_ (pv 0) (a_ (pv 1) (a_ (pv 6) (a_ (pv 3) c_))))) rfl)))
  (fc (fg (pv 4))))) fy)
  (eV (fA (fw gg (fh (pv 2) b_) fV (fv _)) (fc (fg (fx ar hr ao (a_ (pv 0) (a_ (pv 1) (a_ (pv 2) (a_ (pv 3) c_))))))) fy)
  (eV (fA (fw gg (fh (pv 2) b_) fV (fv _)) (eV (fj 7 nd (fx L hr I (a_ (pv 0) (a_ (pv 1) (a_ (fh (pv 2) b_) (a_ (eY gJ (pv 3) b_) c_))))))
  (eV (fj 8 nd (eY fM (fx ae hr ac (a_ (pv 0) (a_ (pv 1) c_))) (eY iq (pv 3) b_)))
  (fc (fg (gi (a_ (pv 7) (a_ (kr (g:=(gK 0)) (tt:=jX) (te:=(mM _ _ _ (g9 (gf 1) (g9 (gf 2) (g9 (gf 3) (g9 (gI _ (gf 4) (tC (.int 2))) iS)))))) (own:=["_law_k"]) rfl (jj (N:=XS) (sc:=fo (top 35))) (mF rfl T.lZ (a_ (pv 8) c_)) (λ_ _ _ _ _=>(gq (i:=0) (show(["_law_k","_law_script","_law_at","_law_kind_here","_law_room","_law_made","_law_name","_law_inner","_law_top","_law_many"]:List Str).Nodup by decide +kernel) rfl (Or.inl rfl) (.inr rfl))) (λ_ _ _ _ _=>kT) (λ_ _ _ _ _=>(fx L hr I (a_ (pv 1) (a_ (pv 2) (a_ (pv 3) (a_ (eY gJ (pv 4) b_) c_))))))) c_))))))) fy)
  (eV (o7 (fh (fh (pv 2) b_) (eY fM (fx ae hr ac (a_ (pv 0) (a_ (pv 1) c_))) (fZ iu (by rfl) T.ib PySem.boot_len (a_ (fh (pv 2) b_) c_)))) (jS rfl (ik (gq (i:=5) nd rfl gO) (ik (gq (i:=6) nd rfl gO) jR))))
  (fc (fg (gi (a_ (pv 5) (a_ (fx L hr I (a_ (pv 0) (a_ (pv 1) (a_ (pv 6) (a_ (pv 3) c_))))) c_))))))))))),?_⟩
 ac_rfl
 have hb:=g.at_;have bD:=g.pos;have aT:∃o,H b=some o:=⟨_,hb⟩;obtain⟨bE,hP⟩:=hT.tab;have e2:((room / 2:Nat):Int)=(room:Int) / 2:=by omega
 cases k with
 |num=>
  unfold KA at hk;obtain⟨c,rfl,hc⟩:=hk;simp only[kc,Kd.cB] at hn;refine kU rfl hc rfl (by decide +kernel) ?_;refine(Zr rfl (Zr rfl ⟨a,b,ns,n,rfl,g,by omega,λH1 s1 h1=>?_⟩));have ev:val ns .num room n=(.int (num ns (n+1)),n+1):=by simp only[val]
  rw[ev] at q;exact q _ H1 [] (SB.f7 s1) h1 (hT.sb hb s1) (by unfold Own;exact⟨rfl,rfl⟩) Q0t λc hc=>absurd hc (by simp)
 |gp=>
  unfold KA at hk;obtain⟨c,rfl,hc⟩:=hk;simp only[kc,Kd.cB] at hn;refine gY rfl hc rfl (by decide +kernel) ?_;refine kU rfl hc rfl (by decide +kernel) ?_;refine(Zr rfl (Zr rfl ⟨a,b,ns,n,rfl,g,by omega,λH1 s1 h1=>?_⟩));have ev:val ns .gp room n=(.str (gp ns (n+1)),n+1):=by simp only[val]
  rw[ev] at q;exact q _ H1 [] (SB.f7 s1) h1 (hT.sb hb s1) (by unfold Own;exact⟨rfl,rfl⟩) Q0t λc hc=>absurd hc (by simp)
 |fT fs=>
  unfold KA at hk;obtain⟨pk,pb,xs,rfl,U,aC,aD⟩:=hk;unfold Kd.W at hW;obtain⟨a5,bf,aU⟩:=hW;refine gY rfl U rfl (by decide +kernel) ?_;refine gY rfl U rfl (by decide +kernel) ?_;refine kU rfl U rfl (by decide +kernel) ?_;intro p hp;have a6:b≠p:=ff hb hp;have bg:Pt≠p:=ff hP hp;have s0:Same H (upd H p (.dK [])):=Same.new hp;have bh:val ns (.fT fs) room n=(.dct (fE ns fs room n).1,(fE ns fs room n).2):=by simp only[val]
  rw[bh] at q;simp only[kc,Kd.cB] at hn
  refine(Zr rfl ⟨pk,_,_,Zr rfl ⟨rfl,eX.of (s0 _ _ U),rfl,pb,rfl,⟨_,eX.of (s0 _ _ aC)⟩,qF (xs:=xs) (λi σ H'=>∃x2 x3 x4 x5 kvs fq,σ=σU a b (.ref pk) room (some (.ref p)) x2 x3 x4 x5/\fQ b Pt H H'/\H' b=some (.lst [.int (fE ns (fs.take i) room n).2])/\fi Pt iD iE H'/\
   H' p=some (.dK kvs)/\fe H' kvs (fE ns (fs.take i) room n).1 fq/\fq.Nodup/\∀c∈fq,H c=none/\c≠p) ?_ ?_ ?_ ?_⟩⟩)
  . rw[Fs.take_zero];refine⟨_,_,_,_,[],[],rfl,Kp.of s0,by simp only[fE];exact s0 _ _ hb,hT.same s0,eW,?_,Q0t,λc hc=>absurd hc (by simp)⟩;simp only[fE];unfold fe;exact⟨rfl,rfl⟩
  . intro i σ H' _ zq;obtain⟨x2,x3,x4,x5,kvs,fq,rfl,kp,_⟩:=zq;exact eX.of (fQ.tu kp hb hT _ _ aC)
  . intro i v σ H' hv zq;obtain⟨x2,x3,x4,x5,kvs,fq,rfl,kp,af,ag,aI,hO,aE,ah⟩:=zq;have a7:=fQ.tu kp hb hT;obtain⟨c,u,nm,k,rfl,ai,hc,hk⟩:=FA.get fs aD hv;have cn:=om ns (fs.take i) room n Y;have cb:=Fs.Cm ai;refine⟨c,Zr rfl ⟨eX.of (a7 _ _ hc),rfl,_,Zr rfl ⟨_,Zr rfl ⟨rfl,?_⟩⟩⟩⟩;refine(Zr rfl (Zr rfl (Zr rfl (Zr rfl ⟨a,b,ns,(fE ns (fs.take i) room n).2,u,k,room,rfl,fQ.g0 kp g hT af cn.1,ag,KA.mono a7 k hk,Fs.mY aU ai,Y,?_,by have:=va k room;omega,?_⟩))))
    . have:mu k room<mu (.fT fs) room:=u7 (by have:=Fs.mW ai;simp only[Kd.dep];omega) Y;omega
    intro v2 H2 fp f7 aF aG aA aB aj;have a8:H2 p=some (.dK kvs):=f7 p _ (λz=>z.elim (Ne.symm a6) (Ne.symm bg)) aI;have bi:=fe.f7 hO f7 af ag aT λc hc=>(ah c hc).1;have bj:nm ∉ (fE ns (fs.take i) room n).1.names:=by rw[rY];exact Fs.Ig a5 ai
    have bm:kvs.length<sizeLine:=by
     rw[fe.len hO,rY];have:(fs.take i).names.length<=fs.names.length:=by rw[Fs.vb,Q0o];omega
     exact ig (by omega)
    refine(Zr rfl (Zr rfl ⟨p,Zr rfl ⟨ki.k (k:=Sum.inr nm) a8 bm,?_⟩⟩));rw[rB (fe.BW hO bj)];have a9:Mu H2 p:=.inr ⟨_,a8⟩;have ba:Tu H2 (upd H2 p (.dK (kvs++[(Sum.inr nm,v2)]))):=Tu.wr λys z=>a9.uS ys z
    have aM:∀c∈fp,H c=none/\c≠p:=λc hc=>by
     have z:=aj c hc;exact⟨fQ.fresh kp af ag z,λe=>by rw[e,aI] at z;cases z⟩
    have sn:=Cg ns nm k room (fs.take i) n;rw[Fs.take_succ ai,sn];refine⟨_,_,_,_,_,fq++fp,rfl,λc o nc e=>?_,by rw[eU a6];exact aF,aG.wr a9,eW,?_,?_,?_⟩
    . rw[eU (ff e hp)];exact f7 c o nc (kp c o nc e)
    . exact fe.snoc (aA.keep ba _ λc hc o e=>by rw[eU (aM c hc).2];exact e) _ (bi.keep ba _ λc hc o e=>by rw[eU (ah c hc).2];exact e)
    . refine List.nodup_append.mpr ⟨aE,aB,λc hc d hd=>?_⟩;intro e;subst e;obtain⟨o,eo⟩:=(fe.alive _ hO c hc).ex;rw[aj c hd] at eo;cases eo
    . intro c hc;rcases List.mem_append.mp hc with z|z
      . exact ah c z
      . exact aM c z
  . intro σ H' zq;obtain⟨x2,x3,x4,x5,kvs,fq,rfl,kp,af,ag,aI,hO,aE,ah⟩:=zq;rw[FA.len fs aD,Fs.take_all] at af hO;refine(Zr rfl (q (.ref p) H' (p::fq) kp af ag ?_ ?_ ?_))
    . unfold Own;exact⟨p,kvs,fq,rfl,aI,rfl,hO⟩
    . exact List.nodup_cons.mpr ⟨λhm=>(ah p hm).2 rfl,aE⟩
    . intro c hc;rcases List.mem_cons.mp hc with z|z
      . rw[z];exact hp
      . exact(ah c z).1
 |rows key by_ fs=>
  have aV:=hk;unfold KA at hk;obtain⟨pk,pb,xs,rfl,U,aC,aD⟩:=hk;simp only[kc] at hn;refine gY rfl U rfl (by decide +kernel) ?_;refine gY rfl U rfl (by decide +kernel) ?_;refine gY rfl U rfl (by decide +kernel) ?_;refine kU rfl U rfl (by decide +kernel) ?_;exact(Zr rfl (Zr rfl (Zr rfl (Zr rfl ⟨a,b,ns,n,_,key,by_,fs,room,rfl,g,hT,aV,hW,Y,aZ,hn,q⟩))))
 |tree k=>
  have aV:=hk;unfold KA at hk;obtain⟨pk,u,rfl,U,bn⟩:=hk;unfold Kd.W at hW;refine gY rfl U rfl (by decide +kernel) ?_;refine gY rfl U rfl (by decide +kernel) ?_;refine gY rfl U rfl (by decide +kernel) ?_;refine gY rfl U rfl (by decide +kernel) ?_;refine kU rfl U rfl (by decide +kernel) ?_;have ev:=Ia ns k room n Y;rw[ev] at q;simp only[kc,Kd.cB] at hn;have bF:k.cB+1<=(k.cB+1) * gr room:=Q3c _ (u_ room).1
  have m1:mu k (room / 2)<=N:=by
   have:mu k (room / 2)<mu (.tree k) room:=u7 (by simp only[Kd.dep];omega) (by omega);omega
  refine(Zr rfl (Zr rfl (Zr rfl ⟨pk,_,_,Zr rfl ⟨rfl,eX.of U,rfl,Zr rfl ⟨_,Zr rfl ⟨rfl,⟨by decide,by decide⟩,a,b,ns,n,u,k,room / 2,(by rw[e2];rfl),g,hT,bn,hW,by omega,m1,by have:=va k (room / 2);have:k.cB+1<=(k.cB+1) * gr room:=Q3c _ (u_ room).1;omega,?_⟩⟩⟩⟩)));intro vt Ht aJ aW aK bb bo bp aX;have ct:=oj ns k (room / 2) n (by omega);generalize bG:val ns k (room / 2) n=J at *;refine(Zr rfl (Zr rfl ⟨a,b,ns,J.2,rfl,fQ.g0 aW g hT aK ct.1,by omega,λH1 s1 h1=>?_⟩));have g1:G0 K H1 a b ns (J.2+1):=(fQ.g0 aW g hT aK ct.1).go s1 h1 (by omega);have aY:=bb.sb aK s1;have k1:fQ b Pt H H1:=aW.trans (SB.f7 s1);have aP:Own H1 vt J.1 aJ:=bo.f7 (SB.f7 s1) aK bb aT aX;refine(Zr rfl ⟨_,Zr rfl ⟨rfl,_,Zr rfl ⟨rfl,by omega,?_⟩⟩⟩);have bq:=Q0i (nx ns (J.2+1)) (show((room:Int)+1)≠0 by omega);have br:=Q0k (nx ns (J.2+1)) (show(0:Int)<(room:Int)+1 by omega);have bt:=λm=>Ie ns k (room / 2) m (by omega);have bd:=λi=>uR (g:=val ns (.tree k) (room / 2)) (N:=(k.cB+1) * gr (room / 2)) bt i (J.2+1)
  refine(Zr rfl (Zr rfl (Zr rfl ⟨by omega,by omega,λi m ys H'=>m=(nx ns (J.2+1) % ((room:Int)+1)).toNat - i/\i<=(nx ns (J.2+1) % ((room:Int)+1)).toNat/\ys.length=i/\∃fq,fQ b Pt H1 H'/\H' b=some (.lst [.int (times (val ns (.tree k) (room / 2)) i (J.2+1)).2])/\fi Pt iD iE H'/\
   fm H' ys (times (val ns (.tree k) (room / 2)) i (J.2+1)).1 fq/\fq.Nodup/\∀c∈fq,H1 c=none,⟨(nx ns (J.2+1) % ((room:Int)+1)).toNat,rfl,Q07 _,rfl,[],Kp.refl _ _,h1,aY,?_,Q0t,λc hc=>absurd hc (by simp)⟩,?_⟩)))
  . simp only[times];unfold fm;exact⟨rfl,rfl⟩
  intro i m ys H' zq;obtain⟨rfl,bB,bu,fq,kp,af,ag,hO,aE,ah⟩:=zq;by_cases hi:i<(nx ns (J.2+1) % ((room:Int)+1)).toNat
  . refine .inr ⟨hi,ig (by omega),λx bv y=>?_⟩;obtain⟨rfl,rfl⟩:=y;refine⟨rfl,yes (fY ?_)⟩;have bw:1<=room:=by omega
    have bH:=bd i
    have bx:(times (val ns (.tree k) (room / 2)) i (J.2+1)).2+((k.cB+1) * gr (room / 2):Nat)<=1000000000000:=by
     have a1:=Q3b (k.cB+1) (Ic bw Y);have a2:(k.cB+1) * (1+room * gr (room / 2))=(k.cB+1)+room * ((k.cB+1) * gr (room / 2)):=by rw[Nat.mul_add,Nat.mul_one,Q37]
     have a3:(i+1) * ((k.cB+1) * gr (room / 2))<=room * ((k.cB+1) * gr (room / 2)):=Q14 _ (by omega);have a4:(i+1) * ((k.cB+1) * gr (room / 2))=i * ((k.cB+1) * gr (room / 2))+(k.cB+1) * gr (room / 2):=Q1m _ _;omega
    have kA:fQ b Pt H bv:=k1.trans kp;refine(Zr rfl (Zr rfl (Zr rfl (Zr rfl ⟨_,Zr rfl ⟨rfl,⟨by decide,by decide⟩,a,b,ns,(times (val ns (.tree k) (room / 2)) i (J.2+1)).2,.ref pk,.tree k,room / 2,(by rw[e2];rfl),fQ.g0 kA g hT af (by omega),ag,KA.mono (fQ.tu kA hb hT) _ aV,(by unfold Kd.W;exact hW),by omega,(by simp only[mu] at aZ ⊢;omega),bx,?_⟩⟩))));intro v2 H2 fp f7 aF aG aA aB aj;have sn:=Ci (val ns (.tree k) (room / 2)) i (J.2+1);refine⟨(nx ns (J.2+1) % ((room:Int)+1)).toNat - (i+1),by omega,rfl,hi,by rw[Q09,bu];rfl,fq++fp,kp.trans f7,by rw[sn];exact aF,aG,?_,?_,?_⟩
    . rw[sn];exact fm.snoc aA _ (fm.f7 hO f7 af ag ⟨_,h1⟩ ah)
    . refine List.nodup_append.mpr ⟨aE,aB,λc hc d hd=>?_⟩;intro e;subst e;obtain⟨o,eo⟩:=(fm.alive _ hO c hc).ex;rw[aj c hd] at eo;cases eo
    . intro c hc;rcases List.mem_append.mp hc with z|z
      . exact ah c z
      . exact fQ.fresh kp af ag (aj c z)
  . have ei:i=(nx ns (J.2+1) % ((room:Int)+1)).toNat:=by omega
    subst ei;refine .inl ⟨Q00 _,λpl aL=>⟨gE,λt ht=>?_⟩⟩;have sl:Same H' (upd H' pl (.lst ys)):=Same.new aL;have st:Same (upd H' pl (.lst ys)) (upd (upd H' pl (.lst ys)) t (.tup [vt,.ref pl])):=Same.new ht;have sa:=sl.trans st;have aQ:Own H' vt J.1 aJ:=aP.f7 kp h1 aY aT aX;have kA:fQ b Pt H H':=k1.trans kp;refine q (.ref t) _ (aJ++(pl::fq)) (kA.trans (Kp.of sa)) (sa _ _ af) (ag.same sa) ?_ ?_ ?_
    . unfold Own;refine⟨t,Zr rfl ⟨eW,?_⟩⟩;unfold fm;refine⟨vt,[.ref pl],aJ,pl::fq,rfl,rfl,Own.same sa aQ,?_⟩;unfold fm;refine⟨.ref pl,[],pl::fq,[],rfl,by simp,?_,by unfold fm;exact⟨rfl,rfl⟩⟩;unfold Own;exact⟨pl,ys,fq,rfl,st _ _ eW,rfl,fm.same sa hO⟩
    . refine List.nodup_append.mpr ⟨bp,List.nodup_cons.mpr ⟨λhm=>?_,aE⟩,λc hc d hd=>?_⟩
      . obtain⟨o,eo⟩:=(fm.alive _ hO pl hm).ex;rw[aL] at eo;cases eo
      . intro e;subst e;rcases List.mem_cons.mp hd with z|z
        . obtain⟨o,eo⟩:=(Own.alive _ aQ c hc).ex;rw[z,aL] at eo;cases eo
        . obtain⟨o,eo⟩:=(Own.alive _ aP c hc).ex;rw[ah c z] at eo;cases eo
    . intro c hc;rcases List.mem_append.mp hc with z|z
      . exact aX c z
      . rcases List.mem_cons.mp z with y|y
        . rw[y];exact fQ.fresh kA af ag aL
        . exact fQ.fresh k1 h1 aY (ah c y)
 |gZ fs=>
  unfold KA at hk;obtain⟨pk,pb,xs,rfl,U,aC,aD⟩:=hk;unfold Kd.W at hW;obtain⟨a5,bf,bI,aU⟩:=hW;refine gY rfl U rfl (by decide +kernel) ?_;refine gY rfl U rfl (by decide +kernel) ?_;refine gY rfl U rfl (by decide +kernel) ?_;refine gY rfl U rfl (by decide +kernel) ?_;refine gY rfl U rfl (by decide +kernel) ?_;simp only[kc,Kd.cB] at hn;refine(Zr rfl ⟨pk,_,_,Zr rfl ⟨rfl,eX.of U,rfl,Zr rfl (Zr rfl ⟨a,b,ns,n,rfl,g,by omega,λH1 s1 h1=>?_⟩)⟩⟩);have aH:=s1.tu hb;have bc:(xs.length:Int)=(fs.names.length:Int):=by rw[FA.len fs aD]
  have bq:=Q0i (nx ns (n+1)) (show((fs.names.length:Int))≠0 by omega);have br:=Q0k (nx ns (n+1)) (show(0:Int)<(fs.names.length:Int) by omega);obtain⟨nm,k,ai⟩:=Fs.BC (fs:=fs) (i:=(nx ns (n+1) % (fs.names.length:Int)).toNat) (by omega);obtain⟨c,u,bz,hc,hk⟩:=FA.at aD ai
  have bA:gW xs (nx ns (n+1) % ((xs.length:Nat):Int))=some (.ref c):=by
   have e:nx ns (n+1) % ((xs.length:Nat):Int)=(((nx ns (n+1) % (fs.names.length:Int)).toNat:Nat):Int):=by rw[bc];omega
   rw[e];exact gL bz
  refine(Zr rfl ⟨pk,_,_,Zr rfl ⟨rfl,eX.of (aH _ _ U),rfl,pb,Zr rfl ⟨.inr (eX.of (aH _ _ aC)),_,Zr rfl ⟨rfl,by rw[bc];omega,pb,_,_,Zr rfl ⟨rfl,eX.of (aH _ _ aC),bA,?_⟩⟩⟩⟩⟩);refine⟨c,Zr rfl ⟨eX.of (aH _ _ hc),rfl,_,Zr rfl ⟨_,Zr rfl ⟨rfl,?_⟩⟩⟩⟩
  have ev:val ns (.gZ fs) room n=(pairD (.str nm) (val ns k room (n+1)).1,(val ns k room (n+1)).2):=by
   show iz ns fs (nx ns (n+1) % (fs.names.length:Int)).toNat room (n+1)=_;exact Cj ns fs _ room (n+1) nm k ai
  rw[ev] at q;have cb:=Fs.Ck ai;refine(Zr rfl (Zr rfl (Zr rfl (Zr rfl (Zr rfl ⟨a,b,ns,n+1,u,k,room,rfl,g.go s1 h1 (by omega),hT.sb hb s1,KA.mono aH k hk,Fs.mY aU ai,Y,?_,by have:=va k room;omega,?_⟩)))))
  . have:mu k room<mu (.gZ fs) room:=u7 (by have:=Fs.mW ai;simp only[Kd.dep];omega) Y;omega
  intro v2 H2 fp f7 aF aG aA aB aj;have be:fQ b Pt H H2:=(SB.f7 s1).trans f7;refine⟨gE,λt ht=>?_⟩;have st:Same H2 (upd H2 t (.tup [.str nm,v2])):=Same.new ht;refine q (.ref t) _ fp (be.trans (Kp.of st)) (st _ _ aF) (aG.same st) ?_ aB λc hc=>fQ.fresh (SB.f7 s1) h1 (hT.sb hb s1) (aj c hc);unfold Own;refine⟨t,Zr rfl ⟨eW,?_⟩⟩;unfold fm;refine⟨.str nm,[v2],[],fp,rfl,rfl,by unfold Own;exact⟨rfl,rfl⟩,?_⟩;unfold fm;exact⟨v2,[],fp,[],rfl,by simp,Own.same st aA,by unfold fm;exact⟨rfl,rfl⟩⟩
theorem Ct {Pt c:Addr}{ae:Addr}{af:FuncData}(T:Tb mg)(J:Dn K mg "_law_value" iL (top 35) ab ac)(U:Dn K mg "_law_rows" iL (top 34) ak ag)(ah:ag.code=.ref c)(ap:W.CodeHd base c Pt)(aq:BM mg base)(I:Dn K mg "_law_next" fJ (top 25) al am)(L:Dn K mg "_law_number" fJ (top 26) ai aj)(Y:Dn K mg "_law_word" fJ (top 27) an ao)(aa:Dn K mg "_law_rank" m8 (top 33) ae af):∀N:Nat,eZ P w K mg base e_ (2 * N+5) ab ac iL (nh K Pt N)
 |0=>Im T J
 |N+1=>by
  have ih:=Ct T J U ah ap aq I L Y aa N;have Nx:=p8 (P:=P) (w:=w) (base:=base) T I;have R:=Ik N T U ah ap aq I Nx aa (Cp T aa) J ih;exact Io N T J ih U R I Nx L (HM T L I Nx) Y (HP T Y I Nx)
mutual
def D.Sm:D->Prop
 | .int _=>True
 | .str _=>True
 | .non=>True
 | .boo _=>True
 | .tup xs=>xs.len<=100/\xs.Sm
 | .lst xs=>xs.len<=100/\xs.Sm
 | .dct m=>m.len<=100/\m.Sm
def Ds.Sm:Ds->Prop
 | .nil=>True
 | .cons _ d r=>d.Sm/\r.Sm
end
theorem Ds.vd:∀{xs:Ds}{i:Nat}{d:D},xs.Sm->xs.at i=some d->d.Sm
 | .nil,_,_,_,h=>by cases h
 | .cons _ d r,0,_,w,h=>by unfold Ds.Sm at w;cases h;exact w.1
 | .cons _ d r,i+1,_,w,h=>by unfold Ds.Sm at w;exact Ds.vd (xs:=r) (i:=i) w.2 h
theorem Ds.rZ:∀{xs:Ds}{x:Str}{d:D},xs.Sm->xs.get x=some d->d.Sm
 | .nil,_,_,_,h=>by cases h
 | .cons y e r,x,d,w,h=>by
   unfold Ds.Sm at w;have h:(if x=y then some e else r.get x)=some d:=h;by_cases c:x=y
   . rw[if_pos c] at h;cases h;exact w.1
   . rw[if_neg c] at h;exact Ds.rZ w.2 h
theorem ni:∀(m:Ds),m.names.length=m.len
 | .nil=>rfl
 | .cons _ _ r=>by show r.names.length+1=r.len+1;rw[ni r]
theorem qa:∀l:List Ds,(gA l).len=l.length
 |[]=>rfl
 |m::r=>by show(gA r).len+1=r.length+1;rw[qa r]
theorem r8:∀{l:List Ds},(∀m∈l,(D.dct m).Sm)->(gA l).Sm
 |[],_=>by unfold gA Ds.Sm;trivial
 |m::r,h=>by
  unfold gA Ds.Sm;exact⟨h m Q04,r8 λx I=>h x (Q0e _ I)⟩
theorem ve:∀{l:List Ds},(gA l).Sm->∀m∈l,(D.dct m).Sm
 |[],_,m,I=>absurd I (by simp)
 |x::r,h,m,I=>by
  unfold gA Ds.Sm at h;rcases List.mem_cons.mp I with e|e
  . rw[e];exact h.1
  . exact ve h.2 m e
theorem vf:∀{l:List Ds},∀m∈l,m.dep+1<=(gA l).dep
 |[],m,I=>absurd I (by simp)
 |x::r,m,I=>by
  simp only[gA,Ds.dep,D.dep];rcases List.mem_cons.mp I with e|e
  . rw[e];omega
  . have:=vf (l:=r) m e;omega
theorem Cu (g:Int->D × Int):∀(m:Nat) (n:Int),(times g m n).1.len=m
 |0,_=>rfl
 |m+1,n=>by show(times g m (g n).2).1.len+1=m+1;rw[Cu g m]
theorem Cw {g:Int->D × Int}(I:∀n,(g n).1.Sm):∀(m:Nat) (n:Int),(times g m n).1.Sm
 |0,_=>by unfold times Ds.Sm;trivial
 |m+1,n=>by
  unfold times Ds.Sm;exact⟨I n,Cw I m _⟩
theorem Cy {a b:D}(h1:a.Sm)(h2:b.Sm):(pairD a b).Sm:=by
 unfold D.Sm;exact⟨by show 2<=100;decide,by unfold Ds.Sm;exact⟨h1,by unfold Ds.Sm;exact⟨h2,by unfold Ds.Sm;trivial⟩⟩⟩
theorem Cz {ns:List Int}{f:Nat->Int->D × Int}(I:∀room n,room<8->(f room n).1.Sm):∀(fu room:Nat) (n:Int),room<8->(g_ ns f fu room n).1.Sm
 |0,_,_,_=>by unfold g_ D.Sm;trivial
 |fu+1,room,n,h=>by
  unfold g_;refine Cy (I _ _ (by omega)) ?_;unfold D.Sm;refine⟨?_,Cw (λn=>Cz I fu (room / 2) n (by omega)) _ _⟩;rw[Cu];have:=mod_le (a:=nx ns ((f (room / 2) n).2+1)) h;omega
theorem vg {g:Int->Ds × Int}{key:Str}:∀(m:Nat) (I:List Ds) (n:Int),(gB g key m I n).1.length<=I.length+m
 |0,I,n=>by simp[gB]
 |m+1,I,n=>by
  unfold gB;split
  . have:=vg (g:=g) (key:=key) m I (g n).2;omega
  . have:=vg (g:=g) (key:=key) m (I++[(g n).1]) (g n).2;rw[Q09] at this;have e:[(g n).1].length=1:=rfl;omega
mutual
theorem vh (ns:List Int):∀(k:Kd),k.W->∀(room:Nat) (n:Int),room<8->(val ns k room n).1.Sm
 | .num,_,_,_,_=>by unfold val D.Sm;trivial
 | .gp,_,_,_,_=>by unfold val D.Sm;trivial
 | .fT fs,w,room,n,h=>by
   unfold Kd.W at w;unfold val;exact r_ ns fs w.2.2 room n h w.2.1
 | .rows key by_ fs,w,room,n,h=>by
   unfold Kd.W at w;unfold val D.Sm;refine⟨?_,r8 λm I=>?_⟩
   . rw[qa,(kX key by_ _).length_eq];have:=vg (g:=fE ns fs (room / 2)) (key:=key) (nx ns (n+1) % ((room:Int)+1)).toNat [] (n+1);have e:=mod_le (a:=nx ns (n+1)) h;have L:([]:List Ds).length=0:=rfl;omega
   . exact oh (R:=λm=>(D.dct m).Sm) (λn=>r_ ns fs w.2.2.1 (room / 2) n (by omega) w.2.1) _ _ _ (λr J=>absurd J (by simp)) m ((kX key by_ _).mem_iff.mp I)
 | .tree k,w,room,n,h=>by
   unfold Kd.W at w;unfold val;exact Cz (λroom n h=>vh ns k w room n h) 4 room n h
 | .gZ fs,w,room,n,h=>by
   unfold Kd.W at w;unfold val;exact CA ns fs w.2.2.2 _ room _ h
theorem r_ (ns:List Int):∀(fs:Fs),fs.W->∀(room:Nat) (n:Int),room<8->fs.names.length<=12->(D.dct (fE ns fs room n).1).Sm
 | .nil,_,_,_,_,_=>by
   unfold fE D.Sm;exact⟨by show 0<=100;omega,by unfold Ds.Sm;trivial⟩
 | .cons x k r,w,room,n,h,hl=>by
   unfold Fs.W at w;have hl:r.names.length+1<=12:=hl;have a:=vh ns k w.1 room n h;have b:=r_ ns r w.2.2 room (val ns k room n).2 h (by omega);unfold D.Sm at b;unfold fE D.Sm;refine⟨?_,by unfold Ds.Sm;exact⟨a,b.2⟩⟩;show(fE ns r room (val ns k room n).2).1.len+1<=100;rw[<-ni,rY];omega
theorem CA (ns:List Int):∀(fs:Fs),fs.W->∀(i room:Nat) (n:Int),room<8->(iz ns fs i room n).1.Sm
 | .nil,_,_,_,_,_=>by unfold iz D.Sm;trivial
 | .cons x k r,w,0,room,n,h=>by
   unfold Fs.W at w;unfold iz;exact Cy (by unfold D.Sm;trivial) (vh ns k w.1 room n h)
 | .cons x k r,w,i+1,room,n,h=>by
   unfold Fs.W at w;unfold iz;exact CA ns r w.2.2 i room n h
end
theorem iX.at {P:D->Prop}:∀{xs:Ds}{i:Nat}{d:D},iX P xs->xs.at i=some d->Tree P d
 | .nil,_,_,_,h=>by cases h
 | .cons _ d r,0,_,w,h=>by unfold iX at w;cases h;exact w.1
 | .cons _ d r,i+1,_,w,h=>by unfold iX at w;exact iX.at (xs:=r) (i:=i) w.2 h
theorem Own.pair {H:Hp}{v:V}{x y:Str}{a b:D}{I:List Addr}(h:Own H v (.tup (.cons x a (.cons y b .nil))) I):∃c v1 v2 f1 f2,v=.ref c/\H c=some (.tup [v1,v2])/\I=f1++f2/\Own H v1 a f1/\Own H v2 b f2:=by
 unfold Own at h;obtain⟨c,vs,rfl,hc,h⟩:=h;unfold fm at h;obtain⟨v1,q,f1,f2,rfl,rfl,J,h⟩:=h;unfold fm at h;obtain⟨v2,U,g,f3,rfl,rfl,L,h⟩:=h;unfold fm at h;obtain⟨rfl,rfl⟩:=h;exact⟨c,v1,v2,f1,g,rfl,hc,by simp,J,L⟩
theorem CC:∀{l:List Ds}{i:Nat}{d:D},(gA l).at i=some d->∃m∈l,d=.dct m
 |[],_,_,h=>by cases h
 |m::r,0,_,h=>by cases h;exact⟨m,Q04,rfl⟩
 |m::r,i+1,d,h=>by
  obtain⟨I,h1,h2⟩:=CC (l:=r) (i:=i) h;exact⟨I,Q0e _ h1,h2⟩
noncomputable def jB:List D->Ds
 |[]=>.nil
 |d::r=>.cons "" d (jB r)
noncomputable def Ds.upd:Ds->Str->D->Ds
 | .nil,_,_=>.nil
 | .cons y d r,x,e=>.cons y (if y=x then e else d) (r.upd x e)
noncomputable def Ds.del:Ds->Str->Ds
 | .nil,_=>.nil
 | .cons y d r,x=>if y=x then r.del x else .cons y d (r.del x)
noncomputable def hasB (fs:Fs) (m:Ds):Bool:=decide (m.names.length=fs.names.length) && fs.names.all λx=>decide (x∈m.names)
theorem CD {fs:Fs}{m:Ds}(h:m.names=fs.names):hasB fs m=true:=by
 unfold hasB;rw[h,decide_eq_true rfl,Bool.true_and,Q13];exact λx I=>decide_eq_true I
def Iq (fs:Fs) (m:Ds):Prop:=hasB fs m=true/\∀x k,fs.get x=some k->∃e,m.get x=some e/\fC k e
def i9 (k:Kd) (d:D):Prop:=match k with
 | .fT fs=>∃m,d=.dct m/\Iq fs m
 |k=>fC k d
theorem i9.of {k:Kd}{d:D}(h:fC k d):i9 k d:=by
 cases k with
 |fT fs=>
  unfold fC at h;obtain⟨m,e,hF⟩:=h;exact⟨m,e,CD hF.names,λx k I=>hF.get I⟩
 |_=>exact h
inductive gP:Nat->Kd->D->List Key->Prop
 |num {n:Nat} {d:D} (h:∀z,d≠ .int z):gP (n+1) .num d []
 |gp {n:Nat} {d:D} (h:∀x,d≠ .str x):gP (n+1) .gp d []
 |l6 {n:Nat} {fs:Fs} {d:D} (h:∀m,d=.dct m->m.names.length≠fs.names.length\/∃x∈fs.names,x ∉ m.names):gP (n+1) (.fT fs) d []
 |lH {n:Nat} {fs:Fs} {m:Ds} {i:Nat} {x:Str} {k:Kd} {d:D} {p:List Key} (h1:hasB fs m=true) (ha:fs.at i=some (x,k))
   (hj:∀j y q,j<i->fs.at j=some (y,q)->∃e,m.get y=some e/\fC q e/\e.dep<=n/\e.Sm) (hg:m.get x=some d) (hm:gP n k d p):gP (n+1) (.fT fs) (.dct m) (Sum.inr x::p)
 |rows0 {n:Nat} {key by_:Str} {fs:Fs} {d:D} (h:∀xs,d≠ .lst xs):gP (n+1) (.rows key by_ fs) d []
 |qb {n:Nat} {key by_:Str} {fs:Fs} {xs:Ds} {i:Nat} {e:D} {p:List Key} {rs:List Ds} (hl:xs.len<=100) (hi:i<=rs.length) (hat:∀j,j<i->xs.at j=some (.dct (rs.getD j .nil)))
   (hf:∀m∈rs,gv fs m/\m.dep<=n/\m.Sm) (hs:rs.Pairwise (ji key by_)) (hk:(rs.map λm=>keyOf m key).Nodup) (he:xs.at i=some e) (hm:gP (n+1) (.fT fs) e p):gP (n+1) (.rows key by_ fs) (.lst xs) (Sum.inl (i:Int)::p)
 |oA {n:Nat} {key by_:Str} {fs:Fs} {xs:Ds} {i:Nat} {rs:List Ds} (hl:xs.len<=100) (h0:0<i) (hi:i<rs.length) (hat:∀j,j<=i->xs.at j=some (.dct (rs.getD j .nil)))
   (hf:∀m∈rs,gv fs m/\m.dep<=n/\m.Sm) (hs:(rs.take i).Pairwise (ji key by_)) (hk:((rs.take i).map λm=>keyOf m key).Nodup) (hno:¬ji key by_ (rs.getD (i - 1) .nil) (rs.getD i .nil)):gP (n+1) (.rows key by_ fs) (.lst xs) [Sum.inl (i:Int)]
 |qc {n:Nat} {k:Kd} {d:D} (h:∀xs as,d=.tup xs->xs.len=2->xs.at 1≠some (.lst as)):gP (n+1) (.tree k) d []
 |sd {n:Nat} {k:Kd} {t:D} {as:Ds} {p:List Key} (hm:gP n k t p):gP (n+1) (.tree k) (pairD t (.lst as)) (Sum.inr "knot"::p)
 |se {n:Nat} {k:Kd} {t e:D} {as:Ds} {i:Nat} {p:List Key} (ht:fC k t/\t.dep<=n/\t.Sm) (hl:as.len<=100) (hj:∀j a,j<i->as.at j=some a->Tree (fC k) a/\a.dep<=n/\a.Sm) (he:as.at i=some e) (hm:gP n (.tree k) e p):
   gP (n+1) (.tree k) (pairD t (.lst as)) (Sum.inl (i:Int)::p)
 |qd {n:Nat} {fs:Fs} {d:D} (h:∀xs,d=.tup xs->xs.len=2->(∃x,xs.at 0=some (.str x)/\x ∉ fs.names)\/(∃z,xs.at 0=some (.int z))\/∃l,xs.at 0=some (.lst l)):gP (n+1) (.gZ fs) d []
 |sg {n:Nat} {fs:Fs} {x:Str} {k:Kd} {v:D} {p:List Key} (hg:fs.get x=some k) (hm:gP n k v p):gP (n+1) (.gZ fs) (pairD (.str x) v) (Sum.inr x::p)
theorem gP.up {n:Nat}{k:Kd}{d:D}{p:List Key}(h:gP n k d p):gP (n+1) k d p:=by
 induction h with
 |num h=>exact .num h
 |gp h=>exact .gp h
 |l6 h=>exact .l6 h
 |lH h1 ha L U _ I=>exact .lH h1 ha (λj y q l e=>let⟨e,a,b,c,d⟩:=L j y q l e;⟨e,a,b,by omega,d⟩) U I
 |rows0 h=>exact .rows0 h
 |qb hl hi J Y hs hk he _ I=>exact .qb hl hi J (λm hm=>let⟨a,b,c⟩:=Y m hm;⟨a,by omega,c⟩) hs hk he I
 |oA hl h0 hi J Y hs hk aa=>exact .oA hl h0 hi J (λm hm=>let⟨a,b,c⟩:=Y m hm;⟨a,by omega,c⟩) hs hk aa
 |qc h=>exact .qc h
 |sd _ I=>exact .sd I
 |se ht hl L he _ I=>exact .se ⟨ht.1,by omega,ht.2.2⟩ hl (λj a l e=>let⟨x,y,z⟩:=L j a l e;⟨x,by omega,z⟩) he I
 |qd h=>exact .qd h
 |sg U _ I=>exact .sg U I
theorem Ds.sj:∀(m:Ds) (x:Str) (e:D),(m.upd x e).names=m.names
 | .nil,_,_=>rfl
 | .cons y d r,x,e=>by
   show y::(r.upd x e).names=_;rw[Ds.sj r x e];rfl
theorem Ds.vi:∀(m:Ds) (x:Str),x ∉ (m.del x).names
 | .nil,_=>by simp[Ds.del,Ds.names]
 | .cons y d r,x=>by
   unfold Ds.del;split
   . exact Ds.vi r x
   . rename_i h;intro z;rcases List.mem_cons.mp (show x∈y::(r.del x).names from z) with e|e
     . exact h e.symm
     . exact Ds.vi r x e
theorem Ds.CF {x z:Str}(h:z≠x)(e:D):∀(m:Ds),(m.upd x e).get z=m.get z
 | .nil=>rfl
 | .cons y d r=>by
   show(if z=y then some (if y=x then e else d) else(r.upd x e).get z)=(if z=y then some d else r.get z);by_cases c:z=y
   . rw[if_pos c,if_pos c,if_neg (λq=>h (c.trans q))]
   . rw[if_neg c,if_neg c,Ds.CF h e r]
theorem Ds.vj {x:Str}(e:D):∀{m:Ds},x∈m.names->(m.upd x e).get x=some e
 | .nil,h=>by simp[Ds.names] at h
 | .cons y d r,h=>by
   show(if x=y then some (if y=x then e else d) else(r.upd x e).get x)=some e;by_cases c:x=y
   . rw[if_pos c,if_pos c.symm]
   . rw[if_neg c];rcases List.mem_cons.mp (show x∈y::r.names from h) with q|q
     . exact absurd q c
     . exact Ds.vj e q
theorem Ds.nj:∀{xs:Ds}{i:Nat}{d:D},xs.at i=some d->i<xs.len
 | .nil,_,_,h=>by cases h
 | .cons x d r,0,_,_=>by show 0<r.len+1;omega
 | .cons x d r,i+1,_,h=>by
   have:=Ds.nj (xs:=r) (i:=i) h;show i+1<r.len+1;omega
theorem vk:∀{fs:Fs}{x:Str}{v:D},ky fs x v->∃k,fs.get x=some k/\fC k v
 | .nil,_,_,h=>by unfold ky at h;exact h.elim
 | .cons y k r,x,v,h=>by
   unfold ky at h;rcases h with⟨e,f⟩|⟨e,h⟩
   . exact⟨k,by show(if x=y then some k else r.get x)=_;rw[if_pos e],f⟩
   . obtain⟨I,J,L⟩:=vk h;exact⟨I,by show(if x=y then some k else r.get x)=_;rw[if_neg e];exact J,L⟩
theorem Fs.vm:∀{fs:Fs}{x:Str}{k:Kd},fs.W->fs.get x=some k->k.W
 | .nil,_,_,_,h=>by cases h
 | .cons y q r,x,k,w,h=>by
   unfold Fs.W at w;have h:(if x=y then some q else r.get x)=some k:=h;by_cases e:x=y
   . rw[if_pos e] at h;cases h;exact w.1
   . rw[if_neg e] at h;exact Fs.vm w.2.2 h
theorem CG:∀{rs:List Ds}{i:Nat},i<rs.length->(gA rs).at i=some (.dct (rs.getD i .nil))
 |[],_,h=>by simp at h
 |m::r,0,_=>rfl
 |m::r,i+1,h=>by
  show(gA r).at i=_;rw[CG (by simpa using h)];rfl
theorem iX.all {P:D->Prop}{xs:Ds}(h:iX P xs){i:Nat}{d:D}(e:xs.at i=some d):Tree P d:=iX.at h e
theorem Ds.CH (x:Str)(e:D):∀m:Ds,(m.upd x e).dep<=max m.dep e.dep
 | .nil=>Q07 _
 | .cons y d r=>by
   have:=Ds.CH x e r;show max (if y=x then e else d).dep (r.upd x e).dep<=max (max d.dep r.dep) e.dep;split <;> omega
theorem Fs.oB:∀{fs:Fs}{x:Str}{k:Kd},fs.get x=some k->x∈fs.names
 | .cons y q r,x,k,h=>by
   unfold Fs.get at h;by_cases e:x=y
   . rw[e];exact Q04
   . rw[if_neg e] at h;exact Q0e _ (Fs.oB h)
noncomputable def kD:Key->D
 | .inl z=>.int z
 | .inr s=>.str s
def jM:Option Kd->Key->Prop
 |some .num,.inl _=>True
 |some .gp,.inr _=>True
 |_,_=>False
theorem jM.fit {o:Option Kd}{p:Key}(h:jM o p):∃k,o=some k/\lX k/\fC k (kD p):=by
 unfold jM at h;split at h
 . exact⟨.num,rfl,trivial,by unfold fC kD;exact⟨_,rfl⟩⟩
 . exact⟨.gp,rfl,trivial,by unfold fC kD;exact⟨_,rfl⟩⟩
 . exact h.elim
theorem jM.of {fs:Fs}{m:Ds}{x:Str}(f:gv fs m)(h:fs.pl x):jM (fs.get x) (keyOf m x):=by
 obtain⟨_,⟨z,_,e,k⟩|⟨s,_,e,k⟩⟩:=f.plain h
 . rw[e,k];exact trivial
 . rw[e,k];exact trivial
theorem Ir (p:Key):(kD p).dep=1:=by cases p <;> rfl
theorem Iu (p:Key):(kD p).Sm:=by cases p <;> (unfold kD D.Sm;trivial)
theorem Iv {m:Ds}{x:Str}{p:Key}(h:x∈m.names):keyOf (m.upd x (kD p)) x=p:=by
 unfold keyOf;rw[Ds.vj _ h]
 cases p <;> rfl
theorem Ds.CI {x:Str}{e:D}:∀{m:Ds},x ∉ m.names->m.upd x e=m
 | .nil,_=>rfl
 | .cons y d r,h=>by
   show Ds.cons y (if y=x then e else d) (r.upd x e)=_;rw[if_neg (λz=>h (by rw[z];exact Q04)),Ds.CI (m:=r) λz=>h (Q0e _ z)]
theorem gv.upd {x:Str}{k:Kd}{e:D}(J:fC k e):∀{fs:Fs}{m:Ds},fs.names.Nodup->fs.get x=some k->gv fs m->gv fs (m.upd x e)
 | .nil,_,_,h,_=>by cases h
 | .cons y q r,m,I,h,f=>by
   unfold gv at f;obtain⟨d,m,rfl,f1,f2⟩:=f;have I:(y::r.names).Nodup:=I;obtain⟨L,U⟩:=List.nodup_cons.mp I;unfold Fs.get at h;show gv _ (.cons y (if y=x then e else d) (m.upd x e));unfold gv;by_cases ex:x=y
   . rw[if_pos ex] at h
     cases h;subst ex;rw[if_pos rfl,Ds.CI (by rw[f2.names];exact L)];exact⟨_,Zr rfl ⟨J,f2⟩⟩
   . rw[if_neg ex] at h;rw[if_neg (λz=>ex z.symm)];exact⟨_,Zr rfl ⟨f1,gv.upd J U h f2⟩⟩
theorem Ds.Iw (x:Str)(e:D)(m:Ds):(m.upd x e).len=m.len:=by rw[<-ni,Ds.sj,ni]
theorem Ds.CJ {x:Str}{e:D}(I:e.Sm):∀{m:Ds},m.Sm->(m.upd x e).Sm
 | .nil,h=>h
 | .cons y d r,h=>by
   unfold Ds.Sm at h;show Ds.Sm (.cons y (if y=x then e else d) (r.upd x e));unfold Ds.Sm;refine⟨?_,Ds.CJ I h.2⟩;split
   . exact I
   . exact h.1
def nq (fs:Fs) (m:Ds):Prop:=gv fs m/\m.dep<=fs.dB+1/\(D.dct m).Sm
theorem nq.upd {fs:Fs}{m:Ds}{x:Str}{p:Key}(I:fs.names.Nodup)(h:nq fs m)(hp:jM (fs.get x) p):nq fs (m.upd x (kD p)):=by
 obtain⟨k,e,_,J⟩:=hp.fit;refine⟨h.1.upd J I e,?_,?_⟩
 . have:=Ds.CH x (kD p) m;have a:=h.2.1;rw[Ir] at this;omega
 . have s:=h.2.2;unfold D.Sm at s ⊢;exact⟨by rw[Ds.Iw];exact s.1,Ds.CJ (Iu p) s.2⟩
noncomputable def oE (ns:List Int) (key by_:Str) (fs:Fs) (room:Nat) (q:List Ds × Int) (p:Key):List Ds × Int:=
 if 0<nx ns (q.2+1) % 3 then
  (q.1++[(if by_≠""/\q.1≠[]/\nx ns (q.2+1) / 3 % 2=0 then(fE ns fs room (q.2+1)).1.upd by_ (kD (keyOf (q.1.getLastD .nil) by_)) else(fE ns fs room (q.2+1)).1).upd key (kD p)],(fE ns fs room (q.2+1)).2)
 else(q.1,q.2+1)
noncomputable def ij (ns:List Int) (key by_:Str) (fs:Fs) (room:Nat) (ps:List Key) (n:Int):List Ds × Int:=ps.foldl (oE ns key by_ fs room) ([],n)
theorem CK {ns:List Int}{key by_:Str}{fs:Fs}{room:Nat}{ps:List Key}{p:Key}{n:Int}:ij ns key by_ fs room (ps++[p]) n=oE ns key by_ fs room (ij ns key by_ fs room ps n) p:=by
 unfold ij;rw[List.foldl_append];rfl
theorem Iy {ns:List Int}{key by_:Str}{fs:Fs}{room:Nat}{ps:List Key}{p:Key}{n:Int}{i:Nat}(h:ps[i]? =some p):ij ns key by_ fs room (ps.take (i+1)) n=oE ns key by_ fs room (ij ns key by_ fs room (ps.take i) n) p:=by
 rw[Q0q,h];exact CK
structure oF (fs:Fs) (key:Str) (room:Nat) (ps:List Key) (n:Int) (q:List Ds × Int):Prop where
 ok:∀m∈q.1,nq fs m
 keys:(q.1.map λm=>keyOf m key).Sublist ps
 lo:n<=q.2
 hi:q.2<=n+ps.length * ((fs.cB:Int)+1)
theorem CL {α:Type}{l:List α}{d:α}(h:l≠[]):l.getLastD d∈l:=by
 cases l with
 |nil=>exact absurd rfl h
 |cons a r=>exact List.mem_of_getLast? (by rw[List.getLast?_eq_some_getLast (List.cons_ne_nil a r)];rw[List.getLastD_cons,<-List.getLast_eq_getLastD])
theorem oF.step {ns:List Int}{key by_:Str}{fs:Fs}{room:Nat}{ps:List Key}{n:Int}{q:List Ds × Int}{p:Key}(h:oF fs key room ps n q)(hW:(Kd.rows key by_ fs).W)(U:room<8)(hp:jM (fs.get key) p):oF fs key room (ps++[p]) n (oE ns key by_ fs room q p):=by
 unfold Kd.W at hW;obtain⟨I,aa,J,L,ab⟩:=hW;have c:=om ns fs room (q.2+1) U
 have e:((ps++[p]).length:Int) * ((fs.cB:Int)+1)=ps.length * ((fs.cB:Int)+1)+(fs.cB+1):=by
  rw[Q09];show((ps.length+1:Nat):Int) * _=_;rw[Q21,Q22];simp
 have lo:=h.lo;have hi:=h.hi;unfold oE;split
 . have v0:nq fs (fE ns fs room (q.2+1)).1:=⟨m4 ns fs J room _ U,Q3d (rq ns fs room _),r_ ns fs J room _ U aa⟩;generalize fE ns fs room (q.2+1)=v at *
   have v1:nq fs (if by_≠""/\q.1≠[]/\nx ns (q.2+1) / 3 % 2=0 then v.1.upd by_ (kD (keyOf (q.1.getLastD .nil) by_)) else v.1):=by
    split
    . rename_i hc;exact v0.upd I (jM.of (h.ok _ (CL hc.2.1)).1 (ab.resolve_left hc.1))
    . exact v0
   generalize (if by_≠""/\q.1≠[]/\nx ns (q.2+1) / 3 % 2=0 then v.1.upd by_ (kD (keyOf (q.1.getLastD .nil) by_)) else v.1)=Y at *
   have hm:key∈Y.names:=by
    rw[v1.1.names];obtain⟨k,e,_⟩:=L;exact Fs.oB e
   refine⟨λm ac=>?_,?_,by show n<=v.2;omega,by show v.2<=_;rw[e];omega⟩
   . rcases List.mem_append.mp ac with z|z
     . exact h.ok m z
     . rw[List.mem_singleton.mp z];exact v1.upd I hp
   . show((q.1++[Y.upd key (kD p)]).map λm=>keyOf m key).Sublist _;rw[Q0f];refine List.Sublist.append h.keys ?_;show [keyOf (Y.upd key (kD p)) key].Sublist [p];rw[Iv hm];exact List.Sublist.refl _
 . exact⟨h.ok,h.keys.trans (List.sublist_append_left _ _),by show n<=q.2+1;omega,by show q.2+1<=_;rw[e];omega⟩
theorem vn {ns:List Int}{key by_:Str}{fs:Fs}{room:Nat}{ps:List Key}{n:Int}(I:(Kd.rows key by_ fs).W)(J:room<8)(hp:∀p∈ps,jM (fs.get key) p):∀i,oF fs key room (ps.take i) n (ij ns key by_ fs room (ps.take i) n)
 |0=>by
  rw[Q3e];exact { ok:=(λm h=>by cases h),keys:=List.Sublist.refl _,lo:=Q2i n,hi:=by show n<=n+((0:Nat):Int) * _;simp }
 |i+1=>by
  have L:=vn I J hp (n:=n) (ns:=ns) i
  cases e:ps[i]? with
  |none=>
   have:ps.take (i+1)=ps.take i:=by rw[Q0q,e];exact Q10 _
   rw[this];exact L
  |some p=>
   have U:ps.take (i+1)=ps.take i++[p]:=by rw[Q0q,e];rfl
   rw[U,CK];exact L.step I J (hp p (Q0r e))
abbrev iZ (Pt:Addr) (H H':Hp):Prop:=Kp (λc=>c=Pt) H H'
theorem Iz {K:W.Frag}{P:Addr}{lp:Pos}{ql:Str}{j:Nat}{σ:L2.St}{Q:VK}{H:Hp}{pr pk pb:Addr}{vs:List V}{ms:List Ds}{fl:List (List Addr)}{key by_:Str}{fs:Fs}(hr:d_ K H pr vs)(J:fH H vs ms fl)(hl:vs.length<64)(hT:fi P lp ql H)(av:σ[j]? =some (some (.ref pk)))
 (aw:H pk=some (.tup [.str "rows",.str key,.str by_,.ref pb])) (U:∀m∈ms,gv fs m) (ac:fs.pl key) (aj:by_=""\/fs.pl by_) (ax:(ms.map λm=>keyOf m key).Nodup)
 (q:∀D ak al H',iZ P H H'->fi P lp ql H'->H D=none->H' D=some (.lst ak)->fH H' ak (iC key by_ ms) al->al.Perm fl->Q (.ref D) H'):
 qY K P lp ql (mM oz [] E0 (g9 (gf (j+1)) (g9 (gf 0) iS))) σ Q (.ref pr) H:=by
 obtain⟨ae,ap⟩:=A3.len J;refine⟨pr,vs,rfl,hr,hl,hT,λc' H2 ag mono=>?_⟩
 have np:∀I o,(∀ps,o≠ .gS ps)->H I=some o->H2 I=some o:=λI o ho e=>by
  obtain⟨ay,az⟩:=hT.tab;exact mono I o (gN e az (ho ay)) e
 have am:Tu H H2:=λI ys e=>np I _ (by intro ps z;cases z) e
 have L:fH H2 vs ms fl:=fH.keep am J λI hc o e=>np I o (by
  intro ps z;rcases fH.mu J I hc with⟨_,q⟩|⟨_,q⟩ <;> rw[e] at q <;> rw[z] at q <;> cases q) e
 have aq:H2 pk=some (.tup [.str "rows",.str key,.str by_,.ref pb]):=am _ _ aw;refine⟨λks H3=>Same H2 H3/\ks.length<=vs.length/\mU H3 ks ((ms.map (rankOf key by_)).take ks.length),⟨Same.refl _,Q07 _,.nil⟩,λks H3 hw=>ag.mono λI o _ e=>hw.1 _ _ e,?_,?_⟩
 . rintro ks H3 yv ⟨s3,aA,aa⟩ hy;have an:ks.length<vs.length:=(List.getElem?_eq_some_iff.mp hy).1;have af:=A3.at (a0:=V.non) (b0:=Ds.nil) (c0:=[]) L ks.length an;have ey:vs.getD ks.length .non=yv:=by rw[Q06,hy];rfl
   rw[ey] at af
   have ar:ms.getD ks.length .nil∈ms:=by
    rw[Q06,Q02 (by omega)];exact Q0y _
   have Y:=Own.same s3 af;unfold Own at Y;obtain⟨rr,kvs,fq,rfl,aB,_,aC⟩:=Y;refine⟨_,av,Zr rfl ⟨pk,rr,pb,key,by_,fs,kvs,_,fq,rfl,s3 _ _ aq,aB,aC,U _ ar,ac,aj,λt ht=>⟨s3.trans (Same.new ht),by rw[Q09];exact an,?_⟩⟩⟩
   have et:(ms.map (rankOf key by_)).take (ks++[V.ref t]).length=(ms.map (rankOf key by_)).take ks.length++[rankOf key by_ (ms.getD ks.length .nil)]:=by
    rw[Q09];show List.take (ks.length+1) _=_;rw[Q0q,Q0j,Q06,Q02 (by omega)];rfl
   rw[et];refine vc (Paired.oW aa λk kl z=>?_) ⟨t,rfl,eW⟩;obtain⟨pp,e,hh⟩:=z;exact⟨pp,e,by rw[eU (ff hh ht)];exact hh⟩
 . rintro ks H3 ⟨s3,aA,aa⟩ au
   have aD:(ms.map (rankOf key by_)).take ks.length=ms.map (rankOf key by_):=by
    rw[au,ae,Q0w (by rw[Q03];exact Q00 _)]
   rw[aD] at aa;refine⟨_,aa,⟨if by_="" then [kY (fs.get key)] else [kY (fs.get by_),kY (fs.get key)],by split <;> simp,λkl aE=>?_⟩,λp hp hs D hD=>?_⟩
   . obtain⟨m,hm,rfl⟩:=List.mem_map.mp aE;exact rg (U m hm) ac aj
   have ah:∀i∈p,i<vs.length:=λi hi=>by
    have:=hp.mem_iff.mp hi;simpa using this
   have aF:p.Perm (List.range ms.length):=by rw[<-ae];exact hp
   have hz:(p.map λi=>ms.getD i .nil)=iC key by_ ms:=by
    refine BF (rD _ aF) ?_ ax;rw[Q1l] at hs ⊢;refine List.Pairwise.imp_of_mem (λ{i j} hi hj h=>?_) hs;have aG:=ah i hi;have aH:=ah j hj
    have ge:∀i,i<vs.length->(ms.map (rankOf key by_)).getD i []=rankOf key by_ (ms.getD i .nil):=λi hi=>by
     rw[Q06,Q06,Q0j,Q02 (by omega)];rfl
    rw[ge i aG,ge j aH] at h;exact h
   have sD:Same H3 (upd H3 D (.lst (p.map λi=>vs.getD i .non))):=Same.new hD;have ab:fH (upd H3 D (.lst (p.map λi=>vs.getD i .non))) vs ms fl:=fH.keep (Tu.of (s3.trans sD)) L λI _ o e=>sD _ _ (s3 I o e);have ai:=A3.pick (a0:=V.non) (b0:=Ds.nil) (c0:=[]) ab p ah;have aI:(p.map λi=>fl.getD i []).Perm fl:=rD _ (by rw[<-ap];exact hp);have aJ:D≠P:=λe=>by rw[e,s3 _ _ ag.1] at hD;cases hD
   have ao:=s3.free hD
   have aK:H D=none:=by
    cases e:H D with
    |none=>rfl
    |some o=>rw[mono D o aJ e] at ao;cases ao
   exact q D _ _ _ (λI o nc e=>sD _ _ (s3 _ _ (mono I o nc e))) (.inr ⟨c',ag.mono λI o _ e=>sD _ _ (s3 _ _ e)⟩) aK eW (by rw[<-hz];exact ai) aI
noncomputable abbrev nu:Pos:=Cn (top 40)
noncomputable abbrev nv:Str:=("_law_some":Str)++".<locals>."++"<lambda>"
abbrev kE (b P I:Addr):Hp->Hp->Prop:=Kp (λc=>c=b\/c=P\/c=I)
def CM (K:W.Frag) (Pt Ps:Addr) (N:Nat):Sp:=λvs H Q _=>∃a b ns n pk pb xs key by_ fs pl,∃ps:List Key,∃room:Nat,vs=[.ref a,.ref b,.ref pk,.ref pl,.int room]/\G0 K H a b ns n/\fi Pt iD iE H/\fi Ps nu nv H/\Pt≠Ps/\H pk=some (.tup [.str "rows",.str key,.str by_,.ref pb])/\H pb=some (.tup xs)/\FA H xs fs/\(Kd.rows key by_ fs).W/\
 H pl=some (.lst (ps.map kV))/\pl≠b/\ps.length<=30/\(∀p∈ps,jM (fs.get key) p)/\ps.Nodup/\room<8/\mu (.fT fs) room<=N/\n+ps.length * ((fs.cB:Int)+1)<=1000000000000/\
 ∀D I J H',kE b Pt Ps H H'->H' b=some (.lst [.int (ij ns key by_ fs room ps n).2])->fi Pt iD iE H'->fi Ps nu nv H'->H' D=some (.lst I)->fH H' I (iC key by_ (ij ns key by_ fs room ps n).1) J->(∀c∈D::J.flatten,H c=none)->Q (.ref D) H'
theorem CN {H:Hp}{p:Key}:Own H (kV p) (kD p) []:=by
 cases p <;> (unfold kV kD Own;exact⟨rfl,rfl⟩)
theorem jN {A B:TS}{D:Ends}{σ:L2.St}{H:Hp}(Pv:L2.St->Hp->Prop)(J:∀I H',Pv I H'->B D I H')(L:(∀I H',Pv I H'->B D I H')->A { D with nx:=B D } σ H):qC A B D σ H:=L J
theorem _root_.L2.fi.off {P:Addr}{I:Pos}{J:Str}{H H':Hp}(h:fi P I J H)(k:∀c o,(∀xs,o≠ .lst xs)->(∀L,o≠ .dK L)->H c=some o->H' c=some o):fi P I J H':=by
 rcases h with e|⟨c,e,f⟩
 . exact .inl (k _ _ (by intro xs z;cases z) (by intro xs z;cases z) e)
 . exact .inr ⟨c,k _ _ (by intro xs z;cases z) (by intro xs z;cases z) e,k _ _ (by intro xs z;cases z) (by intro xs z;cases z) f⟩
theorem IA {α:Type}{l:List α}{x:α}(h:l[l.length - 1]? =some x):gW l (-1)=some x:=by
 have hl:=(List.getElem?_eq_some_iff.mp h).1;unfold gW ke;rw[if_neg (by decide),if_pos (by omega)];show l[((-1:Int)+(l.length:Int)).toNat]? =_;rw[show((-1:Int)+(l.length:Int)).toNat=l.length - 1 by omega];exact h
theorem _root_.L2.fi.kp {P J b:Addr}{lp L:Pos}{ql U:Str}{H H':Hp}{l:List V}(h:fi P lp ql H)(x:fQ b J H H')(hb:H b=some (.lst l))(h':fi J L U H)(I:J≠P):fi P lp ql H':=by
 obtain⟨aa,Y⟩:=h'.tab;have k:∀c o,c≠J->(∀xs,o≠ .lst xs)->H c=some o->H' c=some o:=λc o hc ho e=>x c o (λz=>z.elim (λz=>by rw[z,hb] at e;cases e;exact ho _ rfl) hc) e;rcases h with e|⟨c,e,f⟩
 . exact .inl (k _ _ (Ne.symm I) (by intro xs z;cases z) e)
 . exact .inr ⟨c,k _ _ (Ne.symm I) (by intro xs z;cases z) e,k _ _ (gN f Y (by intro z;cases z)) (by intro xs z;cases z) f⟩
theorem _root_.L2.fi.k7 {P J:Addr}{U:Pos}{Y:Str}{H H':Hp}{ps:Array Value}(h:fi P U Y H)(x:iZ J H H')(L:H J=some (.gS ps))(I:J≠P):fi P U Y H':=by
 rcases h with e|⟨c,e,f⟩
 . exact .inl (x _ _ (Ne.symm I) e)
 . exact .inr ⟨c,x _ _ (Ne.symm I) e,x _ _ (gN f L (by intro z;cases z)) f⟩
theorem fe.CO {H:Hp}{x:Str}{v:V}{e:D}(U:Own H v e []):∀{m:Ds}{kvs:List (Key × V)}{J:List Addr},fe H kvs m J->∃I,fe H (kvs.map λL=>if L.1=Sum.inr x then(L.1,v) else L) (m.upd x e) I/\I.Sublist J
 | .nil,kvs,J,h=>by
   unfold fe at h;obtain⟨rfl,rfl⟩:=h;exact⟨[],by unfold Ds.upd fe;exact⟨rfl,rfl⟩,List.Sublist.refl _⟩
 | .cons y d r,kvs,J,h=>by
   unfold fe at h;obtain⟨u,q,f1,f2,rfl,rfl,ho,hr⟩:=h;obtain⟨f3,Y,s3⟩:=fe.CO U hr;show ∃I,fe H ((if(Sum.inr y:Key)=Sum.inr x then(Sum.inr y,v) else(Sum.inr y,u))::q.map _) (.cons y (if y=x then e else d) (r.upd x e)) I/\_;by_cases ex:y=x
   . refine⟨[]++f3,?_,s3.trans (List.sublist_append_right _ _)⟩;rw[if_pos ex,if_pos (by rw[ex])];unfold fe;exact⟨_,_,[],f3,rfl,rfl,U,Y⟩
   . refine⟨f1++f3,?_,List.Sublist.append (List.Sublist.refl _) s3⟩;rw[if_neg ex,if_neg (λz=>ex (Sum.inr.inj z))];unfold fe;exact⟨_,_,f1,f3,rfl,rfl,ho,Y⟩
theorem fe.sm {H:Hp}{x:Str}{v:V}{e:D}{m:Ds}{kvs:List (Key × V)}{J:List Addr}(h:fe H kvs m J)(L:Own H v e [])(U:x∈m.names):∃I,fe H (putK kvs (Sum.inr x) v) (m.upd x e) I/\I.Sublist J:=by
 unfold putK;rw[if_pos]
 . exact h.CO L
 . rw[Q2j];have:(Sum.inr x:Key)∈kvs.map (·.1):=by rw[fe.keys m h];exact Q1c U
   obtain⟨Y,h1,h2⟩:=List.mem_map.mp this;exact⟨Y,h1,decide_eq_true h2⟩
theorem IB {kvs:List (Key × V)}{x:Str}{v:V}{m:Ds}{H:Hp}{J:List Addr}(h:fe H kvs m J)(I:x∈m.names):(putK kvs (Sum.inr x) v).length=kvs.length:=by
 obtain⟨U,h',_⟩:=h.sm (v:=.non) (e:=.non) (by unfold Own;exact⟨rfl,rfl⟩) I;unfold putK;rw[if_pos]
 . rw[Q03]
 . rw[Q2j];have:(Sum.inr x:Key)∈kvs.map (·.1):=by rw[fe.keys m h];exact Q1c I
   obtain⟨L,h1,h2⟩:=List.mem_map.mp this;exact⟨L,h1,decide_eq_true h2⟩
theorem CP:f_ XO Xg (fo (top 40)):=gz
theorem IC {Pt Ps c:Addr}(N:Nat)(T:Tb mg)(am:Dn K mg "_law_some" pX (top 40) an Y)(ba:Y.code=.ref c)(bE:W.CodeHd base c Ps)(bF:BM mg base)(ao:Dn K mg "_law_next" fJ (top 25) ap aq)(ar:eZ P w K mg base e_ (1) ap aq fJ (l4 K))(J:Dn K mg "_law_rank" m8 (top 33) au av)(aw:eZ P w K mg base e_ (1) au av m8 (oz))(ae:Dn K mg "_law_value" iL (top 35) af ag)(ah:eZ P w K mg base e_ (2 * N+5) af ag iL (nh K Pt N)):eZ P w K mg base e_ (2 * N+8) an Y pX (CM K Pt Ps N):=by
 refine am.F.ra ba CP (λvs H Q E h=>?_) (λA outer s H vs Q E hr h=>?_)
 . obtain⟨a,b,ns,n,pk,pb,xs,key,by_,fs,pl,ps,room,rfl,_⟩:=h;rfl
 obtain⟨a,b,ns,n,pk,pb,xs,key,by_,fs,pl,ps,room,rfl,g,hT,hS,bd,a4,bG,bH,hW,a5,bv,cd,bI,bJ,aA,bK,hn,q⟩:=h;have nd:=CP.nd;have hu:=pF hr
 refine⟨_,(eV (fj 5 nd (gu c_))
  (eV (jc PassesOwn.never rfl (mE (pv 3)) (gq (i:=6) nd rfl gO) (eV (fj 7 nd (fx ar hr ao (a_ (pv 0) (a_ (pv 1) c_))))
  (fc (fA (fw mH (eY fM (pv 7) b_) b_ (fv _)) (eV (fj 8 nd (fx ah hr ae (a_ (pv 0) (a_ (pv 1) (a_ (gi (a_ fV (a_ (fh (pv 2) b_) c_))) (a_ (pv 4) c_))))))
  (eV (fA (PW.pt (lb (fw jV (fh (pv 2) b_) fV (fv _)) (lb (fw mH (fZ iu (by rfl) T.ib PySem.boot_len (a_ (pv 5) c_)) b_ (fv _)) (lP (fw gg (eY fM (eY gJ (pv 7) b_) b_) b_ (fv _)))))) (fc (nW hu (pv 8) (fh (pv 2) b_) (iF hu (gC (pv 5) (z_ Ab b_)) (fh (pv 2) b_) (λ_ _=>rfl)) rfl)) fy)
  (eV (nW hu (pv 8) (fh (pv 2) b_) (pv 6) rfl)
  (fc (kI (mP PySem.F.plainAttrs_list PySem.F.slot_list_append PySem.F.type_list_append nU (pv 5) (a_ (pv 8) c_))))))) fy))))
  (fc (fg (Bt (x:="_law_row") (N':=["","","_law_kind_here","","","","","",""]) rfl T.pT boot_sorted hr rfl rfl bE bF (kW.of (N:=XO) (sc:=fo (top 40)) rfl rfl rfl rfl rfl (by decide +kernel)) rfl (λ_ _ _ _ _=>rfl) (pv 5) (λ_ _ _ _ _=>(qK aw (gy.deeper (k:=1) (gy.in1 (k:=2) (gy.in1 (k:=3) (hr.mono (by omega)))) _) rfl J.m J.F.kp J.b .nil km (a_ (pv 3) (a_ (pv 0) c_))))))))),?_⟩
 ac_rfl
 have be:=λi=>vn (ns:=ns) (n:=n) hW aA bI i;have ce:=hW;unfold Kd.W at hW;obtain⟨bL,bM,bf,a1,bg⟩:=hW;have hb:=g.at_;obtain⟨cf,hP⟩:=hT.tab;refine⟨pU,λpr aX=>?_⟩;have s0:Same H (upd H pr (.lst [])):=Same.new aX;have a6:b≠pr:=ff hb aX;have jP:Pt≠pr:=ff hP aX;have bh:∃o,H b=some o:=⟨_,hb⟩;refine(Zr rfl ⟨pl,rfl,⟨_,d_.of (s0 _ _ a5)⟩,z9 (xs:=ps.map kV) (λi σ H'=>∃x y z vs fl,σ=[some (.ref a),some (.ref b),some (.ref pk),some (.ref pl),some (.int room),some (.ref pr),x,y,z]/\fQ b Pt H H'/\H' b=some (.lst [.int (ij ns key by_ fs room (ps.take i) n).2])/\fi Pt iD iE H'/\H' pr=some (.lst vs)/\fH H' vs (ij ns key by_ fs room (ps.take i) n).1 fl/\(∀c∈fl.flatten,H c=none/\c≠pr)/\vs.length<=i) ?_ ?_ ?_ ?_⟩)
 . rw[Q3e];exact⟨_,_,_,[],[],rfl,Kp.of s0,s0 _ _ hb,hT.same s0,eW,.nil,λc hc=>absurd hc (by simp),Q00 _⟩
 . intro i σ H' _ zq;obtain⟨x,y,z,vs,fl,rfl,kp,_⟩:=zq;exact d_.of (kp pl _ (λz=>z.elim bv (gN a5 hP (by intro z;cases z))) a5)
 . intro i v σ H' hv zq;obtain⟨x,y,z,vs,fl,rfl,kp,ai,aF,aJ,ac,az,bi⟩:=zq;obtain⟨p,hp,rfl⟩:=Option.map_eq_some_iff.mp (List.getElem?_map.symm.trans hv);have hi:i<ps.length:=(List.getElem?_eq_some_iff.mp hp).1;have so:=be i;have add:=Iy (ns:=ns) (key:=key) (by_:=by_) (fs:=fs) (room:=room) (n:=n) hp;have bN:(ps.take i).length=i:=by rw[Q0o];omega
   have e1:((i+1:Nat):Int) * ((fs.cB:Int)+1)=(i:Int) * ((fs.cB:Int)+1)+(fs.cB+1):=by
    rw[Q21,Q22];simp
   have ca:((i+1:Nat):Int) * ((fs.cB:Int)+1)<=(ps.length:Int) * ((fs.cB:Int)+1):=Q1o (by omega) (by omega);have bO:=so.lo;have bP:=so.hi;rw[bN] at bP;have cg:=g.pos;have bw:=so.ok;generalize ij ns key by_ fs room (ps.take i) n=I at *;generalize ij ns key by_ fs room (ps.take (i+1)) n=ci at *;have bj:Tu H H':=kp.tu hb hT;refine(Zr rfl (Zr rfl ⟨a,b,ns,I.2,rfl,fQ.g0 kp g hT ai bO,by omega,λH1 s1 h1=>?_⟩));have aG:fQ b Pt H H1:=kp.trans (SB.f7 s1);have aY:fi Pt iD iE H1:=aF.sb ai s1;have aK:H1 pr=some (.lst vs):=s1 pr _ (Ne.symm a6) aJ;have ak:fH H1 vs I.1 fl:=fH.f7 (SB.f7 s1) ai aF bh ac λc hc=>(az c hc).1;unfold oE at add;refine(Zr rfl ⟨_,Zr rfl ⟨rfl,(by show(0:Int)<_;decide),_,Zr rfl ⟨rfl,Zr rfl (gm (λc=>?_) (λc=>?_))⟩⟩⟩)
   . have c:0<nx ns (I.2+1) % 3:=of_decide_eq_true c;rw[if_pos c] at add;have a7:Tu H H1:=aG.tu hb hT;refine(Zr rfl (Zr rfl (Zr rfl ⟨pk,_,_,Zr rfl ⟨rfl,eX.of (a7 _ _ a4),rfl,gE,λt ht=>?_⟩⟩)));have st:Same H1 (upd H1 t (.tup [.str "record",.ref pb])):=Same.new ht
     have bQ:KA (upd H1 t (.tup [.str "record",.ref pb])) (.ref t) (.fT fs):=by
      unfold KA;exact⟨t,pb,xs,rfl,eW,st _ _ (a7 _ _ bG),FA.mono (a7.trans (Tu.of st)) fs bH⟩
     refine(Zr rfl ⟨a,b,ns,I.2+1,.ref t,.fT fs,room,rfl,fQ.g0 (aG.trans (Kp.of st)) g hT (st _ _ h1) (by omega),aY.same st,bQ,(by unfold Kd.W;exact⟨bL,bM,bf⟩),aA,bK,(by simp only[kc,Kd.cB];omega),?_⟩);intro v H2 fp f7 bm bR aL bx bz;have ev:val ns (.fT fs) room (I.2+1)=(.dct (fE ns fs room (I.2+1)).1,(fE ns fs room (I.2+1)).2):=by simp only[val]
     rw[ev] at bm aL;have ax:=m4 ns fs bf room (I.2+1) aA;generalize fE ns fs room (I.2+1)=a8 at *;have aM:fQ b Pt H1 H2:=(Kp.of st).trans f7;have aV:fQ b Pt H H2:=aG.trans aM;have bS:Tu H H2:=aV.tu hb hT;have ay:H2 pr=some (.lst vs):=aM pr _ (λz=>z.elim (Ne.symm a6) (Ne.symm jP)) aK;have U:fH H2 vs I.1 fl:=fH.f7 aM h1 aY bh ak λc hc=>(az c hc).1;unfold Own at aL;obtain⟨rr,kvs,fq,rfl,aH,rfl,aZ⟩:=aL;have aE:=bS _ _ a4
     have ab:∀c∈rr::fq,H c=none/\c≠pr/\H1 c=none:=λc hc=>by
      have z:=st.free (bz c hc);have nb:c≠b:=λe=>by rw[e,h1] at z;cases z
      obtain⟨cj,bT⟩:=aY.tab;have nP:c≠Pt:=λe=>by rw[e,bT] at z;cases z
      exact⟨aG.pR (λe=>e.elim nb nP) z,(λe=>by rw[e,aK] at z;cases z),z⟩
     have bA:b≠rr:=λe=>by have:=(ab rr Q04).1;rw[<-e,hb] at this;cases this
     have cb:Pt≠rr:=λe=>by have:=(ab rr Q04).1;rw[<-e,hP] at this;cases this
     have aB:pr≠rr:=λe=>(ab rr Q04).2.1 e.symm
     have bU:∀c∈fl.flatten,c≠rr:=λc hc e=>by
      obtain⟨o,eo⟩:=(fH.mu ak c hc).ex;have:=(ab rr Q04).2.2;rw[<-e,eo] at this;cases this
     have bV:rr ∉ fq:=(List.nodup_cons.mp bx).1
     have al:∀{x:Str},fs.pl x->∀{m:Ds},m.names=fs.names->x∈m.names:=λhx m hm=>by
      obtain⟨k,e,_⟩:=hx;rw[hm];exact Fs.oB e
     have bn:∀L:List (Key × V),L.length=kvs.length->L.length<sizeLine:=λL e=>by
      rw[e,fe.len aZ,ax.names];exact ig (by omega)
     dsimp only[gK]
     refine jN (A:=ju _ _ _) (λbo H3=>∃L aI,∃m1:Ds,bo=[some (.ref a),some (.ref b),some (.ref pk),some (.ref pl),some (.int room),some (.ref pr),some (kV p),some (.int (nx ns (I.2+1))),some (.ref rr)]/\H3 rr=some (.dK L)/\(∀c,c≠rr->H3 c=H2 c)/\fe H2 L m1 aI/\aI.Sublist fq/\m1.names=fs.names/\L.length=kvs.length/\
      m1=(if by_≠""/\I.1≠[]/\nx ns (I.2+1) / 3 % 2=0 then a8.1.upd by_ (kD (keyOf (I.1.getLastD .nil) by_)) else a8.1)) ?_ (λhB=>?_)
     . intro bo H3 zq;obtain⟨L,aI,m1,rfl,h3,aC,aP,aj,bB,bb,bW⟩:=zq;have bX:Tu H2 H3:=λc xs e=>by rw[aC c (gN e aH (by intro z;cases z))];exact e
       have bY:=al a1 bB;refine(Zr rfl (Zr rfl (Zr rfl ⟨pk,_,_,Zr rfl ⟨rfl,eX.of (bX _ _ aE),rfl,rr,Zr rfl ⟨ki.k (k:=Sum.inr key) h3 (bn _ bb),?_⟩⟩⟩)));have bC:H3 pr=some (.lst vs):=by rw[aC pr aB];exact ay
       have a2:upd H3 rr (.dK (putK L (Sum.inr key) (kV p))) pr=some (.lst vs):=by rw[eU aB];exact bC
       refine(Zr rfl ⟨.inl ⟨rfl,_,d_.of a2⟩,Zr rfl ⟨pr,_,Zr rfl ⟨rfl,a2,ig (by omega),?_⟩⟩⟩);obtain⟨a9,bD,aW⟩:=aP.sm (v:=kV p) (e:=kD p) CN bY;have aa:∀c,c≠rr->c≠pr->upd (upd H3 rr (.dK (putK L (Sum.inr key) (kV p)))) pr (.lst (vs++[.ref rr])) c=H2 c:=λc n1 n2=>by rw[eU n2,eU n1,aC c n1]
       have bp:Tu H2 (upd (upd H3 rr (.dK (putK L (Sum.inr key) (kV p)))) pr (.lst (vs++[.ref rr]))):=λc xs e=>by
        rw[aa c (gN e aH (by intro z;cases z)) (gN e ay (by intro z;cases z))];exact e
       rw[add];refine⟨_,_,_,vs++[.ref rr],fl++[rr::a9],rfl,λc o nc e=>?_,by rw[aa b bA a6];exact bm,bR.off (λc o h1 h2 e=>?_),eW,?_,?_,by rw[Q09];show vs.length+1<=i+1;omega⟩
       . rw[aa c (λz=>by have:=(ab rr Q04).1;rw[<-z,e] at this;cases this) (ff e aX)];exact aV c o nc e
       . rw[aa c (λz=>by rw[z,aH] at e;cases e;exact h2 _ rfl) (λz=>by rw[z,ay] at e;cases e;exact h1 _ rfl)];exact e
       . refine A3.snoc ?_ (fH.keep bp U λc hc o e=>by rw[aa c (bU c hc) (az c hc).2];exact e);unfold Own;refine⟨rr,_,a9,rfl,by rw[eU (Ne.symm aB)];exact eW,rfl,?_⟩;rw[<-bW]
         exact bD.keep bp _ λc hc o e=>by
          have bq:=aj.subset (aW.subset hc);rw[aa c (λz=>bV (by rw[<-z];exact bq)) (ab c (Q0e _ bq)).2.1];exact e
       . intro c hc;rw[Q2h] at hc;rcases List.mem_append.mp hc with z|z
         . exact az c z
         . have z:c∈rr::a9:=by simpa using z
           have:c∈rr::fq:=by
            rcases List.mem_cons.mp z with e|e
            . rw[e];exact Q04
            . exact Q0e _ (aj.subset (aW.subset e))
           exact⟨(ab c this).1,(ab c this).2.1⟩
     . have aQ:∀z:¬(by_≠""/\I.1≠[]/\nx ns (I.2+1) / 3 % 2=0),_:=λz=>hB _ _ ⟨kvs,fq,a8.1,rfl,aH,λ_ _=>rfl,aZ,List.Sublist.refl _,ax.names,rfl,(if_neg z).symm⟩;refine(Zr rfl ⟨pk,_,_,Zr rfl ⟨rfl,eX.of aE,rfl,rfl,Zr rfl (gm (λc1=>?_) (λc1=>?_))⟩⟩)
       . refine(Zr rfl ⟨pr,Zr rfl ⟨.inl (d_.of ay),_,Zr rfl ⟨rfl,Zr rfl (gm (λc2=>?_) (λc2=>?_))⟩⟩⟩)
         . refine(Zr rfl ⟨_,Zr rfl ⟨rfl,⟨by decide,by decide⟩,_,Zr rfl ⟨rfl,(by show(0:Int)<2;decide),rfl,Zr rfl (gm (λc3=>?_) (λc3=>aQ λz=>c3 (decide_eq_true (show V.int (nx ns (I.2+1) / 3 % 2)=V.int 0 by rw[z.2.2]))))⟩⟩⟩);have d1:by_≠"":=λz=>by rw[z] at c1;exact absurd c1 (by decide)
           have d3:nx ns (I.2+1) / 3 % 2=0:=by
            have this:V.int (nx ns (I.2+1) / 3 % 2)=V.int 0:=of_decide_eq_true c3;injection this
           have a3:0<vs.length:=by have:=of_decide_eq_true c2;omega
           obtain⟨aT,cc⟩:=A3.len U;have aD:=A3.at (a0:=V.non) (b0:=Ds.nil) (c0:=[]) U (vs.length - 1) (by omega);have hg:vs[vs.length - 1]? =some (vs.getD (vs.length - 1) .non):=by rw[Q06,Q02 (by omega)];rfl
           have d2:I.1≠[]:=λz=>by rw[z] at aT;rw[aT] at a3;exact absurd a3 (by decide)
           have bZ:I.1.getD (vs.length - 1) .nil=I.1.getLastD .nil:=by
            rw[aT,Q06,List.getLastD_eq_getLast?,List.getLast?_eq_getElem?]
           have b1:I.1.getLastD .nil∈I.1:=CL d2;rw[bZ] at aD;generalize vs.getD (vs.length - 1) .non=lv at *;unfold Own at aD;obtain⟨rl,cm,cn,rfl,b2,_,b3⟩:=aD;have aU:fs.pl by_:=bg.resolve_left d1;have gl:gj H2 rl (.str by_) (some (kV (keyOf (I.1.getLastD .nil) by_))):=by have:=gj.k (k:=Sum.inr by_) b2;rw[b3.key (bw _ b1).1 aU] at this;exact this
           obtain⟨aI,aP,aj⟩:=aZ.sm (v:=kV (keyOf (I.1.getLastD .nil) by_)) (e:=kD (keyOf (I.1.getLastD .nil) by_)) CN (al aU ax.names);refine(Zr rfl (Zr rfl ⟨pr,_,_,Zr rfl ⟨rfl,d_.of ay,IA hg,Zr rfl ⟨pk,_,_,Zr rfl ⟨rfl,eX.of aE,rfl,rl,Zr rfl ⟨gl,Zr rfl (Zr rfl ⟨pk,_,_,Zr rfl ⟨rfl,eX.of aE,rfl,rr,Zr rfl ⟨ki.k (k:=Sum.inr by_) aH (bn _ rfl),?_⟩⟩⟩)⟩⟩⟩⟩⟩));exact hB _ _ ⟨_,aI,Zr rfl ⟨eW,λc hc=>eU hc,aP,aj,by rw[Ds.sj];exact ax.names,IB aZ (al aU ax.names),(if_pos ⟨d1,d2,d3⟩).symm⟩⟩
         . refine aQ λz=>c2 (decide_eq_true ?_);have:=(A3.len U).1;have hp:0<I.1.length:=List.length_pos_iff.mpr z.2.1;omega
       . refine aQ λz=>c1 ?_;rw[decide_eq_false (λe=>z.1 (by injection e))];rfl
   . have c:¬0<nx ns (I.2+1) % 3:=λz=>c (decide_eq_true z);rw[if_neg c] at add;rw[add];exact⟨_,_,_,vs,fl,rfl,aG,h1,aY,aK,ak,az,by omega⟩
 . intro σ H' zq;obtain⟨x,y,z,vs,fl,rfl,kp,ai,aF,aJ,ac,az,bi⟩:=zq;rw[Q03] at ai ac bi;have so:=be ps.length;rw[Q0z] at ai ac so;have bj:Tu H H':=kp.tu hb hT;have br:=hS.kp kp hb hT bd;refine(Zr rfl (Iz (d_.of aJ) ac (by omega) br rfl (bj _ _ a4) (λm hm=>(so.ok m hm).1) a1 bg (so.keys.nodup bJ) λD b4 b5 H2 f7 b6 hD b7 U bc=>?_));obtain⟨co,bt⟩:=br.tab;have b8:b≠Ps:=gN ai bt (by intro z;cases z);refine q D b4 b5 H2 (λc o nc e=>f7 c o (λz=>nc (.inr (.inr z))) (kp c o (λz=>nc (z.elim .inl λz=>.inr (.inl z))) e)) (f7 b _ b8 ai) ?_ b6 b7 U (λc hc=>?_)
   . obtain⟨b9,bu⟩:=aF.tab;exact aF.k7 f7 bt (Ne.symm bd)
   . rcases List.mem_cons.mp hc with z|z
     . rw[z];obtain⟨b9,bu⟩:=aF.tab;exact kp.pR (λe=>e.elim (λe=>by rw[e,ai] at hD;cases hD) (λe=>by rw[e,bu] at hD;cases hD)) hD
     . exact(az c ((BX bc).mem_iff.mp z)).1
end Pb
namespace L2
open Spec PyProof.Rows
section
variable {X:Cx}{pins:List (Addr × Obj)}{σ:St}{H:Hp}{s:Shared}
end
section
variable {prog:Program}{w:World}{A:Around}{E:Value->Shared->Prop}{s:Shared}
end
section
variable {X:Cx}
end
end L2
namespace Pb
open L2
end Pb
namespace L2
open Spec PyProof.Rows
section
variable {X:Cx}
theorem ID:jG X (.type "dict") (λxs H Q=>∃a kvs,xs=[.ref a]/\H a=some (.dK kvs)/\∀l,H l=none->Q (.ref l) (upd H l (.dK kvs))):=by
 intro pins s σ H xs us Q I r h;obtain⟨a,kvs,rfl,L,q⟩:=h;obtain⟨u,rfl,U⟩:=vals1 r
 cases U;obtain⟨z,Y,vs,J,dd⟩:=qN I.hok L;refine kt_call_dict Y dd (by rw[<-J.length];exact z) λh' hd hs=>?_;have hb:(s.heap.objs.size == sysModules)=false:=beq_eq_false_iff_ne.mpr (Q0v I.big);refine⟨.ref s.heap.objs.size,_,I.laid (a:=s.heap.objs.size) (o:=.dK kvs) (t':=s.toks) (λb o e=>?_) (Q00 _) ⟨z,hb,vs,J,hd⟩,rfl,q _ (I.hok.fresh (Q00 _))⟩;exact hs.extBut b o (Q0c (Q01 e)) (Q0a _ e)
end
section
variable {X:Cx}
def IE:V->List V->Hp->VK->Prop:=λx vs H Q=>∃a kvs k v,x=.ref a/\vs=[kV k]/\H a=some (.dK kvs)/\h_ kvs k=some v/\Q v (upd H a (.dK (ly kvs k)))
theorem IF:ug X "dict.pop" IE:=by
 intro pins s σ H x vs v us Q I J L h;obtain⟨a,kvs,k,w,rfl,rfl,U,Y,q⟩:=h;obtain⟨u,rfl,ru⟩:=vals1 L
 cases J;exact F_ I U ru Y (.inl rfl) λw' s3 I3 r=>⟨w,_,I3,r,q⟩
end
end L2
namespace Pb
open L2
def CQ (b:Addr) (H:Hp) (v:V) (d:D):Prop:=∃I,Own H v d I/\b ∉ I
def jk (b:Addr) (H:Hp) (kvs:List (Key × V)) (m:Ds):Prop:=∃I,fe H kvs m I/\b ∉ I
section
variable {b:Addr}{H H':Hp}{n:Int}
theorem jk.cons {x:Str}{v:V}{d:D}{vs:List (Key × V)}{r:Ds}(h:CQ b H v d)(t:jk b H vs r):jk b H ((Sum.inr x,v)::vs) (.cons x d r):=by
 obtain⟨f1,h1,I⟩:=h;obtain⟨f2,h2,J⟩:=t;refine⟨f1++f2,?_,by rw[List.mem_append];exact λz=>z.elim I J⟩;unfold fe;exact⟨v,vs,f1,f2,rfl,rfl,h1,h2⟩
theorem jk.nil:jk b H [] .nil:=⟨[],by unfold fe;exact⟨rfl,rfl⟩,by simp⟩
theorem jk.IG {kvs:List (Key × V)}(h:jk b H kvs .nil):kvs=[]:=by
 obtain⟨f,h,_⟩:=h;unfold fe at h;exact h.1
theorem jk.IH {kvs:List (Key × V)}{x:Str}{d:D}{r:Ds}(h:jk b H kvs (.cons x d r)):∃v q,kvs=(Sum.inr x,v)::q/\CQ b H v d/\jk b H q r:=by
 obtain⟨f,h,I⟩:=h;unfold fe at h;obtain⟨v,q,f1,f2,e,rfl,h1,h2⟩:=h;exact⟨v,q,e,⟨f1,h1,λz=>I (Q0s _ z)⟩,f2,h2,λz=>I (Q08 _ z)⟩
theorem jk.del {x:Str}:∀{m:Ds}{kvs:List (Key × V)},jk b H kvs m->jk b H (ly kvs (Sum.inr x)) (m.del x)
 | .nil,kvs,h=>by rw[h.IG];exact .nil
 | .cons y d r,kvs,h=>by
   obtain⟨w,q,rfl,h1,h2⟩:=h.IH;have I:=jk.del (x:=x) h2;unfold ly at I ⊢;unfold Ds.del;by_cases c:y=x
   . rw[if_pos c,List.filter_cons_of_neg (by simp[c])];exact I
   . rw[if_neg c,List.filter_cons_of_pos (by simp[c])];exact .cons h1 I
end
end Pb
namespace L2
open Spec PyProof.Rows
section
variable {X:Cx}
def II (K:W.Frag):R2:=λx y H Q=>lr x y H Q\/(∃s a xs,x=.str s/\y=.ref a/\d_ K H a xs/\Q (.bl false) H)
theorem IJ (hu:X.A.units+1<cLine):g8 X (compareOp .Eq) (II X.K):=by
 intro pins s σ H x y v u Q I J L h;rcases h with h|⟨t,a,xs,rfl,rfl,U,q⟩
 . exact gg pins s σ H x y v u Q I J L h
 . obtain⟨tk,rfl⟩:=J
   cases L;obtain⟨aa,r1,Y,_⟩:=I.list U;exact W.cmp_ofEq (SeqAt.RcAt.str_list t tk Y.isList (by omega) _ _ _ _ ⟨.bl false,H,I,rfl,q⟩)
end
theorem eZ.or {P:Program}{w:World}{K:W.Frag}{mg:Str->Option Value}{base:Heap}{CX:jf}{k:Nat}{f:Addr}{fd:FuncData}{ps:List Str}{sp I:Sp}(F:eZ P w K mg base CX k f fd ps sp)(G:eZ P w K mg base CX k f fd ps I):
 eZ P w K mg base CX k f fd ps (λvs H Q E=>sp vs H Q E\/I vs H Q E):=
 ⟨λvs H Q E q=>q.elim (F.len vs H Q E) (G.len vs H Q E),λA outer s H args us vs Q E J L U Y hs=>hs.elim (F.run A outer s H args us vs Q E J L U Y) (G.run A outer s H args us vs Q E J L U Y)⟩
end L2
namespace Pb
open L2
theorem Fs.get_mem:∀{fs:Fs}{x:Str}{k:Kd},fs.get x=some k->x∈fs.names
 | .nil,_,_,h=>by cases h
 | .cons y q r,x,k,h=>by
   have h:(if x=y then some q else r.get x)=some k:=h;by_cases e:x=y
   . rw[e];exact Q04
   . rw[if_neg e] at h;exact Q0e _ (Fs.get_mem h)
theorem CU {K:PySem.W.Frag}{a:Addr}{xs:List V}{g:TG}{tb:TS}{D:Ends}{σ:St}{H:Hp}(Pv:Nat->St->Hp->Prop)(Y:Pv 0 σ H)(hl:∀i σ H,i<=xs.length->Pv i σ H->d_ K H a xs)
 (hs:∀(i:Nat) y σ H p,xs[i]? =some y->Pv i σ H->H p=none->g (.ref p) σ (upd H p (.tup [.int i,y])) λI H2=>tb { D with nx:=Pv (i+1),ct:=Pv (i+1),bk:=D.nx } I H2) (hd:∀σ H,Pv xs.length σ H->D.nx σ H):
 ∃W:Nat->Nat->St->Hp->Prop,(∃m,W 0 m σ H)/\∀i m σ H,W i m σ H->
  ((Ite K a).stop i H/\D.nx σ H)\/((Ite K a).go i H/\∃N:St->Hp->Prop,(∀J H',N J H'->∃U,U<m/\W (i+1) U J H')/\∀x H',(Ite K a).jU i H x H'->g x σ H' λI H2=>tb { D with nx:=N,ct:=N,bk:=D.nx } I H2):=by
 refine⟨λi m σ H=>m=xs.length - i/\i<=xs.length/\Pv i σ H,⟨xs.length,by simp,Q07 _,Y⟩,?_⟩;rintro i m σ H ⟨rfl,hi,p⟩;by_cases L:i<xs.length
 . refine .inr ⟨⟨xs,xs[i],hl i σ H hi p,by simp[L]⟩,Pv (i+1),λJ H' p'=>⟨xs.length - (i+1),by omega,rfl,L,p'⟩,λx H' y=>?_⟩;obtain⟨q,y,hq,rfl,hy,rfl⟩:=y;exact hs i y σ H q (hy xs (hl i σ H hi p)) p hq
 . have e:i=xs.length:=by omega
   subst e;exact .inl ⟨⟨xs,hl _ σ H (Q00 _) p,Q00 _⟩,hd σ H p⟩
theorem CV {k:Key}:∀{kvs:List (Key × V)},k∈kvs.map (·.1)->(h_ kvs k).isSome=true
 |[],h=>by simp at h
 |p::r,h=>by
  by_cases e:p.1=k
  . rw[ph e];rfl
  . rw[pj e];rcases List.mem_cons.mp (show k∈p.1::r.map (·.1) from h) with z|z
    . exact absurd z.symm e
    . exact CV z
def CY (K:W.Frag) (H:Hp) (v:V):Option Str->Prop
 |some x=>v=.str x
 |none=>(∃z,v=.int z)\/∃a xs,v=.ref a/\d_ K H a xs
def sr (H:Hp) (u:V):Option Kd->Prop
 |some k=>KA H u k
 |none=>u=.non
def vo (K:W.Frag):Sp:=λvs H Q _=>∃b v xs fs o,vs=[.ref b,v]/\H b=some (.tup xs)/\FA H xs fs/\fs.names.Nodup/\CY K H v o/\∀u,sr H u (o.bind fs.get)->Q u H
noncomputable def D.ny:D->Bool
 | .tup xs=>decide (xs.len=2)
 |_=>false
def vp:Sp:=λvs H Q _=>∃v d I,vs=[v]/\Own H v d I/\Q (.bl d.ny) H
def CZ:Sp:=λvs H Q _=>∃b a xs kvs fs m I,vs=[.ref b,.ref a]/\H b=some (.tup xs)/\FA H xs fs/\fs.names.length<=12/\H a=some (.dK kvs)/\fe H kvs m I/\∀H',Same H H'->Q (.bl (hasB fs m)) H'
def Rs (n:Nat) (k:Kd) (d:D):Option (List Key)->Prop
 |none=>i9 k d/\d.dep<=n/\d.Sm
 |some p=>gP n k d p/\p.length<=1000
def jC (H:Hp) (u:V):Option (List Key)->Prop
 |none=>u=.non
 |some p=>∃l,u=.ref l/\H l=some (.lst (p.map kV))
def nA (n:Nat):Sp:=λvs H Q _=>∃I v k d J r,vs=[I,v]/\KA H I k/\k.W/\Own H v d J/\Rs n k d r/\∀u H',Same H H'->jC H' u r->Q u H'
def vq (n:Nat):Sp:=λvs H Q _=>∃b v xs fs d I r,vs=[.ref b,v]/\H b=some (.tup xs)/\FA H xs fs/\fs.names.Nodup/\fs.names.length<=12/\fs.W/\Own H v d I/\Rs (n+1) (.fT fs) d r/\∀u H',Same H H'->jC H' u r->Q u H'
def C0 (n:Nat):Sp:=λvs H Q _=>∃pk pb v xs key by_ fs d I r,vs=[.ref pk,v]/\H pk=some (.tup [.str "rows",.str key,.str by_,.ref pb])/\H pb=some (.tup xs)/\FA H xs fs/\(Kd.rows key by_ fs).W/\Own H v d I/\Rs (n+1) (.rows key by_ fs) d r/\∀u H',Same H H'->jC H' u r->Q u H'
def qe (n:Nat):Sp:=λvs H Q _=>∃a w v k d I r,vs=[.ref a,v]/\H a=some (.tup [.str "tree",w])/\KA H w k/\k.W/\Own H v d I/\Rs n (.tree k) d r/\∀u H',Same H H'->jC H' u r->Q u H'
def C1 (n:Nat):Sp:=λvs H Q _=>∃b v xs fs d I r,vs=[.ref b,v]/\H b=some (.tup xs)/\FA H xs fs/\fs.names.Nodup/\fs.W/\Own H v d I/\Rs (n+1) (.gZ fs) d r/\∀u H',Same H H'->jC H' u r->Q u H'
theorem KA.IK {H:Hp}:∀{u:V}{k:Kd},KA H u k->u≠ .non
 |_,.num,h=>by unfold KA at h;obtain⟨a,rfl,_⟩:=h;intro z;cases z
 |_,.gp,h=>by unfold KA at h;obtain⟨a,rfl,_⟩:=h;intro z;cases z
 |_,.fT _,h=>by unfold KA at h;obtain⟨a,b,vs,rfl,_⟩:=h;intro z;cases z
 |_,.rows _ _ _,h=>by unfold KA at h;obtain⟨a,b,vs,rfl,_⟩:=h;intro z;cases z
 |_,.tree _,h=>by unfold KA at h;obtain⟨a,b,rfl,_⟩:=h;intro z;cases z
 |_,.gZ _,h=>by unfold KA at h;obtain⟨a,b,vs,rfl,_⟩:=h;intro z;cases z
variable {P:Program}{w:World}{K:W.Frag}{mg:Str->Option Value}{base:Heap}
theorem IL:f_ ["fields","name","pair"] ["fields","name"] (fo (top 6)):=gz
theorem C2 (T:Tb mg)(I:Dn K mg "kind_at" m9 (top 6) J L):eZ P w K mg base e_ (1) J L m9 (vo K):=by
 refine I.F.ok IL λvs H Q E h=>?_;obtain⟨b,v,xs,fs,o,rfl,hb,aa,ac,hv,q⟩:=h;refine⟨rfl,λag A outer s nd hr hu=>?_⟩
 refine⟨_,(eV (jc PassesOwn.never rfl (kJ (pv 0)) (gq (i:=2) nd rfl gO) (fc (fA (fw (IJ hu) (fh (pv 2) b_) (pv 1) (fv _)) (fc (fg (fh (pv 2) b_))) fy)))
  (fc (fg h9))),?_⟩
 ac_rfl
 refine(Zr rfl ⟨b,rfl,⟨_,eX.of hb⟩,qF (xs:=xs) (λi σ H'=>H'=H/\(∃z,σ=[some (.ref b),some v,z])/\∀j x,o=some x->j<i->fs.names[j]? ≠some x) ⟨rfl,⟨_,rfl⟩,λj x _ Y=>absurd Y (by omega)⟩ ?_ ?_ ?_⟩)
 . rintro i σ H' _ ⟨rfl,_⟩;exact eX.of hb
 . rintro i w σ H' hw ⟨rfl,⟨z,rfl⟩,U⟩;obtain⟨c,u,nm,k',rfl,ab,hc,hk⟩:=FA.get fs aa hw;have ae:fs.names[i]? =some nm:=by rw[Fs.kx,ab];rfl
   cases o with
   |some x=>
    have hv:v=.str x:=hv;subst hv;refine(Zr rfl ⟨c,_,_,Zr rfl ⟨rfl,eX.of hc,rfl,Zr rfl (.inl ⟨rfl,Zr rfl (gm (λcc=>?_) (λcc=>?_))⟩)⟩⟩)
    . have e:nm=x:=by
       have:=of_decide_eq_true cc;injection this
      subst e;refine(Zr rfl ⟨c,_,_,Zr rfl ⟨rfl,eX.of hc,rfl,q u ?_⟩⟩);show sr H' u (fs.get nm);rw[Fs.lE ac ab];exact hk
    . refine⟨rfl,⟨_,rfl⟩,λj y hy Y=>?_⟩
      cases hy;by_cases e:j<i
      . exact U j x rfl e
      . have:j=i:=by omega
        subst this;rw[ae];intro z
        cases z;exact cc (decide_eq_true rfl)
   |none=>
    have done:(λ(σ:St) (af:Hp)=>af=H'/\(∃z,σ=[some (.ref b),some v,z])/\∀j x,(none:Option Str)=some x->j<i+1->fs.names[j]? ≠some x) [some (.ref b),some v,some (.ref c)] H':=⟨rfl,⟨_,rfl⟩,λ_ _ hx=>by cases hx⟩;rcases hv with⟨z,rfl⟩|⟨a,ys,rfl,ha⟩
    . exact(Zr rfl ⟨c,_,_,Zr rfl ⟨rfl,eX.of hc,rfl,Zr rfl (.inl ⟨rfl,Zr rfl (fL done)⟩)⟩⟩)
    . exact(Zr rfl ⟨c,_,_,Zr rfl ⟨rfl,eX.of hc,rfl,Zr rfl (.inr ⟨nm,a,ys,rfl,rfl,ha,Zr rfl (fL done)⟩)⟩⟩)
 . rintro σ H' ⟨rfl,⟨z,rfl⟩,U⟩;refine q .non ?_
   cases o with
   |none=>rfl
   |some x=>
    show sr H' .non (fs.get x)
    cases e:fs.get x with
    |none=>rfl
    |some k=>
     obtain⟨j,Y,e'⟩:=Q1b (Fs.get_mem e);exact absurd (by rw[Q02 Y,e']) (U j x rfl (by rw[FA.len fs aa];exact Y))
theorem IM:f_ ["value"] ["value"] (fo (top 14)):=gz
theorem IP (T:Tb mg)(I:Dn K mg "is_pair" m_ (top 14) J L):eZ P w K mg base e_ (1) J L m_ (vp):=by
 refine I.F.ok IM λvs H Q E h=>?_;obtain⟨v,d,fp,rfl,U,q⟩:=h;refine⟨rfl,λaa A outer s nd hr hu=>?_⟩;refine⟨_,(fc (fg (mz (fZ iV (by rfl) T.iY boot_isinstance (a_ (pv 0) (a_ (iR (v:=.ty "tuple") rfl T.oq boot_tuple rfl) c_))) (nN (lU gg (fZ iu (by rfl) T.ib PySem.boot_len (a_ (pv 0) c_)) b_ (fv _)))))),?_⟩
 ac_rfl
 cases d with
 |int z=>
  unfold Own at U;obtain⟨rfl,_⟩:=U;exact(Zr rfl ⟨_,_,_,false,rfl,.int z,rfl,false,rfl,fL q⟩)
 |str z=>
  unfold Own at U;obtain⟨rfl,_⟩:=U;exact(Zr rfl ⟨_,_,_,false,rfl,.str z,rfl,false,rfl,fL q⟩)
 |non=>
  unfold Own at U;obtain⟨rfl,_⟩:=U;exact(Zr rfl ⟨_,_,_,false,rfl,.non,rfl,false,rfl,fL q⟩)
 |boo z=>
  unfold Own at U;obtain⟨rfl,_⟩:=U;exact(Zr rfl ⟨_,_,_,false,rfl,.bl z,rfl,false,rfl,fL q⟩)
 |lst xs=>
  unfold Own at U;obtain⟨a,vs,fq,rfl,Y,_,hl⟩:=U;exact(Zr rfl ⟨_,_,_,false,rfl,.lst Y,rfl,false,rfl,fL q⟩)
 |dct m=>
  unfold Own at U;obtain⟨a,vs,fq,rfl,Y,_,hl⟩:=U;exact(Zr rfl ⟨_,_,_,false,rfl,.dK Y,rfl,false,rfl,fL q⟩)
 |tup xs=>
  unfold Own at U;obtain⟨a,vs,rfl,Y,hl⟩:=U;refine(Zr rfl ⟨_,_,_,true,rfl,.tup Y,rfl,true,rfl,fY ?_⟩);refine(Zr rfl ⟨a,Zr rfl ⟨.inr (eX.of Y),rfl,?_⟩⟩)
  have e:decide (V.int (vs.length:Nat)=V.int 2)=(D.tup xs).ny:=by
   show _=decide (xs.len=2);rw[fm.len xs hl];rw[Bool.eq_iff_iff,decide_eq_true_iff,decide_eq_true_iff];constructor
   . intro z;injection z with z;omega
   . intro z;rw[z];rfl
  rw[e];exact q
theorem IQ:f_ XR XR (fo (top 12)):=gz
theorem IS (T:Tb mg)(I:Dn K mg "has_just" j0 (top 12) J L):eZ P w K mg base e_ (1) J L j0 (CZ):=by
 refine I.F.ok IQ λvs H Q E h=>?_;obtain⟨b,a,xs,kvs,fs,m,fp,rfl,Y,aa,hx,ha,hO,q⟩:=h;refine⟨rfl,λae A outer s nd hr hu=>?_⟩;refine⟨_,(fc (fg (mz (lU gg (fZ AV (by rfl) T.ib PySem.boot_len (a_ (pv 1) c_)) (fZ iu (by rfl) T.ib PySem.boot_len (a_ (pv 0) c_)) (fv _)) (nN (fZ (qU rfl) (by rfl) T.rH boot_all (a_ (kr (g:=(o6 K 2 (lg (gK 0) (lg (gK 1) o5)))) (tt:=jX) (te:=_) (own:=["name","inner"]) rfl (jj (N:=XR) (sc:=fo (top 12))) (kJ (pv 0)) (λ_ _ _ _ _=>(jS rfl (ik (gq (i:=0) (show(["name","inner","fields","record"]:List Str).Nodup by decide +kernel) rfl (Or.inl rfl) (.inr rfl)) (ik (gq (i:=1) (show(["name","inner","fields","record"]:List Str).Nodup by decide +kernel) rfl (Or.inl rfl) (.inr rfl)) jR)))) (λ_ _ _ _ _=>kT) (λ_ _ _ _ _=>(E3 (AL hu (pv 0) (pv 3)) (by with_unfolding_all rfl)))) c_)))))),?_⟩
 ac_rfl
 have e1:kvs.length=m.names.length:=fe.len hO;have e2:xs.length=fs.names.length:=FA.len fs aa;have af:xs.length<=12:=by omega
 refine(Zr rfl ⟨a,Zr rfl ⟨ha,Zr rfl ⟨b,Zr rfl ⟨.inr (eX.of Y),rfl,Zr rfl ?_⟩⟩⟩⟩);by_cases c:m.names.length=fs.names.length
 . rw[decide_eq_true (show V.int (kvs.length:Nat)=V.int (xs.length:Nat) by rw[e1,e2,c])];refine fY ?_;refine(Zr rfl ⟨b,rfl,⟨_,eX.of Y⟩,λi k ys H'=>H'=H/\k=xs.length - i/\i<=xs.length/\ys=((fs.names.take i).map λx=>decide (x∈m.names)).map V.bl,⟨xs.length,rfl,by simp,Q07 _,rfl⟩,?_⟩);rintro i k ys H' ⟨rfl,rfl,hi,rfl⟩;by_cases U:i<xs.length
   . refine .inr ⟨⟨xs,xs[i],eX.of Y,by simp[U]⟩,by rw[Q03,Q03,Q0o];exact ig (by omega),λx H' y=>?_⟩;obtain⟨rfl,y⟩:=y;have hv:=y xs (eX.of Y);obtain⟨c',u,nm,k,rfl,ab,hc,hk⟩:=FA.get fs aa hv;have ac:fs.names[i]? =some nm:=by rw[Fs.kx,ab];rfl
     refine⟨c',Zr rfl ⟨eX.of hc,rfl,_,Zr rfl ⟨_,Zr rfl ⟨rfl,rfl,yes (fY ?_)⟩⟩⟩⟩;refine(Zr rfl (Zr rfl ⟨a,Zr rfl ⟨gj.k (k:=Sum.inr nm) ha,?_⟩⟩));refine⟨xs.length - (i+1),by omega,rfl,rfl,U,?_⟩;rw[Q0q,ac,Q0f,Q0f];congr 1;show [V.bl (h_ kvs (Sum.inr nm)).isSome]=[V.bl (decide (nm∈m.names))];congr 2;by_cases z:nm∈m.names
     . rw[decide_eq_true z];obtain⟨j,hj,e⟩:=Q1b z;have hk:=fe.keys m hO;have:(Sum.inr nm:Key)∈kvs.map (·.1):=by rw[hk];exact Q1c z
       exact CV this
     . rw[decide_eq_false z,fe.BW hO z];rfl
   . refine .inl ⟨⟨xs,eX.of Y,Q12 U⟩,λp hp=>⟨p,(fs.names.take i).map λx=>decide (x∈m.names),rfl,d_.of eW,?_⟩⟩;have e:i=fs.names.length:=by omega
     have:((fs.names.take i).map λx=>decide (x∈m.names)).all id=hasB fs m:=by
      unfold hasB;rw[decide_eq_true c,Bool.true_and,e,Q0z,List.all_map];rfl
     rw[this];exact q _ (Same.new hp)
 . rw[decide_eq_false (show ¬V.int (kvs.length:Nat)=V.int (xs.length:Nat) by intro z;injection z with z;omega)];refine fL ?_;have:hasB fs m=false:=by unfold hasB;rw[decide_eq_false c,Bool.false_and]
   rw[this] at q;exact q _ (Same.refl _)
noncomputable def D.tag:D->String
 | .int _=>"int"
 | .str _=>"str"
 | .non=>"NoneType"
 | .boo _=>"bool"
 | .tup _=>"tuple"
 | .lst _=>"list"
 | .dct _=>"dict"
theorem Own.ty {K:W.Frag}{H:Hp}:∀{d:D}{v:V}{I:List Addr},Own H v d I->je K H v (.type d.tag)
 | .int z,v,I,h=>by unfold Own at h;rw[h.1];exact .int z
 | .str z,v,I,h=>by unfold Own at h;rw[h.1];exact .str z
 | .non,v,I,h=>by unfold Own at h;rw[h.1];exact .non
 | .boo z,v,I,h=>by unfold Own at h;rw[h.1];exact .bl z
 | .tup xs,v,I,h=>by unfold Own at h;obtain⟨a,vs,rfl,J,_⟩:=h;exact .tup J
 | .lst xs,v,I,h=>by unfold Own at h;obtain⟨a,vs,L,rfl,J,_⟩:=h;exact .lst J
 | .dct xs,v,I,h=>by unfold Own at h;obtain⟨a,vs,L,rfl,J,_⟩:=h;exact .dK J
theorem IT {K:W.Frag}{d:D}(h:∀m,d≠ .dct m):W.kitOne K (.type d.tag) (.type "dict")=some false:=by
 cases d <;> first|rfl|exact absurd rfl (h _)
theorem C3 {K:W.Frag}{d:D}(h:∀m,d≠ .lst m):W.kitOne K (.type d.tag) (.type "list")=some false:=by
 cases d <;> first|rfl|exact absurd rfl (h _)
theorem IU {K:W.Frag}{d:D}(h:∀m,d≠ .str m):W.kitOne K (.type d.tag) (.type "str")=some false:=by
 cases d <;> first|rfl|exact absurd rfl (h _)
theorem IV {fs:Fs}{m:Ds}(h:m.names.length≠fs.names.length\/∃x∈fs.names,x ∉ m.names):hasB fs m=false:=by
 unfold hasB;rcases h with h|⟨x,h1,h2⟩
 . rw[decide_eq_false h,Bool.false_and]
 . have:(fs.names.all λx=>decide (x∈m.names))=false:=by
    rw[List.all_eq_false];exact⟨x,h1,by simp[h2]⟩
   rw[this,Bool.and_false]
theorem IW {n:Nat}{fs:Fs}{m:Ds}{r:Option (List Key)}(aa:fs.names.Nodup)(hR:Rs (n+1) (.fT fs) (.dct m) r):(hasB fs m=false/\r=some [])\/(hasB fs m=true/\∃stop:Nat->Prop,stop 0/\(stop fs.names.length->r=none)/\
 ∀i x k,stop i->fs.at i=some (x,k)->∃e,m.get x=some e/\((Rs n k e none/\stop (i+1))\/∃p',r=some (Sum.inr x::p')/\Rs n k e (some p'))):=by
 cases r with
 |none=>
  obtain⟨hF,hd,L⟩:=hR;obtain⟨m',e,hF⟩:=hF
  cases e;simp only[D.dep] at hd;unfold D.Sm at L;refine .inr ⟨hF.1,λ_=>True,trivial,λ_=>rfl,λi x k _ I=>?_⟩;obtain⟨e,Y,hf⟩:=hF.2 _ _ (Fs.lE aa I);exact⟨e,Y,.inl ⟨⟨i9.of hf,Q0h (Ds.rA Y) (by omega),Ds.rZ L.2 Y⟩,trivial⟩⟩
 |some p=>
  obtain⟨hM,U⟩:=hR
  cases hM with
  |l6 h=>
   exact .inl ⟨IV (h m rfl),rfl⟩
  |@lH _ _ _ J x0 k0 d0 p0 h1 h2 hj hg hm=>
   refine .inr ⟨h1,λi=>i<=J,Q07 _,λhh=>?_,λi x k hi I=>?_⟩
   . have:J<fs.names.length:=(List.getElem?_eq_some_iff.mp (by rw[Fs.kx,h2];rfl:fs.names[J]? =some x0)).1;exact absurd hh (by omega)
   . by_cases e:i=J
     . subst e;rw[h2] at I
       cases I;exact⟨d0,hg,.inr ⟨p0,rfl,hm,by rw[Q0g] at U;omega⟩⟩
     . obtain⟨e',ab,ac,ae,af⟩:=hj i x k (by omega) I;exact⟨e',ab,.inl ⟨⟨i9.of ac,ae,af⟩,by show i+1<=J;omega⟩⟩
theorem jD {n:Nat}(h:n<=2000):n<=sizeLine:=Q0h h (by decide)
theorem IX:f_ ["fields","record","name","inner","place"] XR (fo (top 11)):=gz
theorem IY (n:Nat)(T:Tb mg)(I:Dn K mg "record_misfit" j0 (top 11) J L)(U:Dn K mg "has_just" j0 (top 12) Y aa)(ab:eZ P w K mg base e_ (1) Y aa j0 (CZ))(ac:Dn K mg "misfit" jy (top 10) ae af)(ag:eZ P w K mg base e_ (4 * n+3) ae af jy (nA n)):eZ P w K mg base e_ (4 * n+4) J L j0 (vq n):=by
 refine I.F.ok IX λvs H Q E h=>?_;obtain⟨b,v,xs,fs,d,fp,r,rfl,hb,ao,aw,hx,au,hO,hR,q⟩:=h;refine⟨rfl,λaA A outer s nd hr hu=>?_⟩
 refine⟨_,(eV (fA (PW.pt (jb (iB (iy (fZ iV (by rfl) T.iY boot_isinstance (a_ (pv 1) (a_ (iR (v:=.ty "dict") rfl T.uX boot_dict rfl) c_))))) (jt (iB (iy (fx ab hr U (a_ (pv 0) (a_ (pv 1) c_)))))))) (fc (fg (gu c_))) fy)
  (eV (jc PassesOwn.never rfl (kJ (pv 0)) (jS rfl (ik (gq (i:=2) nd rfl gO) (ik (gq (i:=3) nd rfl gO) jR))) (eV (fj 4 nd (fx ag hr ac (a_ (pv 3) (a_ (iF hu (pv 1) (pv 2) (λ_ _=>rfl)) c_))))
  (fc (fA (fw mI (pv 4) h9 (fv _)) (fc (fg (eY iU (gu (a_ (pv 2) c_)) (pv 4)))) fy))))
  (fc (fg h9)))),?_⟩
 ac_rfl
 have ak:∀H1,Same H H1->r=some []->(0:Nat)<=sizeLine/\∀p,H1 p=none->Q (.ref p) (upd H1 p (.lst [])):=λH1 s1 e=>⟨Q07 _,λp hp=>by
  subst e;exact q _ _ (s1.trans (Same.new hp)) ⟨p,rfl,eW⟩⟩
 by_cases al:∃m,d=.dct m
 . obtain⟨m,rfl⟩:=al;unfold Own at hO;obtain⟨a,kvs,fq,rfl,ha,_,hO⟩:=hO;refine(Zr rfl ⟨_,_,_,true,rfl,.dK ha,rfl,true,rfl,fL ?_⟩);refine(Zr rfl (Zr rfl ⟨b,a,xs,kvs,fs,m,fq,rfl,hb,ao,hx,ha,hO,λH1 s1=>?_⟩));rcases IW aw hR with⟨hh,er⟩|⟨hh,stop,ax,ay,step⟩
   . rw[hh];exact⟨false,rfl,fY (ak H1 s1 er)⟩
   . rw[hh];refine⟨true,rfl,fL ?_⟩;refine(Zr rfl ⟨b,rfl,⟨_,eX.of (s1 _ _ hb)⟩,qF (xs:=xs) (λi σ H'=>Same H H'/\stop i/\∃x y z,σ=[some (.ref b),some (.ref a),x,y,z]) ⟨s1,ax,_,_,_,rfl⟩ ?_ ?_ ?_⟩)
     . rintro i σ H' _ ⟨s2,_⟩;exact eX.of (s2 _ _ hb)
     . intro i v σ H' hv zq;obtain⟨s2,ai,x,y,z,rfl⟩:=zq;obtain⟨c,u,nm,k,rfl,ap,hc,hk⟩:=FA.get fs ao hv;obtain⟨e,he,ar⟩:=step i nm k ai ap;obtain⟨ev,f,am,an,_⟩:=fe.val _ hO he;refine⟨c,Zr rfl ⟨eX.of (s2 _ _ hc),rfl,_,Zr rfl ⟨_,Zr rfl ⟨rfl,?_⟩⟩⟩⟩;rcases ar with⟨aj,av⟩|⟨p',er,aj⟩
       . refine(Zr rfl (Zr rfl (Zr rfl ⟨a,ev,rfl,(by have:=gj.k (k:=Sum.inr nm) (s2 _ _ ha);rw[am] at this;exact this),u,ev,k,e,f,none,rfl,KA.mono (Tu.of s2) k hk,Fs.mY au ap,Own.same s2 an,aj,λu' H3 s3 ah=>?_⟩)));have ah:u'=.non:=ah;subst ah;refine(Zr rfl ⟨rfl,Zr rfl ?_⟩);rw[decide_eq_true rfl];exact fL ⟨s2.trans s3,av,_,_,_,rfl⟩
       . refine(Zr rfl (Zr rfl (Zr rfl ⟨a,ev,rfl,(by have:=gj.k (k:=Sum.inr nm) (s2 _ _ ha);rw[am] at this;exact this),u,ev,k,e,f,some p',rfl,KA.mono (Tu.of s2) k hk,Fs.mY au ap,Own.same s2 an,aj,λu' H3 s3 ah=>?_⟩)));obtain⟨l,rfl,hl⟩:=ah;refine(Zr rfl ⟨rfl,Zr rfl ?_⟩);rw[decide_eq_false (by intro z;cases z)];refine fY ?_;refine(Zr rfl ⟨jD (show 1<=2000 by decide),λp hp=>(Zr rfl ⟨p,l,_,Zr rfl ⟨rfl,eW,by rw[eU (ff hl hp)];exact hl,jD (by rw[Q03];have:=aj.2;show 1+p'.length<=2000;omega),λp2 az=>?_⟩⟩)⟩);subst er;exact q _ _ (s2.trans (s3.trans ((Same.new hp).trans (Same.new az)))) ⟨p2,rfl,eW⟩
     . rintro σ H' ⟨s2,ai,_⟩;rw[FA.len fs ao] at ai;have:=ay ai;subst this;exact q _ _ s2 rfl
 . have aq:∀m,d≠ .dct m:=λm z=>al ⟨m,z⟩
   have er:r=some []:=by
    cases r with
    |none=>
     obtain⟨hF,_⟩:=hR;obtain⟨m',e,_⟩:=hF;exact absurd e (aq _)
    |some p=>
     obtain⟨hM,_⟩:=hR
     cases hM with
     |l6 _=>rfl
     |lH _ _ _ _ _=>exact absurd rfl (aq _)
   exact(Zr rfl ⟨_,_,_,false,rfl,hO.ty,IT aq,false,rfl,fY (fY (ak H (Same.refl _) er))⟩)
theorem IZ {n:Nat}{key by_:Str}{fs:Fs}{xs:Ds}{r:Option (List Key)}(hR:Rs (n+1) (.rows key by_ fs) (.lst xs) r):xs.len<=100/\∃(rs:List Ds) (I:Nat),I<=rs.length/\(∀m∈rs,gv fs m/\m.dep<=n/\m.Sm)/\(rs.take I).Pairwise (ji key by_)/\((rs.take I).map λm=>keyOf m key).Nodup/\
 (∀j,j<I->xs.at j=some (.dct (rs.getD j .nil)))/\((I=xs.len/\r=none)\/(∃e p',xs.at I=some e/\r=some (Sum.inl (I:Int)::p')/\Rs (n+1) (.fT fs) e (some p'))\/
   (0<I/\I<rs.length/\xs.at I=some (.dct (rs.getD I .nil))/\¬ji key by_ (rs.getD (I - 1) .nil) (rs.getD I .nil)/\r=some [Sum.inl (I:Int)])):=by
 cases r with
 |none=>
  obtain⟨hF,hd,L⟩:=hR;change fC _ _ at hF;unfold fC at hF;obtain⟨rs,e,U,Y,hk⟩:=hF
  cases e;unfold D.Sm at L;simp only[D.dep] at hd;refine⟨L.1,rs,rs.length,Q00 _,λm hm=>?_,by rw[Q0z];exact Y,by rw[Q0z];exact hk,λj hj=>CG hj,.inl ⟨(qa rs).symm,rfl⟩⟩;have a:=vf m hm;have b:=ve L.2 m hm;unfold D.Sm at b;exact⟨U m hm,by omega,b.2⟩
 |some p=>
  obtain⟨hM,aa⟩:=hR
  cases hM with
  |rows0 h=>exact absurd rfl (h _)
  |@qb _ _ _ _ _ i e p rs hl hi J U Y hk he hm=>
   exact⟨hl,rs,i,hi,U,Y.sublist (Q1e _ _),hk.sublist ((Q1e _ _).map _),J,.inr (.inl ⟨e,p,he,rfl,hm,by rw[Q0g] at aa;omega⟩)⟩
  |@oA _ _ _ _ _ i rs hl h0 hi J U Y hk ab=>
   exact⟨hl,rs,i,Q0p hi,U,Y,hk,λj hj=>J j (Q0p hj),.inr (.inr ⟨h0,hi,J i (Q00 _),ab,rfl⟩)⟩
theorem I0:f_ ["kind","rows","earlier","number","row","place"] ["kind","rows"] (fo (top 13)):=gz
theorem I_ (n:Nat)(T:Tb mg)(ab:Dn K mg "rows_misfit" pY (top 13) ac ae)(I:Dn K mg "record_misfit" j0 (top 11) J L)(U:eZ P w K mg base e_ (4 * n+4) J L j0 (vq n))(am:Dn K mg "rank" pW (top 17) aC aD)(an:eZ P w K mg base e_ (1) aC aD pW (oz)):eZ P w K mg base e_ (4 * n+5) ac ae pY (C0 n):=by
 refine ab.F.ok I0 λvs H Q E h=>?_;obtain⟨pk,pb,v,xs,key,by_,fs,d,fp,r,rfl,af,aQ,aT,hW,hO,hR,q⟩:=h;refine⟨rfl,λbu A outer s nd hr hu=>?_⟩;have ba:=hr.An;unfold Kd.W at hW;obtain⟨aU,aV,aW,ai,ax⟩:=hW
 refine⟨_,(eV (fA (iB (iy (fZ iV (by rfl) T.iY boot_isinstance (a_ (pv 1) (a_ (iR (v:=.ty "list") rfl T.m7 boot_list rfl) c_))))) (fc (fg (gu c_))) fy)
  (eV (fj 2 nd qQ)
  (eV (jc PassesOwn.never rfl (A4 rfl T.B6 (a_ (pv 1) c_)) (jS rfl (ik (gq (i:=3) nd rfl gO) (ik (gq (i:=4) nd rfl gO) jR))) (eV (fj 5 nd (fx U hr I (a_ (fh (pv 0) b_) (a_ (pv 4) c_))))
  (eV (fA (fw mI (pv 5) h9 (fv _)) (fc (fg (eY iU (gu (a_ (pv 3) c_)) (pv 5)))) fy)
  (eV (fA (PW.pt (lb (fw mH (pv 3) b_ (fv _)) (lP (fw (Ha ba) (fx an hr am (a_ (pv 0) (a_ (pv 4) c_))) (fx an hr am (a_ (pv 0) (a_ (gC (pv 1) (eY jd (pv 3) b_)) c_))) (fv _))))) (fc (fg (gu (a_ (pv 3) c_)))) fy)
  (eV (fA (tL (AL hu (iF hu (pv 4) (fh (pv 0) b_) (λ_ _=>rfl)) (pv 2)) (by with_unfolding_all rfl)) (fc (fg (gu (a_ (pv 3) c_)))) fy)
  (fc (nW hu (pv 2) (iF hu (pv 4) (fh (pv 0) b_) (λ_ _=>rfl)) iw rfl)))))))
  (fc (fg h9))))),?_⟩
 ac_rfl
 by_cases aE:∃ds,d=.lst ds
 . obtain⟨ds,rfl⟩:=aE;unfold Own at hO;obtain⟨a,ys,fq,rfl,ha,_,aH⟩:=hO;obtain⟨bn,rs,aa,bp,av,aM,bb,aX,au⟩:=IZ hR;have aj:∀m∈rs,gv fs m:=λm hm=>(av m hm).1;have bq:ys.length=ds.len:=fm.len ds aH
   have bo:aa<=ds.len:=by
    rcases au with⟨e,_⟩|⟨e,p',he,_⟩|⟨_,_,he,_⟩
    . omega
    . have:=Ds.nj he;omega
    . have:=Ds.nj he;omega
   refine(Zr rfl ⟨_,_,_,true,rfl,.lst ha,rfl,true,rfl,fL ?_⟩);intro p hp;have s0:Same H (upd H p (.dK [])):=Same.new hp;refine(Zr rfl ⟨a,rfl,⟨_,d_.of (s0 _ _ ha)⟩,CU (xs:=ys) (λi σ H'=>i<=aa/\∃x y z ek,σ=[some (.ref pk),some (.ref a),some (.ref p),x,y,z]/\Same H H'/\H' p=some (.dK ek)/\ek.map (·.1)=(rs.take i).map λm=>keyOf m key) ⟨Q07 _,_,_,_,[],rfl,s0,eW,rfl⟩ ?_ ?_ ?_⟩)
   . intro i σ H' _ zq;obtain⟨_,x,y,z,ek,rfl,s2,_⟩:=zq;exact d_.of (s2 _ _ ha)
   . rintro i yv σ H' t hy ⟨bv,x,y,z,ek,rfl,s2,bc,aI⟩ ht;have hi:i<ys.length:=(List.getElem?_eq_some_iff.mp hy).1;have st:Same H' (upd H' t (.tup [.int i,yv])):=Same.new ht;have s3:=s2.trans st;refine⟨t,Zr rfl ⟨eX.of eW,rfl,_,Zr rfl ⟨_,Zr rfl ⟨rfl,?_⟩⟩⟩⟩
     have aP:(i=aa/\∃e p',ds.at i=some e/\r=some (Sum.inl (i:Int)::p')/\Rs (n+1) (.fT fs) e (some p'))\/(i<rs.length/\ds.at i=some (.dct (rs.getD i .nil))/\(i<aa\/(i=aa/\0<i/\¬ji key by_ (rs.getD (i - 1) .nil) (rs.getD i .nil)/\r=some [Sum.inl (i:Int)]))):=by
      by_cases aJ:i=aa
      . subst aJ;rcases au with⟨e,_⟩|h|⟨h0,h1,h2,h3,h4⟩
        . omega
        . exact .inl ⟨rfl,h⟩
        . exact .inr ⟨h1,h2,.inr ⟨rfl,h0,h3,h4⟩⟩
      . exact .inr ⟨by omega,aX i (by omega),.inl (by omega)⟩
     rcases aP with⟨aJ,e,p',he,er,aY⟩|⟨br,a5,ak⟩
     . subst aJ;obtain⟨e',f,aF,a6,_⟩:=fm.get ds aH hy;rw[he] at aF
       cases aF;refine(Zr rfl ⟨pk,_,_,Zr rfl ⟨rfl,eX.of (s3 _ _ af),rfl,Zr rfl ⟨pb,yv,xs,fs,e,f,some p',rfl,s3 _ _ aQ,FA.mono (Tu.of s3) fs aT,aU,aV,aW,Own.same s3 a6,aY,λu' H4 s4 ao=>?_⟩⟩⟩);obtain⟨l,rfl,hl⟩:=ao;refine(Zr rfl ⟨rfl,Zr rfl ?_⟩);rw[decide_eq_false (by intro z;cases z)];refine fY ?_;refine(Zr rfl ⟨jD (show 1<=2000 by decide),λp3 ay=>(Zr rfl ⟨p3,l,_,Zr rfl ⟨rfl,eW,by rw[eU (ff hl ay)];exact hl,jD (by rw[Q03];have:=aY.2;show 1+p'.length<=2000;omega),λp2 bd=>?_⟩⟩)⟩);subst er;exact q _ _ (s3.trans (s4.trans ((Same.new ay).trans (Same.new bd)))) ⟨p2,rfl,eW⟩
     have aZ:∀j,j<=i->∃rr kvs fq,ys[j]? =some (.ref rr)/\H rr=some (.dK kvs)/\fe H kvs (rs.getD j .nil) fq/\rs.getD j .nil∈rs:=λj hj=>by
      obtain⟨d',f,h1,h2,_⟩:=fm.get ds aH (Q02 (by omega:j<ys.length))
      have a7:ds.at j=some (.dct (rs.getD j .nil)):=by
       by_cases e:j=i
       . rw[e];exact a5
       . exact aX j (by omega)
      rw[a7] at h1
      cases h1;unfold Own at h2;obtain⟨rr,kvs,ap,e,aq,_,ar⟩:=h2;refine⟨rr,kvs,ap,?_,aq,ar,?_⟩
      . rw[Q02 (by omega:j<ys.length),e]
      . rw[Q06,Q02 (by omega)];exact Q0y _
     obtain⟨rr,kvs,ap,a1,aq,ar,al⟩:=aZ i (Q00 _);rw[hy] at a1
     cases a1;have a2:upd H' t (.tup [.int i,.ref rr]) p=some (.dK ek):=st _ _ bc
     have gk:∀H4,Same H H4->gj H4 rr (.str key) (some (kV (keyOf (rs.getD i .nil) key))):=λH4 s4=>by
      have:=gj.k (k:=Sum.inr key) (s4 _ _ aq);rw[ar.key (aj _ al) ai] at this;exact this
     have aK:=av _ al;refine(Zr rfl ⟨pk,_,_,Zr rfl ⟨rfl,eX.of (s3 _ _ af),rfl,Zr rfl ⟨pb,.ref rr,xs,fs,.dct (rs.getD i .nil),rr::ap,none,rfl,s3 _ _ aQ,FA.mono (Tu.of s3) fs aT,aU,aV,aW,by unfold Own;exact⟨rr,kvs,ap,rfl,s3 _ _ aq,rfl,fe.same s3 ar⟩,⟨i9.of (by unfold fC;exact(Zr rfl aK.1)),by simp only[D.dep];omega,by unfold D.Sm;exact⟨by rw[<-ni,aK.1.names];omega,aK.2.2⟩⟩,λu' H4 s4 ao=>?_⟩⟩⟩);have ao:u'=.non:=ao;subst ao;have ag:=s3.trans s4;refine(Zr rfl ⟨rfl,Zr rfl ?_⟩);rw[decide_eq_true rfl];refine fL ?_
     have ah:i<aa->h_ ek (keyOf (rs.getD i .nil) key)=none:=λY=>by
      have sv:=Cq aI (keyOf (rs.getD i .nil) key)
      have:lY key (rs.take i) (keyOf (rs.getD i .nil) key)=false:=by
       cases z:lY key (rs.take i) (keyOf (rs.getD i .nil) key) with
       |false=>rfl
       |true=>
        obtain⟨m,hm,e⟩:=List.any_eq_true.mp z;have e:=of_decide_eq_true e;obtain⟨j,hj,ej⟩:=Q1b hm;rw[Q0o] at hj;rw[Q1d] at ej;have be:i<rs.length:=by omega
        have e2:rs.getD i .nil=rs[i]:=by rw[Q06,Q02 be];rfl
        have:=List.pairwise_iff_getElem.mp (List.pairwise_map.mp bb) j i (by rw[Q0o];omega) (by rw[Q0o];omega) (by omega);rw[Q1d,Q1d,ej,<-e2] at this;exact absurd e this
      rw[this] at sv
      cases z:h_ ek (keyOf (rs.getD i .nil) key) with
      |none=>rfl
      |some o=>rw[z] at sv;cases sv
     have fin:i<aa->∀H5,Same (upd H' t (.tup [.int i,.ref rr])) H5->∀(DD:Ends),DD.nx=(λσ H'=>i+1<=aa/\∃x y z ek,σ=[some (.ref pk),some (.ref a),some (.ref p),x,y,z]/\Same H H'/\H' p=some (.dK ek)/\ek.map (·.1)=(rs.take (i+1)).map λm=>keyOf m key)->∀z':Option V,
      DD.nx [some (.ref pk),some (.ref a),some (.ref p),some (.int i),some (.ref rr),z'] (upd H5 p (.dK (ek++[(keyOf (rs.getD i .nil) key,.bl true)]))):=λY H5 s5 DD bf z'=>by
      rw[bf];refine⟨by omega,_,_,_,Zr rfl ⟨λc o e=>?_,eW,?_⟩⟩
      . rw[eU (ff e hp)];exact s5 _ _ (s3 _ _ e)
      . rw[Q0f,aI,Q0q,Q0f];congr 1;rw[Q02 (by omega),Q06,Q02 (by omega)];rfl
     have aG:ek.length<sizeLine:=by
      have e1:=congrArg List.length aI;rw[Q03,Q03,Q0o] at e1;have:=hr.An;exact ig (by omega)
     refine(Zr rfl ⟨_,Zr rfl ⟨rfl,Zr rfl (gm (λc=>?_) (λc=>fL ?_))⟩⟩)
     . have bw:0<i:=by
        have:(0:Int)<(i:Int):=of_decide_eq_true c;omega
       obtain⟨rp,bg,bh,a8,bi,a9,aw⟩:=aZ (i - 1) (by omega);refine(Zr rfl (Zr rfl ⟨pk,rr,pb,key,by_,fs,kvs,_,ap,rfl,ag _ _ af,ag _ _ aq,fe.same ag ar,aj _ al,ai,ax,λt1 bj=>?_⟩));have aL:Same H4 (upd H4 t1 (.tup ((rankOf key by_ (rs.getD i .nil)).map kV))):=Same.new bj;have s5:=ag.trans aL
       have bm:gW ys ((i:Int) - 1)=some (.ref rp):=by
        have e:(i:Int) - 1=((i - 1:Nat):Int):=by omega
        rw[e];exact gL a8
       refine(Zr rfl (Zr rfl (Zr rfl ⟨_,Zr rfl ⟨rfl,a,_,_,Zr rfl ⟨rfl,d_.of (s5 _ _ ha),bm,pk,rp,pb,key,by_,fs,bg,_,bh,rfl,s5 _ _ af,s5 _ _ bi,fe.same s5 a9,aj _ aw,ai,ax,λt2 l7=>?_⟩⟩⟩)));have az:Same (upd H4 t1 (.tup ((rankOf key by_ (rs.getD i .nil)).map kV))) (upd (upd H4 t1 (.tup ((rankOf key by_ (rs.getD i .nil)).map kV))) t2 (.tup ((rankOf key by_ (rs.getD (i - 1) .nil)).map kV))):=Same.new l7;have s6:=s5.trans az;have ge:∀j (h:j<rs.length),rs.getD j .nil=rs[j]:=λj h=>by rw[Q06,Q02 h];rfl
       refine⟨t1,t2,_,Zr rfl ⟨rfl,eX.of (az _ _ eW),eX.of eW,(rg (aj _ al) ai ax).trans (rg (aj _ aw) ai ax).symm,Zr rfl ?_⟩⟩;by_cases aA:gM (rankOf key by_ (rs.getD (i - 1) .nil)) (rankOf key by_ (rs.getD i .nil))=true
       case neg=>
        have er:r=some [Sum.inl (i:Int)]:=by
         rcases ak with Y|⟨_,_,_,er⟩
         . refine absurd ?_ aA;have:=List.pairwise_iff_getElem.mp aM (i - 1) i (by rw[Q0o];omega) (by rw[Q0o];omega) (by omega);rw[Q1d,Q1d] at this;rw[ge (i - 1) (by omega),ge i (by omega)];exact this
         . exact er
        rw[Bool.eq_false_iff.mpr aA];subst er;exact fY (Zr rfl ⟨jD (show 1<=2000 by decide),λp3 ay=>q _ _ (s6.trans (Same.new ay)) ⟨p3,rfl,eW⟩⟩)
       have Y:i<aa:=by
        rcases ak with h|⟨_,_,h,_⟩
        . exact h
        . exact absurd aA h
       have ah:=ah Y;rw[aA];refine fL ?_;have a3:=az _ _ (aL _ _ (s4 _ _ a2));refine(Zr rfl (Zr rfl ⟨pk,_,_,Zr rfl ⟨rfl,eX.of (s6 _ _ af),rfl,rr,Zr rfl ⟨gk _ s6,Zr rfl ⟨p,Zr rfl ⟨gj.k a3,Zr rfl ?_⟩⟩⟩⟩⟩));rw[ah];refine fL ?_;refine(Zr rfl (Zr rfl (Zr rfl ⟨pk,_,_,Zr rfl ⟨rfl,eX.of (s6 _ _ af),rfl,rr,Zr rfl ⟨gk _ s6,p,Zr rfl ⟨ki.k a3 aG,?_⟩⟩⟩⟩)));rw[rB ah];exact fin Y _ (s4.trans (aL.trans az)) _ rfl _
     . have Y:i<aa:=by
        rcases ak with h|⟨_,h,_⟩
        . exact h
        . exact absurd (decide_eq_true (show(0:Int)<(i:Int) by omega)) c
       have ah:=ah Y;have a4:=s4 _ _ a2;refine(Zr rfl (Zr rfl ⟨pk,_,_,Zr rfl ⟨rfl,eX.of (ag _ _ af),rfl,rr,Zr rfl ⟨gk _ ag,Zr rfl ⟨p,Zr rfl ⟨gj.k a4,Zr rfl ?_⟩⟩⟩⟩⟩));rw[ah];refine fL ?_;refine(Zr rfl (Zr rfl (Zr rfl ⟨pk,_,_,Zr rfl ⟨rfl,eX.of (ag _ _ af),rfl,rr,Zr rfl ⟨gk _ ag,p,Zr rfl ⟨ki.k a4 aG,?_⟩⟩⟩⟩)));rw[rB ah];exact fin Y _ s4 _ rfl _
   . intro σ H' zq;obtain⟨bt,x,y,z,ek,rfl,s2,_⟩:=zq
     have er:r=none:=by
      rcases au with⟨_,e⟩|⟨e,p',he,_⟩|⟨_,_,he,_⟩
      . exact e
      . have:=Ds.nj he;omega
      . have:=Ds.nj he;omega
     subst er;exact q _ _ s2 rfl
 . have aB:∀m,d≠ .lst m:=λm z=>aE ⟨m,z⟩
   have er:r=some []:=by
    cases r with
    |none=>
     obtain⟨hF,_⟩:=hR;change fC _ _ at hF;unfold fC at hF;obtain⟨rs,e,_⟩:=hF;exact absurd e (aB _)
    |some p=>
     obtain⟨hM,_⟩:=hR
     cases hM with
     |rows0 _=>rfl
     |qb _ _ _ _ _ _ _ _=>exact absurd rfl (aB _)
     |oA _ _ _ _ _ _ _ _=>exact absurd rfl (aB _)
   subst er;exact(Zr rfl ⟨_,_,_,false,rfl,hO.ty,C3 aB,false,rfl,fY ⟨Q07 _,λp hp=>q _ _ (Same.new hp) ⟨p,rfl,eW⟩⟩⟩)
theorem Ja {xs:Ds}(h:xs.len=2):∃x a y c,xs=.cons x a (.cons y c .nil):=by
 cases xs with
 |nil=>cases h
 |cons x a r=>
  cases r with
  |nil=>cases h
  |cons y c t=>
   cases t with
   |nil=>exact⟨x,a,y,c,rfl⟩
   |cons z e t=>have h:t.len+1+1+1=2:=h;omega
theorem Jb {n:Nat}{k:Kd}{x y:Str}{t:D}{as:Ds}{r:Option (List Key)}(hR:Rs (n+1) (.tree k) (.tup (.cons x t (.cons y (.lst as) .nil))) r):(∃L,r=some (Sum.inr ("knot":Str)::L)/\Rs n k t (some L))\/(Rs n k t none/\∃I,(∀j a,j<I->as.at j=some a->Rs n (.tree k) a none)/\
 ((I=as.len/\r=none)\/∃e L,as.at I=some e/\r=some (Sum.inl (I:Int)::L)/\Rs n (.tree k) e (some L))):=by
 cases r with
 |none=>
  obtain⟨hF,hd,U⟩:=hR;have hT:Tree (fC k) (.tup (.cons x t (.cons y (.lst as) .nil))):=by change fC _ _ at hF;unfold fC at hF;exact hF
  obtain⟨x',y',t',ae,e,ht,ab⟩:=hT.shape
  cases e;unfold D.Sm Ds.Sm at U;obtain⟨_,ac,Y⟩:=U;unfold Ds.Sm at Y;have aa:=Y.1;unfold D.Sm at aa;simp only[D.dep,Ds.dep] at hd;refine .inr ⟨⟨i9.of ht,by omega,ac⟩,as.len,λj a _ ha=>?_,.inl ⟨rfl,rfl⟩⟩;have:=Ds.mW ha;exact⟨by change fC _ _;unfold fC;exact iX.all ab ha,by omega,Ds.vd aa.2 ha⟩
 |some p=>
  obtain⟨hM,J⟩:=hR
  cases hM with
  |qc h=>exact absurd rfl (h _ as rfl rfl)
  |@sd _ _ _ _ p hm=>exact .inl ⟨p,rfl,hm,by rw[Q0g] at J;omega⟩
  |@se _ _ _ e _ i p ht hl hj he hm=>
   refine .inr ⟨⟨i9.of ht.1,ht.2⟩,i,λj a h1 h2=>?_,.inr ⟨e,p,he,rfl,hm,by rw[Q0g] at J;omega⟩⟩;obtain⟨a1,a2,a3⟩:=hj j a h1 h2;exact⟨by change fC _ _;unfold fC;exact a1,a2,a3⟩
theorem C4 {n:Nat}{k:Kd}{d:D}{r:Option (List Key)}(hR:Rs (n+1) (.tree k) d r)(h:∀x y t as,d≠ .tup (.cons x t (.cons y (.lst as) .nil))):r=some []:=by
 cases r with
 |none=>
  obtain⟨hF,_⟩:=hR;have hT:Tree (fC k) d:=by change fC _ _ at hF;unfold fC at hF;exact hF
  obtain⟨Y,y',t',L,e,ht,U⟩:=hT.shape;exact absurd e (h _ _ _ _)
 |some p=>
  obtain⟨J,I⟩:=hR
  cases J with
  |qc _=>rfl
  |sd _=>exact absurd rfl (h _ _ _ _)
  |se _ _ _ _ _=>exact absurd rfl (h _ _ _ _)
theorem Jc {n:Nat}{fs:Fs}{x y:Str}{a c:D}{r:Option (List Key)}(hW:fs.W)(hR:Rs (n+1) (.gZ fs) (.tup (.cons x a (.cons y c .nil))) r):(∃nm k Y,a=.str nm/\fs.get nm=some k/\Rs n k c Y/\r=Y.map (Sum.inr nm:: ·))\/
 (r=some []/\((∃nm,a=.str nm/\fs.get nm=none)\/(∃z,a=.int z)\/∃l,a=.lst l)):=by
 cases r with
 |none=>
  obtain⟨hF,hd,J⟩:=hR;change fC _ _ at hF;unfold fC at hF;obtain⟨nm,v,e,hE⟩:=hF
  cases e;obtain⟨k,I,hf⟩:=vk hE;unfold D.Sm Ds.Sm at J;obtain⟨_,_,L⟩:=J;unfold Ds.Sm at L;simp only[D.dep,Ds.dep] at hd;exact .inl ⟨nm,k,none,rfl,I,⟨i9.of hf,by omega,L.1⟩,rfl⟩
 |some p=>
  obtain⟨hM,U⟩:=hR
  cases hM with
  |qd h=>
   refine .inr ⟨rfl,?_⟩;rcases h _ rfl rfl with⟨nm,e,hn⟩|⟨z,e⟩|⟨l,e⟩
   . refine .inl ⟨nm,Option.some.inj e,?_⟩
     cases I:fs.get nm with
     |none=>rfl
     |some k=>exact absurd (Fs.get_mem I) hn
   . exact .inr (.inl ⟨z,Option.some.inj e⟩)
   . exact .inr (.inr ⟨l,Option.some.inj e⟩)
  |@sg _ _ nm k _ p I hm=>exact .inl ⟨nm,k,some p,rfl,I,⟨hm,by rw[Q0g] at U;omega⟩,rfl⟩
theorem Jd {n:Nat}{fs:Fs}{d:D}{r:Option (List Key)}(hR:Rs (n+1) (.gZ fs) d r)(h:d.ny=false):r=some []:=by
 cases r with
 |none=>
  obtain⟨hF,_⟩:=hR;change fC _ _ at hF;unfold fC at hF;obtain⟨nm,v,e,hE⟩:=hF;rw[e] at h;cases h
 |some p=>
  obtain⟨J,I⟩:=hR
  cases J with
  |qd _=>rfl
  |sg _ _=>cases h
theorem Je {d:D}(h:d.ny=false):∀x y t as,d≠ .tup (.cons x t (.cons y (.lst as) .nil)):=λx y t as e=>by
 rw[e] at h;cases h
theorem C5 {d:D}(h:d.ny=true):∃x a y c,d=.tup (.cons x a (.cons y c .nil)):=by
 cases d with
 |tup xs=>
  obtain⟨x,a,y,c,e⟩:=Ja (of_decide_eq_true (show decide (xs.len=2)=true from h));exact⟨x,a,y,c,by rw[e]⟩
 |_=>cases h
theorem C6 {k:Kd}{d:D}{r:Option (List Key)}(h:Rs 0 k d r):False:=by
 cases r with
 |none=>exact absurd h.2.1 (by have:=d.lW;omega)
 |some p=>obtain⟨h,_⟩:=h;cases h
theorem C7:f_ ["kind","tree","place","number","arm"] ["kind","tree"] (fo (top 15)):=gz
theorem Jf (T:Tb mg)(I:Dn K mg "tree_misfit" lF (top 15) J L):eZ P w K mg base e_ (4 * 0+2) J L lF (qe 0):=by
 refine I.F.ok C7 λvs H Q E h=>?_;obtain⟨a,u,v,k,d,fp,r,rfl,_,_,_,_,U,_⟩:=h;refine⟨rfl,λY A outer s nd hr hu=>?_⟩;exact(C6 U).elim
theorem Jg (n:Nat)(T:Tb mg)(I:Dn K mg "tree_misfit" lF (top 15) J L)(Y:eZ P w K mg base e_ (4 * n+2) J L lF (qe n))(aa:Dn K mg "is_pair" m_ (top 14) ab ac)(ae:eZ P w K mg base e_ (1) ab ac m_ (vp))(af:Dn K mg "misfit" jy (top 10) ag ah)(ai:eZ P w K mg base e_ (4 * n+3) ag ah jy (nA n)):eZ P w K mg base e_ (4 * (n+1)+2) J L lF (qe (n+1)):=by
 refine I.F.ok C7 λvs H Q E h=>?_;obtain⟨a,u,v,k,d,fp,r,rfl,ha,hk,hW,hO,hR,q⟩:=h;refine⟨rfl,λaD A outer s nd hr hu=>?_⟩
 refine⟨_,(eV (fA (PW.pt (jb (iB (iy (fx ae hr aa (a_ (pv 1) c_)))) (jt (iB (iy (fZ iV (by rfl) T.iY boot_isinstance (a_ (fh (pv 1) b_) (a_ (iR (v:=.ty "list") rfl T.m7 boot_list rfl) c_)))))))) (fc (fg (gu c_))) fy)
  (eV (fj 2 nd (fx ai hr af (a_ (fh (pv 0) b_) (a_ (fh (pv 1) b_) c_))))
  (eV (fA (fw mI (pv 2) h9 (fv _)) (fc (fg (eY iU (gu (a_ fV c_)) (pv 2)))) fy)
  (eV (jc PassesOwn.never rfl (A4 rfl T.B6 (a_ (fh (pv 1) b_) c_)) (jS rfl (ik (gq (i:=3) nd rfl gO) (ik (gq (i:=4) nd rfl gO) jR))) (eV (fj 2 nd (fx Y hr I (a_ (pv 0) (a_ (pv 4) c_))))
  (fc (fA (fw mI (pv 2) h9 (fv _)) (fc (fg (eY iU (gu (a_ (pv 3) c_)) (pv 2)))) fy))))
  (fc (fg h9)))))),?_⟩
 ac_rfl
 refine(Zr rfl ⟨v,d,fp,rfl,hO,?_⟩)
 cases hP:d.ny with
 |false=>
  have er:=C4 hR (Je hP);subst er;exact⟨false,rfl,fY (fY ⟨Q07 _,λp hp=>q _ _ (Same.new hp) ⟨p,rfl,eW⟩⟩)⟩
 |true=>
  obtain⟨x,t,y,ar,rfl⟩:=C5 hP;obtain⟨c,v1,v2,f1,f2,rfl,hc,rfl,au,an⟩:=hO.pair;refine⟨true,rfl,fL ?_⟩;by_cases hl:¬∃as,ar=.lst as
  . have av:∀m,ar≠ .lst m:=λm z=>hl ⟨m,z⟩;have er:=C4 hR λx y t as e=>by cases e;exact av _ rfl
    subst er;exact(Zr rfl ⟨c,_,_,Zr rfl ⟨rfl,eX.of hc,rfl,_,_,_,false,rfl,an.ty,C3 av,false,rfl,fY ⟨Q07 _,λp hp=>q _ _ (Same.new hp) ⟨p,rfl,eW⟩⟩⟩⟩)
  obtain⟨as,rfl⟩:=Classical.not_not.mp hl;unfold Own at an;obtain⟨pl,ys,fq,rfl,ao,rfl,aw⟩:=an;refine(Zr rfl ⟨c,_,_,Zr rfl ⟨rfl,eX.of hc,rfl,_,_,_,true,rfl,.lst ao,rfl,true,rfl,fL ?_⟩⟩);rcases Jb hR with⟨p',er,ak⟩|⟨ak,ax,az,al⟩
  . refine(Zr rfl ⟨a,_,_,Zr rfl ⟨rfl,eX.of ha,rfl,Zr rfl ⟨c,_,_,Zr rfl ⟨rfl,eX.of hc,rfl,u,v1,k,t,f1,some p',rfl,hk,hW,au,ak,λu' H1 s1 U=>?_⟩⟩⟩⟩);obtain⟨l,rfl,hl⟩:=U;refine(Zr rfl ⟨rfl,Zr rfl ?_⟩);rw[decide_eq_false (by intro z;cases z)];refine fY ?_;refine⟨jD (show 1<=2000 by decide),λp3 aj=>(Zr rfl ⟨p3,l,_,Zr rfl ⟨rfl,eW,by rw[eU (ff hl aj)];exact hl,jD (by rw[Q03];have:=ak.2;show 1+p'.length<=2000;omega),λp2 ap=>?_⟩⟩)⟩;subst er;exact q _ _ (s1.trans ((Same.new aj).trans (Same.new ap))) ⟨p2,rfl,eW⟩
  . refine(Zr rfl ⟨a,_,_,Zr rfl ⟨rfl,eX.of ha,rfl,Zr rfl ⟨c,_,_,Zr rfl ⟨rfl,eX.of hc,rfl,u,v1,k,t,f1,none,rfl,hk,hW,au,ak,λu' H1 s1 U=>?_⟩⟩⟩⟩);have U:u'=.non:=U;subst U;refine(Zr rfl ⟨rfl,Zr rfl ?_⟩);rw[decide_eq_true rfl];refine fL ?_;refine(Zr rfl ⟨c,_,_,Zr rfl ⟨rfl,eX.of (s1 _ _ hc),rfl,pl,rfl,⟨_,d_.of (s1 _ _ ao)⟩,CU (xs:=ys) (λi σ H'=>Same H H'/\i<=ax/\∃x y z,σ=[some (.ref a),some (.ref c),x,y,z]) ⟨s1,Q07 _,_,_,_,rfl⟩ ?_ ?_ ?_⟩⟩)
    . rintro i σ H' _ ⟨s2,_⟩;exact d_.of (s2 _ _ ao)
    . rintro i yv σ H' tt hy ⟨s2,aE,x,y,z,rfl⟩ aB;have st:Same H' (upd H' tt (.tup [.int i,yv])):=Same.new aB;have s3:=s2.trans st;obtain⟨d',f,aq,ay,_⟩:=fm.get _ aw hy;refine⟨tt,Zr rfl ⟨eX.of eW,rfl,_,Zr rfl ⟨_,Zr rfl ⟨rfl,?_⟩⟩⟩⟩;by_cases aC:i=ax
      . subst aC
        obtain⟨e,p',he,er,am⟩:∃e p',as.at i=some e/\r=some (Sum.inl (i:Int)::p')/\Rs n (.tree k) e (some p'):=by
         rcases al with⟨e,_⟩|h
         . have:=Ds.nj aq;omega
         . exact h
        rw[aq] at he
        cases he;refine(Zr rfl (Zr rfl ⟨a,u,yv,k,d',f,some p',rfl,s3 _ _ ha,KA.mono (Tu.of s3) k hk,hW,Own.same s3 ay,am,λu' H4 s4 U=>?_⟩));obtain⟨l,rfl,hl⟩:=U;refine(Zr rfl ⟨rfl,Zr rfl ?_⟩);rw[decide_eq_false (by intro z;cases z)];refine fY ?_;refine(Zr rfl ⟨jD (show 1<=2000 by decide),λp3 aj=>(Zr rfl ⟨p3,l,_,Zr rfl ⟨rfl,eW,by rw[eU (ff hl aj)];exact hl,jD (by rw[Q03];have:=am.2;show 1+p'.length<=2000;omega),λp2 ap=>?_⟩⟩)⟩);subst er;exact q _ _ (s3.trans (s4.trans ((Same.new aj).trans (Same.new ap)))) ⟨p2,rfl,eW⟩
      . refine(Zr rfl (Zr rfl ⟨a,u,yv,k,d',f,none,rfl,s3 _ _ ha,KA.mono (Tu.of s3) k hk,hW,Own.same s3 ay,az i d' (by omega) aq,λu' H4 s4 U=>?_⟩));have U:u'=.non:=U;subst U;refine(Zr rfl ⟨rfl,Zr rfl ?_⟩);rw[decide_eq_true rfl];exact fL ⟨s3.trans s4,by omega,_,_,_,rfl⟩
    . rintro σ H' ⟨s2,aA,_⟩
      have er:r=none:=by
       rw[fm.len as aw] at aA;rcases al with⟨_,e⟩|⟨e,p',he,_⟩
       . exact e
       . have:=Ds.nj he;omega
      subst er;exact q _ _ s2 rfl
theorem Jh:f_ ["fields","value","inner","place"] ["fields","value"] (fo (top 16)):=gz
theorem Ji (n:Nat)(T:Tb mg)(I:Dn K mg "either_misfit" pZ (top 16) J L)(Y:Dn K mg "is_pair" m_ (top 14) aa ab)(ac:eZ P w K mg base e_ (1) aa ab m_ (vp))(ae:Dn K mg "kind_at" m9 (top 6) af ag)(ah:eZ P w K mg base e_ (1) af ag m9 (vo K))(ai:Dn K mg "misfit" jy (top 10) aj ak)(am:eZ P w K mg base e_ (4 * n+3) aj ak jy (nA n)):eZ P w K mg base e_ (4 * n+4) J L pZ (C1 n):=by
 refine I.F.ok Jh λvs H Q E h=>?_;obtain⟨b,v,xs,fs,d,fp,r,rfl,hb,ap,aq,ar,hO,hR,q⟩:=h;refine⟨rfl,λaA A outer s nd hr hu=>?_⟩
 refine⟨_,(eV (fA (iB (iy (fx ac hr Y (a_ (pv 1) c_)))) (fc (fg (gu c_))) fy)
  (eV (fj 2 nd (fx ah hr ae (a_ (pv 0) (a_ (fh (pv 1) b_) c_))))
  (eV (fA (fw qI (pv 2) h9 (fv _)) (fc (fg (gu c_))) fy)
  (eV (fj 3 nd (fx am hr ai (a_ (pv 2) (a_ (fh (pv 1) b_) c_))))
  (eV (fA (fw mI (pv 3) h9 (fv _)) (fc (fg (eY iU (gu (a_ (fh (pv 1) b_) c_)) (pv 3)))) fy)
  (fc (fg h9))))))),?_⟩
 ac_rfl
 refine(Zr rfl ⟨v,d,fp,rfl,hO,?_⟩)
 cases hP:d.ny with
 |false=>
  have er:=Jd hR hP;subst er;exact⟨false,rfl,fY ⟨Q07 _,λp hp=>q _ _ (Same.new hp) ⟨p,rfl,eW⟩⟩⟩
 |true=>
  obtain⟨x,a,y,c,rfl⟩:=C5 hP;obtain⟨t,v1,v2,f1,f2,rfl,ht,rfl,U,ax⟩:=hO.pair;refine⟨true,rfl,fL ?_⟩;rcases Jc ar hR with⟨nm,k,r',rfl,ao,au,er⟩|⟨er,aw⟩
  . unfold Own at U;obtain⟨rfl,_⟩:=U;refine(Zr rfl (Zr rfl ⟨t,_,_,Zr rfl ⟨rfl,eX.of ht,rfl,b,.str nm,xs,fs,some nm,rfl,hb,ap,aq,rfl,λu hu=>?_⟩⟩));have hu:sr H u (fs.get nm):=hu;rw[ao] at hu;have hu:KA H u k:=hu;refine(Zr rfl ⟨rfl,Zr rfl ?_⟩);rw[decide_eq_false hu.IK];refine fL ?_;refine(Zr rfl (Zr rfl ⟨t,_,_,Zr rfl ⟨rfl,eX.of ht,rfl,u,v2,k,c,f2,r',rfl,hu,Fs.vm ar ao,ax,au,λu' H1 s1 an=>?_⟩⟩))
    cases r' with
    |none=>
     have an:u'=.non:=an;subst an;subst er;refine(Zr rfl ⟨rfl,Zr rfl ?_⟩);rw[decide_eq_true rfl];exact fL (q _ _ s1 rfl)
    |some p'=>
     obtain⟨l,rfl,hl⟩:=an;refine(Zr rfl ⟨rfl,Zr rfl ?_⟩);rw[decide_eq_false (by intro z;cases z)];refine fY ?_;refine(Zr rfl ⟨t,_,_,Zr rfl ⟨rfl,eX.of (s1 _ _ ht),rfl,jD (show 1<=2000 by decide),λp3 av=>(Zr rfl ⟨p3,l,_,Zr rfl ⟨rfl,eW,by rw[eU (ff hl av)];exact hl,jD (by rw[Q03];have:=au.2;show 1+p'.length<=2000;omega),λp2 ay=>?_⟩⟩)⟩⟩);subst er;exact q _ _ (s1.trans ((Same.new av).trans (Same.new ay))) ⟨p2,rfl,eW⟩
  . subst er
    obtain⟨o,hn,ho⟩:∃o,CY K H v1 o/\o.bind fs.get=none:=by
     rcases aw with⟨nm,rfl,hg⟩|⟨z,rfl⟩|⟨l,rfl⟩
     . unfold Own at U;exact⟨some nm,U.1,hg⟩
     . unfold Own at U;exact⟨none,.inl ⟨z,U.1⟩,rfl⟩
     . unfold Own at U;obtain⟨al,ys,fq,e,az,_⟩:=U;exact⟨none,.inr ⟨al,ys,e,d_.of az⟩,rfl⟩
    refine(Zr rfl (Zr rfl ⟨t,_,_,Zr rfl ⟨rfl,eX.of ht,rfl,b,v1,xs,fs,o,rfl,hb,ap,aq,hn,λu hu=>?_⟩⟩));rw[ho] at hu;have hu:u=.non:=hu;subst hu;refine(Zr rfl ⟨rfl,Zr rfl ?_⟩);rw[decide_eq_true rfl];exact fY ⟨Q07 _,λp hp=>q _ _ (Same.new hp) ⟨p,rfl,eW⟩⟩
theorem C8:f_ ["kind","value","form"] ["kind","value"] (fo (top 10)):=gz
theorem Jj (T:Tb mg)(I:Dn K mg "misfit" jy (top 10) J L):eZ P w K mg base e_ (4 * 0+3) J L jy (nA 0):=by
 refine I.F.ok C8 λvs H Q E h=>?_;obtain⟨kv,v,k,d,fp,r,rfl,_,_,_,U,_⟩:=h;refine⟨rfl,λY A outer s nd hr hu=>?_⟩;exact(C6 U).elim
theorem Jk (n:Nat)(T:Tb mg)(am:Dn K mg "misfit" jy (top 10) an ao)(I:Dn K mg "record_misfit" j0 (top 11) J L)(U:eZ P w K mg base e_ (4 * n+4) J L j0 (vq n))(ae:Dn K mg "rows_misfit" pY (top 13) af ag)(ah:eZ P w K mg base e_ (4 * n+5) af ag pY (C0 n))(ai:Dn K mg "tree_misfit" lF (top 15) aj ak)(al:eZ P w K mg base e_ (4 * (n+1)+2) aj ak lF (qe (n+1)))(Y:Dn K mg "either_misfit" pZ (top 16) aa ab)(ac:eZ P w K mg base e_ (4 * n+4) aa ab pZ (C1 n)):
 eZ P w K mg base e_ (4 * (n+1)+3) an ao jy (nA (n+1)):=by
 refine am.F.ok C8 λvs H Q E h=>?_;obtain⟨kv,v,k,d,fp,r,rfl,hk,hW,hO,hR,q⟩:=h;refine⟨rfl,λar A outer s nd hr hu=>?_⟩
 refine⟨_,(eV (fj 2 nd (fh (pv 0) b_))
  (eV (fA (fw gg (pv 2) fV (fv _)) (fc (fg (zW (PW.pt (lb (iy (fZ iV (by rfl) T.iY boot_isinstance (a_ (pv 1) (a_ (iR (v:=.ty "int") rfl T.B7 boot_int rfl) c_)))) (lP (iB (iy (fZ iV (by rfl) T.iY boot_isinstance (a_ (pv 1) (a_ (iR (v:=.ty "bool") rfl T.uV boot_bool rfl) c_)))))))) h9 (gu c_)))) fy)
  (eV (fA (fw gg (pv 2) fV (fv _)) (fc (fg (zW (iy (fZ iV (by rfl) T.iY boot_isinstance (a_ (pv 1) (a_ (iR (v:=.ty "str") rfl T.uW boot_str rfl) c_)))) h9 (gu c_)))) fy)
  (eV (fA (fw gg (pv 2) fV (fv _)) (fc (fg (fx U hr I (a_ (fh (pv 0) b_) (a_ (pv 1) c_))))) fy)
  (eV (fA (fw gg (pv 2) fV (fv _)) (fc (fg (fx ah hr ae (a_ (pv 0) (a_ (pv 1) c_))))) fy)
  (eV (fA (fw gg (pv 2) fV (fv _)) (fc (fg (fx al hr ai (a_ (pv 0) (a_ (pv 1) c_))))) fy)
  (fc (fg (fx ac hr Y (a_ (fh (pv 0) b_) (a_ (pv 1) c_))))))))))),?_⟩
 ac_rfl
 have aq:r=some []->(0:Nat)<=sizeLine/\∀p,H p=none->Q (.ref p) (upd H p (.lst [])):=λe=>⟨Q07 _,λp hp=>by
  subst e;exact q _ _ (Same.new hp) ⟨p,rfl,eW⟩⟩
 cases k with
 |num=>
  unfold KA at hk;obtain⟨a,rfl,ha⟩:=hk;refine(Zr rfl ⟨a,_,_,Zr rfl ⟨rfl,eX.of ha,rfl,?_⟩⟩);refine pI rfl (by decide +kernel) ?_;by_cases hi:∃z,d=.int z
  . obtain⟨z,rfl⟩:=hi;unfold Own at hO;obtain⟨rfl,rfl⟩:=hO
    have er:r=none:=by
     cases r with
     |none=>rfl
     |some p=>obtain⟨hM,_⟩:=hR;cases hM with|num h=>exact absurd rfl (h _)
    subst er;refine(Zr rfl ⟨_,_,_,true,rfl,.int z,rfl,true,rfl,fY ?_⟩);refine(Zr rfl ⟨_,_,_,false,rfl,.int z,rfl,false,rfl,fY ?_⟩);exact q _ _ (Same.refl _) rfl
  . have er:r=some []:=by
     cases r with
     |none=>obtain⟨hF,_⟩:=hR;change fC _ _ at hF;unfold fC at hF;exact absurd hF hi
     |some p=>obtain⟨hM,_⟩:=hR;cases hM with|num h=>rfl
    by_cases hb:∃z,d=.boo z
    . obtain⟨z,rfl⟩:=hb;unfold Own at hO;obtain⟨rfl,rfl⟩:=hO;refine(Zr rfl ⟨_,_,_,true,rfl,.bl z,rfl,true,rfl,fY ?_⟩);refine(Zr rfl ⟨_,_,_,true,rfl,.bl z,rfl,true,rfl,fL ?_⟩);exact aq er
    . have hk:W.kitOne K (.type d.tag) (.type "int")=some false:=by
       cases d <;> first|rfl|exact absurd ⟨_,rfl⟩ hi|exact absurd ⟨_,rfl⟩ hb
      exact(Zr rfl ⟨_,_,_,false,rfl,hO.ty,hk,false,rfl,fL (fL (aq er))⟩)
 |gp=>
  unfold KA at hk;obtain⟨a,rfl,ha⟩:=hk;refine(Zr rfl ⟨a,_,_,Zr rfl ⟨rfl,eX.of ha,rfl,?_⟩⟩);refine jh rfl (by decide +kernel) ?_;refine pI rfl (by decide +kernel) ?_;by_cases hi:∃z,d=.str z
  . obtain⟨z,rfl⟩:=hi;unfold Own at hO;obtain⟨rfl,rfl⟩:=hO
    have er:r=none:=by
     cases r with
     |none=>rfl
     |some p=>obtain⟨hM,_⟩:=hR;cases hM with|gp h=>exact absurd rfl (h _)
    subst er;refine(Zr rfl ⟨_,_,_,true,rfl,.str z,rfl,true,rfl,fY ?_⟩);exact q _ _ (Same.refl _) rfl
  . have er:r=some []:=by
     cases r with
     |none=>obtain⟨hF,_⟩:=hR;change fC _ _ at hF;unfold fC at hF;exact absurd hF hi
     |some p=>obtain⟨hM,_⟩:=hR;cases hM with|gp h=>rfl
    exact(Zr rfl ⟨_,_,_,false,rfl,hO.ty,IU λz e=>hi ⟨z,e⟩,false,rfl,fL (aq er)⟩)
 |fT fs=>
  unfold KA at hk;obtain⟨a,b,xs,rfl,ha,hb,ap⟩:=hk;unfold Kd.W at hW;refine(Zr rfl ⟨a,_,_,Zr rfl ⟨rfl,eX.of ha,rfl,?_⟩⟩);refine jh rfl (by decide +kernel) ?_;refine jh rfl (by decide +kernel) ?_;refine pI rfl (by decide +kernel) ?_;exact(Zr rfl ⟨a,_,_,Zr rfl ⟨rfl,eX.of ha,rfl,Zr rfl ⟨b,v,xs,fs,d,fp,r,rfl,hb,ap,hW.1,hW.2.1,hW.2.2,hO,hR,q⟩⟩⟩)
 |rows key by_ fs=>
  unfold KA at hk;obtain⟨a,b,xs,rfl,ha,hb,ap⟩:=hk;refine(Zr rfl ⟨a,_,_,Zr rfl ⟨rfl,eX.of ha,rfl,?_⟩⟩);refine jh rfl (by decide +kernel) ?_;refine jh rfl (by decide +kernel) ?_;refine jh rfl (by decide +kernel) ?_;refine pI rfl (by decide +kernel) ?_;exact(Zr rfl (Zr rfl ⟨a,b,v,xs,key,by_,fs,d,fp,r,rfl,ha,hb,ap,hW,hO,hR,q⟩))
 |tree k=>
  unfold KA at hk;obtain⟨a,u,rfl,ha,hk⟩:=hk;unfold Kd.W at hW;refine(Zr rfl ⟨a,_,_,Zr rfl ⟨rfl,eX.of ha,rfl,?_⟩⟩);refine jh rfl (by decide +kernel) ?_;refine jh rfl (by decide +kernel) ?_;refine jh rfl (by decide +kernel) ?_;refine jh rfl (by decide +kernel) ?_;refine pI rfl (by decide +kernel) ?_;exact(Zr rfl (Zr rfl ⟨a,u,v,k,d,fp,r,rfl,ha,hk,hW,hO,hR,q⟩))
 |gZ fs=>
  unfold KA at hk;obtain⟨a,b,xs,rfl,ha,hb,ap⟩:=hk;unfold Kd.W at hW;refine(Zr rfl ⟨a,_,_,Zr rfl ⟨rfl,eX.of ha,rfl,?_⟩⟩);refine jh rfl (by decide +kernel) ?_;refine jh rfl (by decide +kernel) ?_;refine jh rfl (by decide +kernel) ?_;refine jh rfl (by decide +kernel) ?_;refine jh rfl (by decide +kernel) ?_;exact(Zr rfl ⟨a,_,_,Zr rfl ⟨rfl,eX.of ha,rfl,Zr rfl ⟨b,v,xs,fs,d,fp,r,rfl,hb,ap,hW.1,hW.2.2.2,hO,hR,q⟩⟩⟩)
def su (J:It) (H:Hp) (xs:List V):Prop:=(∀i x,xs[i]? =some x->J.go i H)/\(∀i x H',J.jU i H x H'->H'=H/\xs[i]? =some x)/\J.stop xs.length H
theorem qf {K:W.Frag}{H:Hp}{a:Addr}{xs:List V}(h:eX K H a xs):su (nQ K a) H xs:=⟨λ_ _ e=>⟨_,_,h,e⟩,λ_ _ _ y=>⟨y.1,y.2 _ h⟩,_,h,Q00 _⟩
theorem sy {K:W.Frag}{H:Hp}{a:Addr}{xs:List V}(h:d_ K H a xs):su (nO K a) H xs:=⟨λ_ _ e=>⟨_,_,h,e⟩,λ_ _ _ y=>⟨y.1,y.2 _ h⟩,_,h,Q00 _⟩
def CW (F:Nat->List V) (n:Nat) (H:Hp) (i m:Nat) (ys:List V) (H':Hp):Prop:=m=n - i/\i<=n/\ys=F i/\(F i).length<=i/\H'=H
theorem nB {J:It}{H:Hp}{xs:List V}{S:List V->Hp->Prop}{C:(Nat->Nat->List V->Hp->Prop)->Nat->Nat->List V->V->Hp->Prop}(Y:su J H xs)(F:Nat->List V)(aa:xs.length<=1000)
 (q:S (F xs.length) H) (step:∀i x,xs[i]? =some x->(∀y,F (i+1)=F i++[y]->∃U,U<xs.length - i/\CW F xs.length H (i+1) U (F i++[y]) H)->(F (i+1)=F i->∃U,U<xs.length - i/\CW F xs.length H (i+1) U (F i) H)->C (CW F xs.length H) i (xs.length - i) (F i) x H) (h0:F 0=[]:=by rfl):
 ∃W:Nat->Nat->List V->Hp->Prop,(∃m,W 0 m [] H)/\∀i m ys H',W i m ys H'->(J.stop i H'/\S ys H')\/(J.go i H'/\ys.length<sizeLine/\∀x L,J.jU i H' x L->C W i m ys x L):=by
 refine⟨CW F xs.length H,(Zr rfl ⟨Q07 _,h0.symm,by rw[h0];exact Q00 0,rfl⟩),?_⟩;rintro i m ys H' ⟨rfl,hi,rfl,hl,rfl⟩;by_cases I:i<xs.length
 . refine .inr ⟨Y.1 i _ (Q02 I),ig (by omega),λx L y=>?_⟩;obtain⟨rfl,hx⟩:=Y.2.1 _ _ _ y;exact step i x hx (λy e=>⟨_,Q24 _ _ I,rfl,I,e.symm,by rw[e,Q09];exact Q2k hl,rfl⟩) (λe=>⟨_,Q24 _ _ I,rfl,I,e.symm,by rw[e];omega,rfl⟩)
 . cases Q2l hi (Q12 I);exact .inl ⟨Y.2.2,q⟩
theorem take_add {α:Type}{l:List α}{i:Nat}{x:α}(h:l[i]? =some x):l.take (i+1)=l.take i++[x]:=by
 rw[Q0q,h];rfl
theorem vv {α I:Type}{l:List α}{p:α->Bool}{f:α->I}{i:Nat}{x:α}(h:l[i]? =some x)(c:p x=true):((l.take (i+1)).filter p).map f=((l.take i).filter p).map f++[f x]:=by
 rw[take_add h,Q3f,Q1y,if_pos c,Q0f];rfl
theorem vw {α I:Type}{l:List α}{p:α->Bool}{f:α->I}{i:Nat}{x:α}(h:l[i]? =some x)(c:¬p x=true):((l.take (i+1)).filter p).map f=((l.take i).filter p).map f:=by
 rw[take_add h,Q3f,Q1y,if_neg c,List.filter_nil,Q10]
theorem Fs.vx:∀{fs:Fs}{x:Str}{k:Kd},fs.get x=some k->∃j,fs.at j=some (x,k)
 | .nil,_,_,h=>by cases h
 | .cons y q r,x,k,h=>by
   have h:(if x=y then some q else r.get x)=some k:=h;by_cases e:x=y
   . rw[if_pos e] at h
     cases h;exact⟨0,by rw[e];rfl⟩
   . rw[if_neg e] at h;obtain⟨j,I⟩:=Fs.vx h;exact⟨j+1,I⟩
theorem Fs.vy {fs:Fs}{i j:Nat}{x:Str}{k I:Kd}(J:fs.names.Nodup)(h1:fs.at i=some (x,k))(h2:fs.at j=some (x,I)):i=j:=by
 have L:fs.names[i]? =some x:=by rw[Fs.kx,h1];rfl
 have U:fs.names[j]? =some x:=by rw[Fs.kx,h2];rfl
 obtain⟨l1,Y⟩:=List.getElem?_eq_some_iff.mp L;obtain⟨l2,q2⟩:=List.getElem?_eq_some_iff.mp U;exact(Q28 J).mp (Y.trans q2.symm)
theorem Jl {fs:Fs}{m:Ds}(h:hasB fs m=true):m.names.length=fs.names.length:=by
 unfold hasB at h;exact of_decide_eq_true (Bool.and_eq_true_iff.mp h).1
theorem vz (i:Nat):(List.replicate i true).all id=true:=by
 rw[Q13];intro z I;rw[List.eq_of_mem_replicate I];rfl
def oG (n:Nat):Sp:=λvs H Q _=>∃I v1 v2 k d f1 f2,vs=[I,v1,v2]/\KA H I k/\k.W/\Own H v1 d f1/\Own H v2 d f2/\i9 k d/\d.dep<=n/\d.Sm/\∀H',Same H H'->Q (.bl true) H'
theorem Jm:f_ XG XF (fo (top 36)):=gz
theorem Jn (n:Nat)(T:Tb mg)(I:Dn K mg "_law_alike" jL (top 36) Y aa)(J:eZ P w K mg base e_ (n+1) Y aa jL (oG n)):eZ P w K mg base e_ ((n+1)+1) Y aa jL (oG (n+1)):=by
 refine I.F.ok Jm λvs H Q E h=>?_;obtain⟨kv,v1,v2,k,d,f1,f2,rfl,hk,hW,af,ag,hF,aq,ai,q⟩:=h;refine⟨rfl,λa6 A outer s nd hr hu=>?_⟩
 refine⟨_,(eV (fA (fw gg (fh (pv 0) b_) fV (fv _)) (fc (fg (mz (fZ iV (by rfl) T.iY boot_isinstance (a_ (pv 1) (a_ (iR (v:=.ty "int") rfl T.B7 boot_int rfl) c_))) (mz (zV (fZ iV (by rfl) T.iY boot_isinstance (a_ (pv 1) (a_ (iR (v:=.ty "bool") rfl T.uV boot_bool rfl) c_)))) (nN (lU gg (pv 1) (pv 2) (fv _))))))) fy)
  (eV (fA (fw gg (fh (pv 0) b_) fV (fv _)) (fc (fg (mz (fZ iV (by rfl) T.iY boot_isinstance (a_ (pv 1) (a_ (iR (v:=.ty "str") rfl T.uW boot_str rfl) c_))) (nN (lU gg (pv 1) (pv 2) (fv _)))))) fy)
  (eV (fA (fw gg (fh (pv 0) b_) fV (fv _)) (eV (fA (PW.pt (jb (iB (iy (fZ iV (by rfl) T.iY boot_isinstance (a_ (pv 1) (a_ (iR (v:=.ty "dict") rfl T.uX boot_dict rfl) c_))))) (jt (fw jV (fZ ux (by rfl) T.ib PySem.boot_len (a_ (pv 1) c_)) (fZ iu (by rfl) T.ib PySem.boot_len (a_ (fh (pv 0) b_) c_)) (fv _))))) (fc (fg iw)) fy)
  (eV (jc PassesOwn.never rfl (kJ (fh (pv 0) b_)) (jS rfl (ik (gq (i:=3) nd rfl gO) (ik (gq (i:=4) nd rfl gO) jR))) (fc (fA (PW.pt (jb (tL (AM hu (pv 3) (pv 1)) (by with_unfolding_all rfl)) (jt (iB (iy (fx J hr I (a_ (pv 4) (a_ (iF hu (pv 1) (pv 3) (λ_ _=>rfl)) (a_ (iF hu (pv 2) (pv 3) (λ_ _=>rfl)) c_))))))))) (fc (fg iw)) fy)))
  (fc (fg iw)))) fy)
  (eV (fA (fw gg (fh (pv 0) b_) fV (fv _)) (eV (fA (PW.pt (jb (iB (iy (fZ iV (by rfl) T.iY boot_isinstance (a_ (pv 1) (a_ (iR (v:=.ty "list") rfl T.m7 boot_list rfl) c_))))) (jt (fw jV (fZ ux (by rfl) T.ib PySem.boot_len (a_ (pv 1) c_)) (fZ iu (by rfl) T.ib PySem.boot_len (a_ (pv 2) c_)) (fv _))))) (fc (fg iw)) fy)
  (fc (fg (fZ (qU rfl) (by rfl) T.rH boot_all (a_ (kr (g:=(o6 K 2 (lg (gK 0) (lg (gK 1) o5)))) (tt:=jX) (te:=(mM _ _ _ (g9 (mK (g9 (tC (.str "record")) (g9 (gI (iO K) (gf 2) (tC (.int 3))) iS))) (g9 (gf 0) (g9 (gf 1) iS))))) (own:=["_law_a","_law_b"]) rfl (jj (N:=XG) (sc:=fo (top 36))) (uG rfl T.uU (a_ (pv 1) (a_ (pv 2) c_))) (λ_ _ _ _ _=>(jS rfl (ik (gq (i:=0) (show(XE:List Str).Nodup by decide +kernel) rfl (Or.inl rfl) (.inr rfl)) (ik (gq (i:=1) (show(XE:List Str).Nodup by decide +kernel) rfl (Or.inl rfl) (.inr rfl)) jR)))) (λ_ _ _ _ _=>kT) (λ_ _ _ _ _=>(fx J hr I (a_ (gi (a_ fV (a_ (fh (pv 2) b_) c_))) (a_ (pv 0) (a_ (pv 1) c_)))))) c_))))) fy)
  (eV (fA (PW.pt (jb (iB (iy (fZ iV (by rfl) T.iY boot_isinstance (a_ (pv 1) (a_ (iR (v:=.ty "tuple") rfl T.oq boot_tuple rfl) c_))))) (jt (fw jV (fZ ux (by rfl) T.ib PySem.boot_len (a_ (pv 1) c_)) b_ (fv _))))) (fc (fg iw)) fy)
  (eV (fA (fw gg (fh (pv 0) b_) fV (fv _)) (eV (fA (PW.pt (jb (iB (iy (fZ iV (by rfl) T.iY boot_isinstance (a_ (fh (pv 1) b_) (a_ (iR (v:=.ty "str") rfl T.uW boot_str rfl) c_))))) (jt (fw jV (fh (pv 1) b_) (fh (pv 2) b_) (fv _))))) (fc (fg iw)) fy)
  (eV (qT (i:=4) nd rfl gO (g:=(gK 0)) (tt:=(kK (gI lr (gI (iO K) (gf 0) (tC (.int 0))) (gI (iO K) (gf 3) (tC (.int 0)))))) (te:=(gI (iO K) (gf 0) (tC (.int 1)))) (own:=["_law_pair"]) rfl (jj (N:=XG) (sc:=fo (top 36))) (kJ (fh (pv 0) b_)) (λ_ _ _ _ _=>(gq (i:=0) (show(["_law_pair","_law_kind_here","_law_found","_law_due","_law_name","_law_inner"]:List Str).Nodup by decide +kernel) rfl (Or.inl rfl) (.inr rfl))) (λ_ _ _ _ _=>(pH (fw gg (fh (pv 0) b_) (fh (pv 3) b_) (fv _)))) (λ_ _ _ _ _=>(fh (pv 0) b_)))
  (fc (fg (fx J hr I (a_ (gC (pv 4) b_) (a_ (fh (pv 1) b_) (a_ (fh (pv 2) b_) c_)))))))) fy)
  (eV (fA (PW.pt (jb (iB (iy (fZ iV (by rfl) T.iY boot_isinstance (a_ (fh (pv 1) b_) (a_ (iR (v:=.ty "list") rfl T.m7 boot_list rfl) c_))))) (jt (fw jV (fZ iu (by rfl) T.ib PySem.boot_len (a_ (fh (pv 1) b_) c_)) (fZ iu (by rfl) T.ib PySem.boot_len (a_ (fh (pv 2) b_) c_)) (fv _))))) (fc (fg iw)) fy)
  (eV (fA (iB (iy (fx J hr I (a_ (fh (pv 0) b_) (a_ (fh (pv 1) b_) (a_ (fh (pv 2) b_) c_)))))) (fc (fg iw)) fy)
  (fc (fg (fZ (qU rfl) (by rfl) T.rH boot_all (a_ (kr (g:=(o6 K 2 (lg (gK 0) (lg (gK 1) o5)))) (tt:=jX) (te:=(mM _ _ _ (g9 (gf 2) (g9 (gf 0) (g9 (gf 1) iS))))) (own:=["_law_a","_law_b"]) rfl (jj (N:=XG) (sc:=fo (top 36))) (uG rfl T.uU (a_ (fh (pv 1) b_) (a_ (fh (pv 2) b_) c_))) (λ_ _ _ _ _=>(jS rfl (ik (gq (i:=0) (show(XE:List Str).Nodup by decide +kernel) rfl (Or.inl rfl) (.inr rfl)) (ik (gq (i:=1) (show(XE:List Str).Nodup by decide +kernel) rfl (Or.inl rfl) (.inr rfl)) jR)))) (λ_ _ _ _ _=>kT) (λ_ _ _ _ _=>(fx J hr I (a_ (pv 2) (a_ (pv 0) (a_ (pv 1) c_)))))) c_)))))))))))),?_⟩
 ac_rfl
 cases k with
 |num=>
  unfold KA at hk;obtain⟨a,rfl,ha⟩:=hk;change fC _ _ at hF;unfold fC at hF;obtain⟨z,rfl⟩:=hF;unfold Own at af ag;obtain⟨rfl,rfl⟩:=af;obtain⟨rfl,rfl⟩:=ag;refine kU rfl ha rfl (by decide +kernel) ?_;refine(Zr rfl ⟨_,_,_,true,rfl,.int z,rfl,true,rfl,fY ?_⟩);refine(Zr rfl ⟨_,_,_,false,rfl,.int z,rfl,false,rfl,true,rfl,fY ?_⟩);refine(Zr rfl (Zr rfl ⟨rfl,?_⟩));rw[decide_eq_true rfl];exact q _ (Same.refl _)
 |gp=>
  unfold KA at hk;obtain⟨a,rfl,ha⟩:=hk;change fC _ _ at hF;unfold fC at hF;obtain⟨z,rfl⟩:=hF;unfold Own at af ag;obtain⟨rfl,rfl⟩:=af;obtain⟨rfl,rfl⟩:=ag;refine gY rfl ha rfl (by decide +kernel) ?_;refine kU rfl ha rfl (by decide +kernel) ?_;refine(Zr rfl ⟨_,_,_,true,rfl,.str _,rfl,true,rfl,fY ?_⟩);refine(Zr rfl (Zr rfl ⟨rfl,?_⟩));rw[decide_eq_true rfl];exact q _ (Same.refl _)
 |fT fs=>
  unfold KA at hk;obtain⟨a,b,xs,rfl,ha,hb,ah⟩:=hk;obtain⟨m,rfl,hU⟩:=hF;unfold Own at af ag;obtain⟨c1,aD,g1,rfl,L,rfl,aj⟩:=af;obtain⟨c2,a7,g2,rfl,ab,rfl,an⟩:=ag;unfold Kd.W at hW;unfold D.Sm at ai;simp only[D.dep] at aq;have aK:m.dep<=n:=by omega
  refine gY rfl ha rfl (by decide +kernel) ?_;refine gY rfl ha rfl (by decide +kernel) ?_;refine kU rfl ha rfl (by decide +kernel) ?_;have el:aD.length=xs.length:=by rw[fe.len aj,FA.len fs ah];exact Jl hU.1
  refine(Zr rfl ⟨_,_,_,true,rfl,.dK L,rfl,true,rfl,fL ?_⟩);refine(Zr rfl (.inl ⟨c1,Zr rfl ⟨L,Zr rfl ⟨a,_,_,Zr rfl ⟨rfl,eX.of ha,rfl,b,Zr rfl ⟨.inr (eX.of hb),rfl,Zr rfl ?_⟩⟩⟩⟩⟩));refine kq (show V.int (aD.length:Nat)=V.int (xs.length:Nat) by rw[el]) ?_;refine(Zr rfl ⟨a,_,_,Zr rfl ⟨rfl,eX.of ha,rfl,b,rfl,⟨_,eX.of hb⟩,qF (xs:=xs) (λi σ H'=>Same H H'/\∃x y,σ=[some (.ref a),some (.ref c1),some (.ref c2),x,y]) ⟨Same.refl _,_,_,rfl⟩ ?_ ?_ ?_⟩⟩)
  . rintro i σ H' _ ⟨s2,_⟩;exact eX.of (s2 _ _ hb)
  . rintro i v σ H' hv ⟨s2,x,y,rfl⟩;obtain⟨c,u,nm,k,rfl,ac,hc,hk⟩:=FA.get fs ah hv;obtain⟨d,hd,al⟩:=hU.2 _ _ (Fs.lE hW.1 ac);obtain⟨e1,f1,aT,aL,_⟩:=fe.val _ aj hd;obtain⟨e2,f2,aU,aM,_⟩:=fe.val _ an hd;have g1:gj H' c1 (.str nm) (some e1):=by have:=gj.k (k:=Sum.inr nm) (s2 _ _ L);rw[aT] at this;exact this
    have g2:gj H' c2 (.str nm) (some e2):=by have:=gj.k (k:=Sum.inr nm) (s2 _ _ ab);rw[aU] at this;exact this
    refine⟨c,Zr rfl ⟨eX.of (s2 _ _ hc),rfl,_,Zr rfl ⟨_,Zr rfl ⟨rfl,?_⟩⟩⟩⟩;refine(Zr rfl (Zr rfl ⟨c1,Zr rfl ⟨g1,false,rfl,fL ?_⟩⟩));refine(Zr rfl (Zr rfl (Zr rfl ⟨c1,e1,rfl,g1,Zr rfl (Zr rfl ⟨c2,e2,rfl,g2,u,e1,e2,k,d,f1,f2,rfl,KA.mono (Tu.of s2) k hk,Fs.mY hW.2.2 ac,Own.same s2 aL,Own.same s2 aM,i9.of al,Q0h (Ds.rA hd) aK,Ds.rZ ai.2 hd,λH3 s3=>⟨true,rfl,fL ?_⟩⟩)⟩)));exact⟨s2.trans s3,_,_,rfl⟩
  . rintro σ H' ⟨s2,_⟩;exact q _ s2
 |rows key by_ fs=>
  unfold KA at hk;obtain⟨a,b,xs,rfl,ha,hb,ah⟩:=hk;change fC _ _ at hF;unfold fC at hF;obtain⟨rs,rfl,al,a5,a8⟩:=hF;unfold Own at af ag;obtain⟨c1,U,g1,rfl,L,rfl,aj⟩:=af;obtain⟨c2,ae,g2,rfl,ab,rfl,an⟩:=ag;unfold Kd.W at hW;unfold D.Sm at ai;simp only[D.dep] at aq;have ak:U.length=(gA rs).len:=fm.len _ aj;have ao:ae.length=(gA rs).len:=fm.len _ an;have aP:=ai.1;refine gY rfl ha rfl (by decide +kernel) ?_;refine gY rfl ha rfl (by decide +kernel) ?_;refine gY rfl ha rfl (by decide +kernel) ?_;refine kU rfl ha rfl (by decide +kernel) ?_;refine(Zr rfl ⟨_,_,_,true,rfl,.lst L,rfl,true,rfl,fL ?_⟩);refine(Zr rfl (.inr ⟨c1,Zr rfl ⟨.inl (d_.of L),Zr rfl ⟨c2,Zr rfl ⟨.inl (d_.of ab),rfl,Zr rfl (kq (show V.int (U.length:Nat)=V.int (ae.length:Nat) by rw[ak,ao]) ?_)⟩⟩⟩⟩));refine(Zr rfl (Zr rfl ⟨c1,c2,rfl,⟨_,d_.of L⟩,⟨_,d_.of ab⟩,λi m zs H'=>m=U.length - i/\i<=U.length/\zs=(List.replicate i true).map V.bl/\Same H H',⟨U.length,rfl,Q07 _,rfl,Same.refl _⟩,?_⟩));rintro i mm zs H' ⟨rfl,aQ,rfl,s2⟩;by_cases hi:i<U.length
  . have au:i<ae.length:=by omega
    refine .inr ⟨⟨U,ae,U[i],ae[i],d_.of (s2 _ _ L),d_.of (s2 _ _ ab),Q02 hi,Q02 au⟩,by rw[Q03,Q1t];exact ig (by omega),λx aV y=>?_⟩;obtain⟨p,x1,x2,hp,rfl,e1,e2,rfl⟩:=y;have e1:=e1 _ (d_.of (s2 _ _ L));have e2:=e2 _ (d_.of (s2 _ _ ab));obtain⟨d,fa,ac,av,_⟩:=fm.get _ aj e1;obtain⟨d',fb,am,aw,_⟩:=fm.get _ an e2;rw[ac] at am
    cases am;obtain⟨m,hm,rfl⟩:=CC ac;have aW:=vf m hm;have s3:Same H' (upd H' p (.tup [x1,x2])):=Same.new hp;have sa:=s2.trans s3;refine⟨p,Zr rfl ⟨eX.of eW,rfl,_,Zr rfl ⟨_,Zr rfl ⟨rfl,rfl,yes (fY ?_)⟩⟩⟩⟩;refine(Zr rfl ⟨a,_,_,Zr rfl ⟨rfl,eX.of (sa _ _ ha),rfl,gE,λt ht=>?_⟩⟩);have st:Same (upd H' p (.tup [x1,x2])) (upd (upd H' p (.tup [x1,x2])) t (.tup [.str "record",.ref b])):=Same.new ht;have sb:=sa.trans st;refine(Zr rfl (Zr rfl ⟨.ref t,x1,x2,.fT fs,.dct m,fa,fb,rfl,?_,?_,Own.same sb av,Own.same sb aw,?_,by simp only[D.dep];omega,ve ai.2 m hm,λH3 s4=>?_⟩))
    . unfold KA;exact⟨t,b,xs,rfl,eW,sb _ _ hb,FA.mono (Tu.of sb) fs ah⟩
    . unfold Kd.W;exact⟨hW.1,hW.2.1,hW.2.2.1⟩
    . exact i9.of (by unfold fC;exact⟨m,rfl,al m hm⟩)
    . refine⟨U.length - (i+1),by omega,rfl,hi,?_,sb.trans s4⟩;rw[List.replicate_succ',Q0f];rfl
  . refine .inl ⟨⟨U,ae,d_.of (s2 _ _ L),d_.of (s2 _ _ ab),.inl (Q12 hi)⟩,λp hp=>⟨p,List.replicate i true,rfl,d_.of eW,?_⟩⟩;rw[vz];exact q _ (s2.trans (Same.new hp))
 |tree k=>
  have aX:=hk;unfold KA at hk;obtain⟨a,u,rfl,ha,aY⟩:=hk;change fC _ _ at hF;unfold fC at hF;have aZ:=hW;unfold Kd.W at hW;obtain⟨x,y,t,as,rfl,a1,ah⟩:=hF.shape;obtain⟨c1,u1,w1,ax,a9,rfl,L,rfl,ay,aE⟩:=af.pair;obtain⟨c2,u2,w2,az,ba,rfl,ab,rfl,aA,aF⟩:=ag.pair;unfold Own at aE aF;obtain⟨l1,U,g1,rfl,ak,rfl,aj⟩:=aE;obtain⟨l2,ae,g2,rfl,ao,rfl,an⟩:=aF;simp only[D.dep,Ds.dep] at aq;unfold D.Sm Ds.Sm at ai;obtain⟨_,aG,ap⟩:=ai;unfold Ds.Sm at ap;have aB:=ap.1;unfold D.Sm at aB;have aP:=aB.1;have a2:U.length=as.len:=fm.len _ aj;have a3:ae.length=as.len:=fm.len _ an;refine gY rfl ha rfl (by decide +kernel) ?_;refine gY rfl ha rfl (by decide +kernel) ?_;refine gY rfl ha rfl (by decide +kernel) ?_;refine gY rfl ha rfl (by decide +kernel) ?_;refine(Zr rfl ⟨_,_,_,true,rfl,.tup L,rfl,true,rfl,fL ?_⟩);refine(Zr rfl (.inr ⟨c1,Zr rfl ⟨.inr (eX.of L),rfl,Zr rfl (kq rfl ?_)⟩⟩));refine gY rfl ha rfl (by decide +kernel) ?_;refine(Zr rfl ⟨c1,_,_,Zr rfl ⟨rfl,eX.of L,rfl,_,_,_,true,rfl,.lst ak,rfl,true,rfl,fL ?_⟩⟩);refine(Zr rfl ⟨c1,_,_,Zr rfl ⟨rfl,eX.of L,rfl,l1,Zr rfl ⟨.inl (d_.of ak),Zr rfl ⟨c2,_,_,Zr rfl ⟨rfl,eX.of ab,rfl,l2,Zr rfl ⟨.inl (d_.of ao),rfl,Zr rfl (kq (show V.int (U.length:Nat)=V.int (ae.length:Nat) by rw[a2,a3]) ?_)⟩⟩⟩⟩⟩⟩);refine(Zr rfl ⟨a,_,_,Zr rfl ⟨rfl,eX.of ha,rfl,Zr rfl ⟨c1,_,_,Zr rfl ⟨rfl,eX.of L,rfl,Zr rfl ⟨c2,_,_,Zr rfl ⟨rfl,eX.of ab,rfl,u,u1,u2,k,t,ax,az,rfl,aY,hW,ay,aA,i9.of a1,by omega,aG,λH1 s1=>⟨true,rfl,fL ?_⟩⟩⟩⟩⟩⟩⟩);refine(Zr rfl ⟨c1,_,_,Zr rfl ⟨rfl,eX.of (s1 _ _ L),rfl,Zr rfl ⟨c2,_,_,Zr rfl ⟨rfl,eX.of (s1 _ _ ab),rfl,l1,l2,rfl,⟨_,d_.of (s1 _ _ ak)⟩,⟨_,d_.of (s1 _ _ ao)⟩,λi m zs H'=>m=U.length - i/\i<=U.length/\zs=(List.replicate i true).map V.bl/\Same H H',⟨U.length,rfl,Q07 _,rfl,s1⟩,?_⟩⟩⟩⟩);rintro i mm zs H' ⟨rfl,aQ,rfl,s2⟩;by_cases hi:i<U.length
  . have au:i<ae.length:=by omega
    refine .inr ⟨⟨U,ae,U[i],ae[i],d_.of (s2 _ _ ak),d_.of (s2 _ _ ao),Q02 hi,Q02 au⟩,by rw[Q03,Q1t];exact ig (by omega),λx aV y=>?_⟩;obtain⟨p,x1,x2,hp,rfl,e1,e2,rfl⟩:=y;have e1:=e1 _ (d_.of (s2 _ _ ak));have e2:=e2 _ (d_.of (s2 _ _ ao));obtain⟨d,fa,ac,av,_⟩:=fm.get _ aj e1;obtain⟨d',fb,am,aw,_⟩:=fm.get _ an e2;rw[ac] at am
    cases am;have aW:=Ds.mW ac;have s3:Same H' (upd H' p (.tup [x1,x2])):=Same.new hp;have sa:=s2.trans s3;refine⟨p,Zr rfl ⟨eX.of eW,rfl,_,Zr rfl ⟨_,Zr rfl ⟨rfl,rfl,yes (fY ?_)⟩⟩⟩⟩;refine(Zr rfl (Zr rfl (Zr rfl ⟨.ref a,x1,x2,.tree k,d,fa,fb,rfl,KA.mono (Tu.of sa) _ aX,aZ,Own.same sa av,Own.same sa aw,i9.of (by unfold fC;exact iX.at ah ac),by omega,Ds.vd aB.2 ac,λH3 s4=>?_⟩)));refine⟨U.length - (i+1),by omega,rfl,hi,?_,sa.trans s4⟩;rw[List.replicate_succ',Q0f];rfl
  . refine .inl ⟨⟨U,ae,d_.of (s2 _ _ ak),d_.of (s2 _ _ ao),.inl (Q12 hi)⟩,λp hp=>⟨p,List.replicate i true,rfl,d_.of eW,?_⟩⟩;rw[vz];exact q _ (s2.trans (Same.new hp))
 |gZ fs=>
  unfold KA at hk;obtain⟨a,b,xs,rfl,ha,hb,ah⟩:=hk;change fC _ _ at hF;unfold fC at hF;obtain⟨x,v',rfl,hE⟩:=hF;obtain⟨c1,z1,u1,bb,ax,rfl,L,rfl,aH,ay⟩:=af.pair;obtain⟨c2,z2,u2,bc,az,rfl,ab,rfl,aI,aA⟩:=ag.pair;unfold Own at aH aI;obtain⟨rfl,rfl⟩:=aH;obtain⟨rfl,rfl⟩:=aI;unfold Kd.W at hW;simp only[D.dep,Ds.dep] at aq;unfold D.Sm Ds.Sm at ai;obtain⟨_,aG,ap⟩:=ai;unfold Ds.Sm at ap;obtain⟨k,ar,al⟩:=vk hE;obtain⟨j,hj⟩:=Fs.vx ar;obtain⟨c,u,aC,hc,a4⟩:=FA.at ah hj;have bd:j<xs.length:=(List.getElem?_eq_some_iff.mp aC).1;have be:xs.length<=12:=by rw[FA.len fs ah];exact hW.2.1
  refine gY rfl ha rfl (by decide +kernel) ?_;refine gY rfl ha rfl (by decide +kernel) ?_;refine gY rfl ha rfl (by decide +kernel) ?_;refine gY rfl ha rfl (by decide +kernel) ?_;refine(Zr rfl ⟨_,_,_,true,rfl,.tup L,rfl,true,rfl,fL ?_⟩);refine(Zr rfl (.inr ⟨c1,Zr rfl ⟨.inr (eX.of L),rfl,Zr rfl (kq rfl ?_)⟩⟩));refine kU rfl ha rfl (by decide +kernel) ?_;refine(Zr rfl ⟨c1,_,_,Zr rfl ⟨rfl,eX.of L,rfl,_,_,_,true,rfl,.str _,rfl,true,rfl,fL ?_⟩⟩);refine(Zr rfl ⟨c1,_,_,Zr rfl ⟨rfl,eX.of L,rfl,Zr rfl ⟨c2,_,_,Zr rfl ⟨rfl,eX.of ab,rfl,rfl,Zr rfl (kq rfl ?_)⟩⟩⟩⟩);refine(Zr rfl ⟨a,_,_,Zr rfl ⟨rfl,eX.of ha,rfl,b,rfl,⟨_,eX.of hb⟩,nB (qf (eX.of hb)) (λi=>if j<i then [u] else []) (by omega) (λp hp=>?_) (λi z hv add skip=>?_) (if_neg (Q1k _))⟩⟩)
  . rw[if_pos (List.getElem?_eq_some_iff.mp aC).1];have s1:Same H (upd H p (.lst [u])):=Same.new hp
    exact(Zr rfl ⟨p,_,_,Zr rfl ⟨rfl,d_.of eW,gL (j:=0) rfl,Zr rfl ⟨c1,_,_,Zr rfl ⟨rfl,eX.of (s1 _ _ L),rfl,Zr rfl ⟨c2,_,_,Zr rfl ⟨rfl,eX.of (s1 _ _ ab),rfl,
     u,u1,u2,k,v',ax,az,rfl,KA.mono (Tu.of s1) k a4,Fs.vm hW.2.2.2 ar,Own.same s1 ay,Own.same s1 aA,i9.of al,by omega,ap.1,λH2 s2=>q _ (s1.trans s2)⟩⟩⟩⟩⟩⟩)
  . obtain⟨d,w',nm,k',rfl,ac,hd,bf⟩:=FA.get _ ah hv;refine⟨rfl,Zr rfl ⟨d,_,_,Zr rfl ⟨rfl,eX.of hd,rfl,Zr rfl ⟨c2,_,_,Zr rfl ⟨rfl,eX.of ab,rfl,rfl,Zr rfl (gm (λcc=>?_) (λcc=>skip ?_))⟩⟩⟩⟩⟩
    . have e:nm=x:=by
       have:=of_decide_eq_true cc;injection this
      subst e
      cases Fs.vy hW.1 ac hj;rw[aC] at hv
      cases hv;rw[hc] at hd
      cases hd;refine(Zr rfl ⟨c,_,_,Zr rfl ⟨rfl,eX.of hc,rfl,add _ ?_⟩⟩);rw[if_neg (Q0l _),if_pos (Q1 _)];rfl
    . have ne:i≠j:=λe=>by
       subst e;rw[ac] at hj
       cases hj;exact cc (decide_eq_true rfl)
      by_cases aJ:j<i
      . rw[if_pos aJ,if_pos (by omega)]
      . rw[if_neg aJ,if_neg (by omega)]
theorem C9 (T:Tb mg)(I:Dn K mg "_law_alike" jL (top 36) J L):∀n:Nat,eZ P w K mg base e_ (n+1) J L jL (oG n)
 |0=>by
  have no:∀vs H Q E,¬oG 0 vs H Q E:=λvs H Q E h=>by
   obtain⟨_,_,_,_,d,_,_,_,_,_,_,_,_,U,_⟩:=h;have:=d.lW;omega
  exact⟨λvs H Q E h=>absurd h (no vs H Q E),λA outer s H args us vs Q E _ _ _ _ h=>absurd h (no vs H Q E)⟩
 |n+1=>Jn n T I (C9 T I n)
theorem C_ {y q:Key}:kM (kV y) (kV q)=true↔y=q:=by
 constructor
 . intro h
   cases y <;> cases q
   . exact congrArg Sum.inl (eq_of_beq (α:=Int) h)
   . cases h
   . cases h
   . exact congrArg Sum.inr (eq_of_beq (α:=Str) h)
 . rintro rfl
   cases y
   . exact BEq.rfl (α:=Int)
   . exact BEq.rfl (α:=Str)
theorem Jo {q:Key}{ps:List Key}:inV (kV q) (ps.map kV)=true↔q∈ps:=by
 unfold inV;rw[Q23,Q2j];constructor
 . rintro⟨y,I,e⟩;rw[<-C_.mp e];exact I
 . exact λh=>⟨q,h,C_.mpr rfl⟩
theorem Dd (q:Key):kh (kV q)=true:=by cases q <;> rfl
theorem flat_keys {ps:List Key}:(ps.map kV).all kh=true:=by
 rw[List.all_map,Q13];exact λq _=>Dd q
theorem Jp {H:Hp}{o:Option Kd}{k:Kd}{d:D}{v:V}{L:List Addr}(e:o=some k)(hp:lX k)(I:fC k d)(J:Own H v d L):∃q,v=kV q/\d=kD q/\jM o q:=by
 subst e
 cases k with
 |num=>
  unfold fC at I;obtain⟨z,rfl⟩:=I;unfold Own at J;exact⟨.inl z,J.1,rfl,trivial⟩
 |gp=>
  unfold fC at I;obtain⟨z,rfl⟩:=I;unfold Own at J;exact⟨.inr z,J.1,rfl,trivial⟩
 |_=>exact hp.elim
def De (K:W.Frag) (Pt:Addr) (N:Nat):Sp:=λvs H Q _=>∃a b ns n pk pb xs key by_ fs,∃m:Nat,vs=[.ref a,.ref b,.ref pk,.int m]/\G0 K H a b ns n/\fi Pt iD iE H/\H pk=some (.tup [.str "rows",.str key,.str by_,.ref pb])/\H pb=some (.tup xs)/\FA H xs fs/\(Kd.rows key by_ fs).W/\m<=30/\n+100<=1000000000000/\24<=N/\
 ∀D (ps:List Key) n' H',fQ b Pt H H'->H' b=some (.lst [.int n'])->n<=n'->n'<=n+m->fi Pt iD iE H'->H D=none->D≠b->H' D=some (.lst (ps.map kV))->ps.Nodup->ps.length<=m->(∀p∈ps,jM (fs.get key) p)->Q (.ref D) H'
theorem Jq:f_ XX XV (fo (top 39)):=gz
theorem Jr {Pt:Addr}(N:Nat)(T:Tb mg)(Y:Dn K mg "_law_pool" rJ (top 39) aa ab)(I:Dn K mg "_law_value" iL (top 35) J L)(U:eZ P w K mg base e_ (2 * N+5) J L iL (nh K Pt N)):eZ P w K mg base e_ (2 * N+6) aa ab rJ (De K Pt N):=by
 refine Y.F.ok Jq λvs H Q E h=>?_;obtain⟨a,b,ns,n,pk,pb,xs,key,by_,fs,m,rfl,g,hT,ar,au,am,hW,hm,hn,hN,q⟩:=h;refine⟨rfl,λaK A outer s nd hr hu=>?_⟩
 refine⟨_,(eV (fj 4 nd (gC (kr (g:=(gK 0)) (tt:=(kK (gI lr (gI (iO K) (gf 0) (tC (.int 0))) (gI (iO K) (gf 3) (tC (.int 1)))))) (te:=(gI (iO K) (gf 0) (tC (.int 1)))) (own:=["_law_pair"]) rfl (jj (N:=XX) (sc:=fo (top 39))) (kJ (fh (pv 2) b_)) (λ_ _ _ _ _=>(gq (i:=0) (show(["_law_pair","_law_script","_law_at","_law_kind_here","_law_many","_law_lead","_law_pool_here","_law_k","_law_one"]:List Str).Nodup by decide +kernel) rfl (Or.inl rfl) (.inr rfl))) (λ_ _ _ _ _=>(pH (fw gg (fh (pv 0) b_) (fh (pv 3) b_) (fv _)))) (λ_ _ _ _ _=>(fh (pv 0) b_))) b_))
  (eV (fj 5 nd (gu c_))
  (eV (jc PassesOwn.never rfl (mF rfl T.lZ (a_ (pv 3) c_)) (gq (i:=6) nd rfl gO) (eV (fj 7 nd (fx U hr I (a_ (pv 0) (a_ (pv 1) (a_ (pv 4) (a_ b_ c_))))))
  (fc (fA (fw AE (pv 7) (pv 5) (by with_unfolding_all rfl)) (fc (kI (mP PySem.F.plainAttrs_list PySem.F.slot_list_append PySem.F.type_list_append nU (pv 5) (a_ (pv 7) c_)))) fy))))
  (fc (fg (pv 5)))))),?_⟩
 ac_rfl
 unfold Kd.W at hW;obtain⟨aF,aL,aG,aD,aM⟩:=hW;obtain⟨k,av,ae⟩:=aD;obtain⟨j,hj⟩:=Fs.vx av;have aH:=FA.len fs am
 have an:j<xs.length:=by
  rw[aH];have:=Fs.kx fs j;rw[hj] at this;exact(List.getElem?_eq_some_iff.mp this).1
 obtain⟨cj,uj,aP,kj,ej,al,aw,ax⟩:=FA.get fs am (Q02 an);rw[hj] at al
 cases al;refine(Zr rfl ⟨pk,_,_,Zr rfl ⟨rfl,eX.of ar,rfl,pb,rfl,⟨_,eX.of au⟩,nB (qf (eX.of au)) (λi=>if j<i then [uj] else []) (by omega) (λp hp=>?_) (λi z hv add skip=>?_) (if_neg (Q1k _))⟩⟩)
 case refine_2=>
  obtain⟨d,w',nm,k',rfl,ay,hd,aQ⟩:=FA.get _ am hv;refine⟨rfl,Zr rfl ⟨d,_,_,Zr rfl ⟨rfl,eX.of hd,rfl,Zr rfl ⟨pk,_,_,Zr rfl ⟨rfl,eX.of ar,rfl,rfl,Zr rfl (gm (λcc=>?_) (λcc=>skip ?_))⟩⟩⟩⟩⟩
  . have e:nm=key:=by
     have:=of_decide_eq_true cc;injection this
    subst e
    cases Fs.vy aF ay hj;rw[Q02 an,ej] at hv
    cases hv;rw[aw] at hd
    cases hd;refine(Zr rfl ⟨cj,_,_,Zr rfl ⟨rfl,eX.of aw,rfl,add _ ?_⟩⟩);rw[if_neg (Q0l _),if_pos (Q1 _)];rfl
  . have ne:i≠j:=λe=>by
     subst e;rw[ay] at hj
     cases hj;exact cc (decide_eq_true rfl)
    by_cases az:j<i
    . rw[if_pos az,if_pos (by omega)]
    . rw[if_neg az,if_neg (by omega)]
 rw[if_pos an];have s1:Same H (upd H p (.lst [uj])):=Same.new hp;refine⟨p,_,_,Zr rfl ⟨rfl,d_.of eW,gL (j:=0) rfl,?_⟩⟩;generalize upd H p (.lst [uj])=H1 at s1;have hb:=g.at_;have aT:=hT.same s1;refine⟨pU,λpr aA=>?_⟩;have s2:=s1.trans (Same.new aA (o:=.lst []));have af:H pr=none:=s1.free aA;have ao:b≠pr:=ff hb af;have aU:=KA.mono (Tu.of s2) k ax;have ai:=hT.same s2;obtain⟨aV,hP⟩:=hT.tab;have jP:Pt≠pr:=ff hP af;have em:Int.toNat (m:Int)=m:=by omega
 refine(Zr rfl (Zr rfl ⟨by omega,by omega,lQ (n:=Int.toNat (m:Int)) (λi σ H'=>∃(x z:Option V) (ps:List Key) (n':Int),σ=[some (.ref a),some (.ref b),some (.ref pk),some (.int m),some uj,some (.ref pr),x,z]/\fQ b Pt H H'/\H' b=some (.lst [.int n'])/\n<=n'/\n'<=n+i/\fi Pt iD iE H'/\H' pr=some (.lst (ps.map kV))/\ps.Nodup/\ps.length<=i/\∀p∈ps,jM (fs.get key) p) ?_ ?_ ?_⟩))
 . exact⟨_,_,[],n,rfl,Kp.of s2,s2 _ _ hb,Q2i _,by omega,ai,eW,Q0t,Q00 _,λp hp=>nomatch hp⟩
 . intro i σ H' hi zq;obtain⟨x,z,ps,n',rfl,kp,ap,w1,w2,aq,ag,aj,ah,ak⟩:=zq;rw[em] at hi;have aB:=Fs.mY aG hj;have aW:k.dep=1:=by cases k with|num=>rfl|gp=>rfl|_=>exact ae.elim
   have aX:kc k 0<=1:=by cases k with|num=>exact Q00 _|gp=>exact Q00 _|_=>exact ae.elim
   refine(Zr rfl (Zr rfl (Zr rfl ⟨a,b,ns,n',uj,k,0,rfl,fQ.g0 kp g hT ap w1,aq,KA.mono (kp.tu hb hT) k ax,aB,by decide,(by have:=u6 k 0;omega),by omega,λv H2 fp f7 aC ai aE _ _=>?_⟩)));have c2:=oj ns k 0 n' (by decide);have aY:k.cB<=1:=by cases k with|num=>exact Q00 _|gp=>exact Q00 _|_=>exact ae.elim
   obtain⟨qk,rfl,_,aI⟩:=Jp av ae (rm ns k aB 0 n' (by decide)) aE;generalize (val ns k 0 n').2=n2 at *;have ac:H2 pr=some (.lst (ps.map kV)):=f7 pr _ (λz=>z.elim (Ne.symm ao) (Ne.symm jP)) ag;have i_:=kp.trans f7;refine(Zr rfl (Zr rfl ⟨pr,Zr rfl ⟨.inl (d_.of ac),Dd _,flat_keys,Zr rfl (gm (λcc=>?_) (λcc=>?_))⟩⟩))
   . have aJ:qk ∉ ps:=λz=>by
      have cc:(!inV (kV qk) (ps.map kV))=true:=cc;rw[Jo.mpr z] at cc
      cases cc
     refine(Zr rfl ⟨.inl ⟨rfl,_,d_.of ac⟩,Zr rfl ⟨pr,_,Zr rfl ⟨rfl,ac,ig (by rw[Q03];omega),?_⟩⟩⟩);refine⟨_,_,ps++[qk],n2,rfl,λc o nc e=>?_,by rw[eU ao];exact aC,by omega,by omega,ai.wr (.inl ⟨_,ac⟩),by rw[Q0f];exact eW,?_,by rw[Q09];show ps.length+1<=i+1;omega,λp hp=>?_⟩
     . rw[eU (ff e af)];exact i_ c o nc e
     . exact List.nodup_append.mpr ⟨aj,List.nodup_cons.mpr ⟨by simp,Q0t⟩,λa ha b hb e=>by rw[List.mem_singleton.mp hb] at e;rw[e] at ha;exact aJ ha⟩
     . rcases List.mem_append.mp hp with z|z
       . exact ak p z
       . rw[List.mem_singleton.mp z];exact aI
   . exact⟨_,_,ps,n2,rfl,i_,aC,by omega,by omega,ai,ac,aj,by omega,ak⟩
 . intro σ H' zq;obtain⟨x,z,ps,n',rfl,kp,ap,w1,w2,aq,ag,aj,ah,ak⟩:=zq;rw[em] at w2 ah;exact(Zr rfl (q pr ps n' H' kp ap w1 w2 aq af (Ne.symm ao) ag aj ah ak))
theorem Js (xs:List V)(i:Nat):kL xs none (some (i:Int))=xs.take i:=by
 unfold kL;rw[HT.Av,HT.Aw,List.drop_zero,Nat.sub_zero];exact List.take_eq_take_iff.mpr (by omega)
theorem Jt (xs:List V)(i:Nat):kL xs (some (i:Int)) none=xs.drop i:=by
 unfold kL;rw[HT.Av,HT.Aw];rcases Nat.le_total i xs.length with h|h
 . rw[Nat.min_eq_left h];exact Q0w (by rw[Q11];exact Q00 _)
 . rw[Nat.min_eq_right h,Q3g (Q00 _),Q3g h];simp
theorem Df (T:Tb mg)(U:Dn K mg "misfit" jy (top 10) ah ai)(I:Dn K mg "record_misfit" j0 (top 11) aj ak)(ab:Dn K mg "has_just" j0 (top 12) ap aq)(Y:Dn K mg "rows_misfit" pY (top 13) an ao)(ag:Dn K mg "rank" pW (top 17) ay az)(J:Dn K mg "tree_misfit" lF (top 15) ae af)(aa:Dn K mg "is_pair" m_ (top 14) ar au)(L:Dn K mg "either_misfit" pZ (top 16) al am)(ac:Dn K mg "kind_at" m9 (top 6) av aw):∀n:Nat,eZ P w K mg base e_ (4 * n+3) ah ai jy (nA n)/\eZ P w K mg base e_ (4 * n+2) ae af lF (qe n)
 |0=>⟨Jj T U,Jf T J⟩
 |n+1=>by
  obtain⟨M,Tr⟩:=Df T U I ab Y ag J aa L ac n;have Ip:=IP (P:=P) (w:=w) (base:=base) T aa;have R:=IY n T I ab (IS T ab) U M;have Ro:=I_ n T Y I R ag (Ij T ag);have ax:=Jg n T J Tr aa Ip U M;have Ei:=Ji n T L aa Ip ac (C2 T ac) U M;exact⟨Jk n T U I R Y Ro J ax L Ei,ax⟩
end Pb
namespace L2
open Spec PyProof.Rows
def l8 (h:Heap) (C fI:Addr) (jl:List Value) (nid:String):Prop:=
 ∃tl N nm q bs I Y sub ab J dd k0 k1 k2 k3 k5 L U,h.get? C=some (excClassObj nm q C N bs tl I Y sub ab J dd k0 k1 k2 k3 k5 nid)/\h.Ns N L/\L "__init__"=some (.ref fI)/\OwnTail h jl tl/\h.get? fI=some U/\U.cls=.type "function"
theorem l8.keeps {h h':Heap}{C fI:Addr}{jl:List Value}{nid:String}(x:l8 h C fI jl nid)(k:∀b o,h.get? b=some o->h'.get? b=some o):l8 h' C fI jl nid:=by
 obtain⟨tl,N,nm,q,bs,I,L,sub,U,J,Y,k0,k1,k2,k3,k5,mN,oI,h1,h2,h3,h4,h5,h6⟩:=x;exact⟨tl,N,nm,q,bs,I,L,sub,U,J,Y,k0,k1,k2,k3,k5,mN,oI,k _ _ h1,h2.keeps k,h3,h4.keeps k,k _ _ h5,h6⟩
section
variable {prog:Program}{w:World}{A:Around}{E:Value->Shared->Prop}{hp:Heap}{g:Array GenState}{dr:Drawn}{tk:Nat}{os:OsState}{C fI:Addr}{jl:List Value}{B nid sA:String}
theorem Ju (FB:ExcBaseFacts B nid sA jl){us:List Value}{Q:Fin->Shared->Prop}(x:l8 hp C fI jl nid)
 (q1:∀h' e,Heap.MadeExcOf hp h' e (.ref C) us->wpAny (model prog w) A (call (.ref fI) (.ref e::us)) (λr s'=>r=.none/\Q (.done (.ret (.ref e))) s') E ⟨h',g,dr,tk,os⟩) (hl:us.length<=sizeLine):
 wpAny (model prog w) A (Builtin.«type.__call__» ⟨.ref C::us,[]⟩) Q E ⟨hp,g,dr,tk,os⟩:=by
 obtain⟨tl,N,nm,q,bs,ak,sn,sub,ab,al,dd,k0,k1,k2,k3,k5,mN,oI,cl,ns,ac,I,ae,af⟩:=x
 repeat (first|with_reducible refine wpAny_loadPart_at cl ?_|with_reducible refine wpAny_madeBy_exc cl ?_|wp_step)
 refine codeAny_call_builtin_code (Code.quiet_builtin _ FB.quiet) (wpAny_check_new_subT FB I cl (codeAny_exc_new_subT FB I cl ?_ hl));show wpAny _ _ _ _ _ _;generalize ag:({ cls:=.type "tuple",data:=.seq us.toArray }:Obj)=o1;generalize J:({ cls:=.ref C,data:=.fields #[.ref hp.objs.size,.none,.none,.none,.bool false,.none] }:Obj)=U;have up:∀b o,hp.get? b=some o->((hp.push o1).push U).get? b=some o:=λb o e=>Q0a _ (Q0a _ e);have Y:=up _ _ cl;have ah:((hp.push o1).push U).Ns N mN:=ns.keeps up;have aa:=up _ _ ae;have L:=I.keeps up
 have ex:((hp.push o1).push U).get? (hp.objs.size+1)=some U:=by
  subst J;exact Q2m (by rw[Q1q]) rfl
 have ai:U.cls=.ref C:=by rw[<-J]
 have aj:(Value.ref C::tl).contains (.ref C)=true:=by simp
 unfold isInstance
 repeat (first|(with_reducible refine wpAny_loadPart_at ex ?_;rw[ai])|(with_reducible refine wpAny_isSubtype_exc Y ?_;rw[aj])|wp_step)
 show wpAny _ _ (typeLookup (.ref C) _) _ _ _;refine wpAny_typeLookup_tail Y ah L FB.mroIs FB.init.lookup ?_;rw[ac];refine wpAny_holding (Q0 ?_);unfold bindSpecial;refine Q0 (wpAny_typeOf (T:="function") ⟨_,aa,af⟩ ?_);rw[if_pos (by decide)];refine Q0d (Q0 (Q0m (q1 _ (hp.objs.size+1) ⟨up,Q27 (Q18 _),hp.objs.size,?_,Q27 (Q00 _),?_⟩) (λr s' hr=>?_) λ_ _ z=>z))
 . rw[ex,<-J]
 . rw[<-ag];exact Q0a _ (Q2m rfl rfl)
 . obtain⟨rfl,hQ⟩:=hr
   wp_walk
   exact hQ
theorem Jv (FB:ExcBaseFacts B nid sA jl){us:List Value}{Q:Value->Shared->Prop}(x:l8 hp C fI jl nid)
 (L:∀h' e,Heap.MadeExcOf hp h' e (.ref C) us->wpAny (model prog w) (A.under (.builtin "type.__call__" ⟨.ref C::us,[]⟩)) (call (.ref fI) (.ref e::us)) (λr s'=>r=.none/\Q (.ref e) s') E ⟨h',g,dr,tk,os⟩) (hl:us.length<=sizeLine):
 wpAny (model prog w) A (call (.ref C) us) Q E ⟨hp,g,dr,tk,os⟩:=by
 have aa:=tc_lookup;have ac:=tc_bind (.ref C);have U:=x;obtain⟨tl,N,nm,q,bs,I,sn,sub,ab,ae,dd,k0,k1,k2,k3,k5,mN,oI,cl,ns,af,J,ag,ah⟩:=U;have ty:(⟨hp,g,dr,tk,os⟩:Shared).TypeIs (.ref C) "type":=⟨_,cl,rfl⟩;refine wpAny_call (codeAny_of_tree ?_);show wpAny _ _ (callAny (.ref C) _) _ _ _
 repeat (any_goals (first|assumption|with_reducible refine wpAny_loadPart_at cl ?_|wp_step))
 exact⟨rfl,codeAny_call_builtin_at (Code.quiet_builtin _ (by decide +kernel)) entry_typeCall (wpAny_check_type_call_sub cl (Ju FB x (λh' e Y=>L h' e Y) hl))⟩
end
theorem Jw {M:Model}{A:Around}{E:Value->Shared->Prop}{env:Env}{s:Shared}{x:Sem Value}{Q:Flow->Shared->Prop}(hh:A.handled=none)
 (h:wpAny M A x (λv J=>∃(e C:Addr) (L:Obj) (t:Value) (r:Array Value),v=.ref e/\J.heap.get? e=some L/\L.cls=.ref C/\L.data=.fields #[t,.none,.none,.none,.bool false,.none]/\
   (∃tl N nm q bs I sn sub ab U dd k0 k1 k2 k3 k5 nid,J.heap.get? C=some (excClassObj nm q C N bs tl I sn sub ab U dd k0 k1 k2 k3 k5 nid)/\tl.contains (.type "BaseException")=true)/\E (.ref e) J) E s):
 wpAny M A (raiseStmt env (some x) none) Q E s:=by
 unfold raiseStmt;refine Q0 (Q0m h (λv J h1=>?_) λ_ _ z=>z);obtain⟨e,C,L,t,r,rfl,he,hc,Y,⟨tl,N,nm,q,bs,I,sn,sub,ab,U,dd,k0,k1,k2,k3,k5,nid,cl,hb⟩,hE⟩:=h1;have aa:(Value.ref C::tl).contains (.type "BaseException")=true:=by rw[List.contains_cons,hb,Bool.or_true]
 obtain⟨hp,g,dr,tk,os⟩:=J;obtain⟨oc,od,ac,ae⟩:=L;have hc:oc=.ref C:=hc;have Y:ac=.fields #[t,.none,.none,.none,.bool false,.none]:=Y;subst hc;subst Y
 repeat (first|with_reducible refine wpAny_loadPart_at he ?_|with_reducible refine wpAny_loadPart_at cl ?_|(with_reducible refine wpAny_isSubtype_exc cl ?_;rw[aa])|wp_step)
 exact wpAny_raiseNew_none hh hE
end L2
namespace L2
open Spec Calls PyProof.Rows W Builtin Builtin.ObjectAttr
noncomputable def sE:List Value->Bool
 | .ref _::r=>sE r
 |l=>l == [.type "ValueError",.type "Exception",.type "BaseException",.type "object"]
theorem Dg {self:Value}:∀{l:List Value},sE l=true->refuseLoop self "__setattr__" l=pure ()
 |[],h=>by cases h
 | .ref C::r,h=>by
   rw[refuseLoop_ref];exact Dg (l:=r) h
 | .type n::r,h=>by
   have e:Value.type n::r=[.type "ValueError",.type "Exception",.type "BaseException",.type "object"]:=beq_iff_eq.mp h;rw[e];exact F.store_ValueError.passes self
 | .none::r,h=>by cases beq_iff_eq.mp (show(Value.none::r == _)=true from h)
 | .bool b::r,h=>by cases beq_iff_eq.mp (show(Value.bool b::r == _)=true from h)
 | .int i t::r,h=>by cases beq_iff_eq.mp (show(Value.int i t::r == _)=true from h)
 | .str x t::r,h=>by cases beq_iff_eq.mp (show(Value.str x t::r == _)=true from h)
 | .bytes x t::r,h=>by cases beq_iff_eq.mp (show(Value.bytes x t::r == _)=true from h)
 | .float x t::r,h=>by cases beq_iff_eq.mp (show(Value.float x t::r == _)=true from h)
 | .builtin x::r,h=>by cases beq_iff_eq.mp (show(Value.builtin x::r == _)=true from h)
 | .ellipsis::r,h=>by cases beq_iff_eq.mp (show(Value.ellipsis::r == _)=true from h)
 | .notImplemented::r,h=>by cases beq_iff_eq.mp (show(Value.notImplemented::r == _)=true from h)
structure l9 (K:Frag) (C:Addr) (name:Str):Prop where
 sa:findIn K (.ref C) "__setattr__"=some (some (.builtin "object.__setattr__"))
 na:findIn K (.ref C) name=some none
 ob:mroIn K C (.type "object")=some true
 row:((clsIn K C).any λcd=>sE cd.mro && cd.hasDict)=true
section
variable {prog:Program}{w:World}{A:Around}{E:Value->Shared->Prop}{s:Shared}{K:Frag}{x C:Addr}{ox:Obj}{name:Str}{v:Value}
theorem Jx {R:Result->Shared->Prop}{tk:Tok}(X:K.In s.heap)(Z:l9 K C name)(Y:s.heap.get? x=some ox)(hc:ox.cls=.ref C)
 (h:wpAny (model prog w) A.in1 (storeInOwnDict (.ref x) (.ref C) (.str name tk) name v false) (λfin s'=>match fin with| .done f=>R (.ok f) s'| .again c'=>c'.quiet=true/\codeAny (model prog w) A c' R s') (λe s'=>R (.error e) s') s):
 codeAny (model prog w) A (.call (.builtin "object.__setattr__") ⟨[.ref x,.str name tk,v],[]⟩) R s:=by
 have I:=PySem.F.store_object
 have L:Looks (model prog w) s.heap (typeOf (.ref x)) (.ref C):=by
  have z:Looks (model prog w) s.heap (typeOf (.ref x)) ox.cls:=(Looks.ld Y).andThen .now;rw[hc] at z;exact z
 have Lo:Looks (model prog w) s.heap (isInstance (.ref x) (.type "object")) true:=L.andThen (looks_mroIn X Z.ob);obtain⟨cd,U,J⟩:=any_some Z.row;have hr:=(Bool.and_eq_true_iff.mp J).1;have Lm:Looks (model prog w) s.heap (mroOf (.ref C)) cd.mro:=(looks_clsIn X U).andThen .now;refine codeAny_call_builtin I.slot.plain I.entry (@check_slot (model prog w) _ _ s "object.__setattr__" "object" "__setattr__" (.ref x) [.str name tk,v] [] _ I.kind I.split Lo (I.args (.ref x) (.str name tk) v) ?_);rw[osa_eq,refuse_eq];refine Q0 (Q0 (L.here (Q0 (Lm.here ?_))));rw[Dg hr];refine Q0d (Q0 (L.here (Q0 ((looks_findIn X Z.na).here (Q0 ?_)))));exact(show Looks (model prog w) s.heap (storeTaker? none) none from .now).here h
theorem Jy {Q:Unit->Shared->Prop}{vs:Array Value}(X:K.In s.heap)(Z:l9 K C name)(L:s.heap.get? x=some ox)(hc:ox.cls=.ref C)(J:ox.dict=none)(hd:ox.data=.fields vs)
 (h:∀h' ag,h'.Ns1 s.heap.objs.size (λy=>if y=name then some v else none)->h'.get? x=some { ox with dict:=some s.heap.objs.size }->(∀b o,b≠x->s.heap.get? b=some o->h'.get? b=some o)->Q () { s with heap:=h',toks:=ag }):
 wpAny (model prog w) A (setAttr (.ref x) name v) Q E s:=by
 have I:InstAt s.heap x ox C none:=⟨L,hc,by unfold notCls;rw[hd],by rw[J];trivial⟩;refine set_plain X I Z.sa (Jx (s:={ s with toks:=s.toks+1 }) X Z L hc ?_);obtain⟨cd,ah,ae⟩:=any_some Z.row;have af:=(Bool.and_eq_true_iff.mp ae).2;obtain⟨oc,od,ai,U⟩:=ox;have hc:oc=.ref C:=hc;have J:od=none:=J;have hd:ai=.fields vs:=hd;subst hc;subst J;subst hd;have Lc:=looks_clsIn (M:=model prog w) X ah;obtain⟨hp,g,dr,tk,os⟩:=s;have L:hp.get? x=some ⟨.ref C,none,.fields vs,U⟩:=L;have Y:x≠hp.objs.size:=Q0c (Q01 L);unfold storeInOwnDict;refine Q0 (Q0d ?_);refine Q0 ?_;show wpAny _ _ (instanceDict x true) _ _ _;unfold instanceDict;refine Q0 (wpAny_loadPart L (Q0 (Lc.at ?_)));rw[af];rw[if_neg (by decide)];show wpAny _ _ (if(!true || !typeHasDict (.ref C))=true then _ else _) _ _ _;rw[if_neg (by simp[typeHasDict])];show wpAny _ _ (alloc _ >>= _) _ _ _;have aa:(hp.push { cls:=.type "dict",data:=.dict #[] }).get? x=some ⟨.ref C,none,.fields vs,U⟩:=Q0a _ L;refine Q0 (wpAny_alloc' (Q0 (wpAny_update' aa (Q0d ?_))));generalize hH:(hp.push { cls:=.type "dict",data:=.dict #[] }).update x (λo=>{ cls:=o.cls,dict:=some hp.objs.size,data:=o.data,slots:=o.slots })=h1
 have gd:h1.get? hp.objs.size=some { cls:=.type "dict",data:=.dict #[] }:=by
  rw[<-hH];exact(Q2g _ _ _ _ Y.symm).trans (Q2m rfl rfl)
 have gx:h1.get? x=some ⟨.ref C,some hp.objs.size,.fields vs,U⟩:=by
  rw[<-hH];exact Q1f _ aa rfl
 have go:∀b o,b≠x->hp.get? b=some o->h1.get? b=some o:=λb o hb e=>by
  rw[<-hH];exact(Q2g _ _ _ _ hb).trans (Q0a _ e)
 have aj:h1.Ns hp.objs.size (λ_=>none):=⟨_,#[],_,gd,rfl,(λe he=>absurd he (by simp)),λ_=>rfl⟩;show wpAny _ _ (storeInDict hp.objs.size (.str name tk) name v) _ _ _;unfold storeInDict newKeyGuard;refine Q0 (Q0d (Q0 (wpAny_nsSet1 (Heap.Ns1.of_empty aj) λh2 ab ac=>?_)));obtain⟨oD,an,ao,ak,al,am⟩:=ab.count (PySem.Within.cons name v PySem.Within.nil);refine Q0 (wpAny_lookBehind ak (by rw[al];exact pastItsLine_dict (Q0h am (by rw[Q0g,Q1x,sizeLine_eq];omega))) ?_);exact Q0d (h h2 _ ab ((ac.2 x Y).trans gx) λb o hb e=>(ac.2 b (Q0c (Q01 e))).trans (go b o hb e))
end
end L2
namespace L2
open Spec Calls PyProof.Rows W Builtin Builtin.ObjectAttr Builtin.Getset_descriptor
section
variable {prog:Program}{w:World}{A:Around}{E:Value->Shared->Prop}{K:Frag}{h:Heap}{g:Array GenState}{d:Drawn}{t:Nat}{os:OsState}{a C dx:Addr}{o:Obj}{vs:Array Value}{mA:Str->Option Value}{name:Str}{v:Value}
theorem Jz {tk:Tok}{Q:Fin->Shared->Prop}(X:K.In h)(Z:n_ K C)(Y:l9 K C name)(hx:h.get? a=some o)(hc:o.cls=.ref C)(hd:o.data=.fields vs)(U:o.dict=some dx)(hn:h.Ns dx mA)(hv:mA name=some v)(hq:Q (.done (.ret v)) ⟨h,g,d,t,os⟩):
 wpAny (model prog w) A (Builtin.«object.__getattribute__» ⟨[.ref a,.str name tk],[]⟩) Q E ⟨h,g,d,t,os⟩:=by
 obtain⟨cd,I,aa⟩:=any_some Y.row;have J:=(Bool.and_eq_true_iff.mp aa).2;have L1:=looks_findIn (M:=model prog w) X Y.na;have L2:=looks_clsIn (M:=model prog w) X I;obtain⟨oc,od,ab,ac⟩:=o;have hc:oc=.ref C:=hc;have hd:ab=.fields vs:=hd;have U:od=some dx:=U;subst hc;subst hd;subst U
 have hC:∃c' d' L,h.get? C=some ⟨c',d',.cls cd,L⟩:=by
  unfold clsIn at I;split at I
  . rename_i c' d' ae L ho
    cases I;exact⟨c',d',L,X _ _ ho⟩
  . cases I
 obtain⟨c',d',L,hC⟩:=hC;obtain⟨c1,c2,c3,c4,c5,c6,c7,c8,c9,af,ag⟩:=cd;have J:c6=true:=J;subst J
 repeat (any_goals (first|assumption|with_reducible refine wpAny_loadPart_at hx ?_|with_reducible refine wpAny_loadPart_at hC ?_|with_reducible refine L1.at ?_|(with_reducible refine wpAny_nsGet hn ?_;rw[hv])|wp_step))
theorem JA {tk:Tok}{fill I:Bool}{Q:Value->Shared->Prop}(X:K.In h)(Z:n_ K C)(Y:l9 K C name)(J:h.get? a=some o)(hc:o.cls=.ref C)(hd:o.data=.fields vs)(L:o.dict=some dx)(hn:h.Ns dx mA)(hv:mA name=some v)(hh:handedOut v=pure v)(hq:Q v ⟨h,g,d,t,os⟩):
 wpAny (model prog w) A (getAttrBy (.ref a) (.str name tk) fill I) Q E ⟨h,g,d,t,os⟩:=by
 have f3:=F.attr_ValueError.ga.bind (.ref a);have aa:(I && onTheHeap (Value.builtin "BaseException.__getattribute__"))=false:=by cases I <;> rfl
 have U:(Value.builtin "BaseException.__getattribute__" == Value.builtin "object.__getattribute__")=false:=by decide +kernel
 have ab:(onTheHeap (Value.ref C) && Value.builtin "BaseException.__getattribute__" == Value.builtin "object.__getattribute__")=false:=by rw[U];rfl
 have L1:=looks_findIn (M:=model prog w) X Z.ga;have L2:=looks_findIn (M:=model prog w) X Z.gt
 repeat (any_goals (first|assumption|(with_reducible refine wpAny_loadPart_at J ?_;rw[hc])|with_reducible refine L1.at ?_|with_reducible refine L2.at ?_|wp_step))
 refine codeAny_call_builtin F.attr_ValueError.ga.plain F.entry_bexc_ga (Hf X Z J hc (Jz X Z Y J hc hd L hn hv ?_))
 repeat (any_goals (first|assumption|wp_step))
theorem JB {I:Bool}{Q:Value->Shared->Prop}(X:K.In h)(Z:n_ K C)(Y:l9 K C name)(L:h.get? a=some o)(hc:o.cls=.ref C)(U:o.data=.fields vs)(J:o.dict=some dx)(hn:h.Ns dx mA)(hv:mA name=some v)(hh:handedOut v=pure v)(hq:Q v ⟨h,g,d,t+1,os⟩):
 wpAny (model prog w) A (getAttr (.ref a) name I) Q E ⟨h,g,d,t,os⟩:=by
 unfold getAttr
 repeat (any_goals (first|assumption|with_reducible apply JA X Z Y L hc U J hn hv hh|wp_step))
end
end L2
namespace L2
open Spec PyProof.Rows
section
variable {M:Model}{A:Around}{E:Value->Shared->Prop}{s:Shared}
structure j1 (h:Heap) (e T:Addr) (cls:Value) (dd:Option Addr) (fl:Value):Prop where
 ex:∃oe vs,h.get? e=some oe/\oe.cls=cls/\oe.dict=dd/\oe.data=.fields vs/\vs[1]? =some (.ref T)
 tb:∃oT ts,h.get? T=some oT/\oT.data=.fields ts/\ts[3]? =some fl
 ne:T≠e
theorem sF {e T:Addr}{cls fl:Value}{L:Option Addr}{Q:Unit->Shared->Prop}(t:j1 s.heap e T cls L fl)(h:∀h',j1 h' e T cls L .none->(∀b o,b≠T->s.heap.get? b=some o->h'.get? b=some o)->(∃o',h'.get? T=some o')->Q () { s with heap:=h' }):wpAny M A (setFlight (.ref e) none) Q E s:=by
 obtain⟨⟨U,vs,Y,hc,J,hd,h1⟩,⟨oT,ts,hT,I,h3⟩,ne⟩:=t;have em:Obj.mapFields (·.setIfInBounds 3 ((none:Option Addr).elim Value.none λf=>rawInt f)) oT={ oT with data:=.fields (ts.setIfInBounds 3 .none) }:=uI I;have hsz:=(Array.getElem?_eq_some_iff.mp h3).1;unfold setFlight;refine Q0 (wpAny_field Y hd h1 ?_);rw[if_pos (show(Value.ref T != Value.none)=true by simp)];have self:=Q1f (Obj.mapFields (·.setIfInBounds 3 ((none:Option Addr).elim Value.none λf=>rawInt f))) hT (by rw[em];exact Obj.isFreed_of_fields rfl);rw[em] at self
 have oth:∀b o,b≠T->s.heap.get? b=some o->(s.heap.update T (Obj.mapFields (·.setIfInBounds 3 ((none:Option Addr).elim Value.none λf=>rawInt f)))).get? b=some o:=λb o hb ho=>by
  rw[Q16 _ _ (Ne.symm hb)];exact ho
 exact wpAny_setField hT I hsz (h _ ⟨⟨U,vs,oth e U (Ne.symm ne) Y,hc,J,hd,h1⟩,⟨_,_,self,rfl,by simp[hsz]⟩,ne⟩ oth ⟨_,self⟩)
theorem Dh {base:Heap}{env:Env}{outer:List Env}{L e T:Addr}{cls:Value}{dd:Option Addr}{Q:Unit->Shared->Prop}(ac:A.frames=some (env::outer))(hl:s.heap.FunFrames base (env::outer))(hf:env.frame=some L)(t:j1 s.heap e T cls dd .none)
 (h:∀(h':Heap) (T':Addr),s.heap.objs.size<=T'->(∀b o,b ∉ frs (env::outer)->b≠e->b≠T->s.heap.get? b=some o->h'.get? b=some o)->(∀b o,b≠e->b≠T->s.heap.get? b=some o->∃sl,h'.get? b=some { o with slots:=sl })->(∃o,h'.get? T=some o)->j1 h' e T' cls dd (rawInt L)->Q () { s with heap:=h' }):
 wpAny M A (noteFrame (.ref e) env) Q E s:=by
 obtain⟨⟨oe,vs,he,hc,ae,hd,h1⟩,⟨oT,ts,hT,J,h3⟩,ne⟩:=t;have hsz:=(Array.getElem?_eq_some_iff.mp h3).1;have em:Obj.mapFields (·.setIfInBounds 3 Value.none) oT={ oT with data:=.fields (ts.setIfInBounds 3 .none) }:=uI J;unfold noteFrame;simp only[hf];refine Q0 (wpAny_field he hd h1 ?_);rw[if_pos (show(Value.ref T != Value.none)=true by simp)];refine Q0 (wpAny_field hT J h3 ?_);rw[if_neg (show ¬(Value.none == rawInt L)=true by simp[rawInt])];refine Q0 (wpAny_setField hT J hsz ?_);have self:=Q1f (Obj.mapFields (·.setIfInBounds 3 Value.none)) hT (by rw[em];exact Obj.isFreed_of_fields rfl);rw[em] at self
 have oth:∀b o,b≠T->s.heap.get? b=some o->(s.heap.update T (Obj.mapFields (·.setIfInBounds 3 Value.none))).get? b=some o:=λb o hb I=>by
  rw[Q16 _ _ (Ne.symm hb)];exact I
 have nT:∀b o,s.heap.get? b=some o->(∀vs,o.data≠ .fields vs)->b≠T:=λb o I hn z=>by
  rw[z,hT] at I
  cases I;exact hn ts J
 have aa:(s.heap.update T (Obj.mapFields (·.setIfInBounds 3 Value.none))).objs.size=s.heap.objs.size:=Q2f _ _ _;refine Bw (s:={ s with heap:=s.heap.update T (Obj.mapFields (·.setIfInBounds 3 Value.none)) }) ac (hl.of_keeps λb o I hn=>⟨o,oth b o (nT b o I hn) I,rfl⟩) hf (oth e oe (Ne.symm ne) he) hd (Array.getElem?_eq_some_iff.mp h1).1 λh' T' af hP ag ah=>?_;have ab:s.heap.objs.size<=T':=by rw[<-aa];exact af
 refine h h' T' ab (λb o hb U Y I=>hP.1 b o hb U (oth b o Y I)) (λb o U Y I=>hP.2 b o U (oth b o Y I)) ?_ ⟨⟨_,_,ag,hc,ae,rfl,by simp[(Array.getElem?_eq_some_iff.mp h1).1]⟩,ah,?_⟩
 . obtain⟨sl,hs⟩:=hP.2 T _ ne self;exact⟨_,hs⟩
 . have h1:e<s.heap.objs.size:=Q01 he;exact λz=>Q0l e (Q0b h1 (by rw[<-z];exact ab))
end
section
variable {X:Cx}{pins:List (Addr × Obj)}{σ:St}{H:Hp}{s:Shared}
theorem Inv.JC (I:Inv X pins σ H s)(hex:X.ex=[])(J:X.stack=X.env::X.outer)(ab:X.env.frame=some X.env.locals){a T:Addr}{cls:Value}{dd:Option Addr}{Q:Unit->Shared->Prop}{E:Value->Shared->Prop}{M:Model}(t:j1 s.heap a T cls dd .none)
 (ha:X.s₀.heap.get? a=none) (hT:X.s₀.heap.get? T=none) (na:H a=none) (nT:H T=none)
 (q:∀(h':Heap) (T':Addr),j1 h' a T' cls dd .none->X.s₀.heap.get? T'=none->H T'=none->Un (frs X.outer) [] X.H₀ H X.s₀.heap h'->gH X.prog X.w H h'->Q () { s with heap:=h' }):
 wpAny M X.A (leaving X.env (.ref a)) Q E s:=by
 have ac:X.A.frames=some (X.env::X.outer):=by rw[<-J];exact I.ok.frames
 have hl:s.heap.FunFrames X.base (X.env::X.outer):=by rw[<-J];exact I.stack
 unfold leaving;refine Q0 (Dh ac hl ab t λh1 T1 L k1 k2 af t1=>?_);refine sF (s:={ s with heap:=h1 }) t1 λh2 t2 k3 ag=>?_;have ae:H T1=none:=I.hok.fresh L
 have aa:∀b o,s.heap.get? b=some o->b≠T1:=λb o e z=>by
  have h3:=Q01 e;rw[z] at h3;exact Q0l _ (Q0b h3 L)
 obtain⟨u,ok⟩:=I.By hex (h':=h2) ha hT na nT (λb o hb U Y e=>k3 b o (aa b o e) (k1 b o (by rw[<-J];exact hb) U Y e)) (λb o U Y e=>by
  obtain⟨sl,e1⟩:=k2 b o U Y e;exact⟨sl,k3 b _ (aa b o e) e1⟩)
 exact q h2 T1 t2 (I.n9 hex (Heap.Bx L)) ae u ok
end
def j2 (P:Program) (w:World):jf:=λouter H s E e s'=>∃(a T C:Addr) (I:Option Addr) (H':Hp),e=.ref a/\j1 s'.heap a T (.ref C) I .none/\s.heap.get? a=none/\s.heap.get? T=none/\H' a=none/\H' T=none/\s'.os=s.os/\AllBare s'.gens/\Un (frs outer) [] H H' s.heap s'.heap/\gH P w H' s'.heap/\E (.ref C) I H'
theorem JD {P:Program}{w:World}{K:W.Frag}{mg:Str->Option Value}{base:Heap}{N:List Str}{qual:Str}{scope:Scope}{f:Addr}{cd:Value}{A:Around}{outer:List Env}{s₀:Shared}{H₀:Hp}{E E':XK}(hE:∀C d H,E' C d H->E C d H):
 Passes (j2 P w) (fW (j2 P w) P w K mg base N qual scope f cd A outer s₀ H₀ E) E':=λpins σ H s e s' I h=>by
 obtain⟨a,T,C,dd,H',rfl,t,la,lT,na,nT,os,J,un,U,Y⟩:=h;obtain⟨hh,g,d,tk,aa⟩:=s';obtain rfl:aa=s.os:=os;have I':=I.call (h':=hh) (g':=g) (d':=d) (t':=tk) (ch:=[]) un U J (λb z=>absurd z (by simp));show wpAny (model P w) _ (leaving _ _) _ _ _;refine I'.JC rfl rfl rfl t (I.n9 rfl la) (I.n9 rfl lT) na nT λh' T' t' ab ac ae L=>?_;exact⟨a,T',C,dd,H',rfl,t',I.n9 rfl la,ab,na,ac,I'.os,J,ae,L,hE _ _ _ Y⟩
section
variable {M:Model}{A:Around}{E:Value->Shared->Prop}{s:Shared}
theorem JE {base:Heap}{env:Env}{outer:List Env}{L e:Addr}{cls:Value}{dd:Option Addr}{J:Obj}{vs:Array Value}{Q:Unit->Shared->Prop}(aa:A.frames=some (env::outer))(hl:s.heap.FunFrames base (env::outer))(hf:env.frame=some L)
 (Y:s.heap.get? e=some J) (hc:J.cls=cls) (ab:J.dict=dd) (hd:J.data=.fields vs) (h1:vs[1]? =some .none)
 (h:∀(h':Heap) (U:Addr),s.heap.objs.size<=U->(∀b o,b ∉ frs (env::outer)->b≠e->s.heap.get? b=some o->h'.get? b=some o)->(∀b o,b≠e->s.heap.get? b=some o->∃sl,h'.get? b=some { o with slots:=sl })->j1 h' e U cls dd (rawInt L)->Q () { s with heap:=h' }):
 wpAny M A (noteFrame (.ref e) env) Q E s:=by
 have hsz:=(Array.getElem?_eq_some_iff.mp h1).1;unfold noteFrame;simp only[hf];refine Q0 (wpAny_field Y hd h1 ?_);rw[if_neg (by decide)];refine Bw aa hl hf Y hd hsz λh' U I hP ac ae=>?_;refine h h' U I hP.1 hP.2 ⟨⟨_,_,ac,hc,ab,rfl,by simp[hsz]⟩,ae,λz=>?_⟩;have h3:=Q01 Y;rw[<-z] at h3;exact Q0l _ (Q0b h3 I)
end
section
variable {X:Cx}{pins:List (Addr × Obj)}{σ:St}{H:Hp}{s:Shared}
theorem Inv.JF (I:Inv X pins σ H s)(hex:X.ex=[])(J:X.stack=X.env::X.outer)(aa:X.env.frame=some X.env.locals){a:Addr}{oe:Obj}{vs:Array Value}{cls:Value}{dd:Option Addr}{Q:Unit->Shared->Prop}{E:Value->Shared->Prop}{M:Model}
 (he:s.heap.get? a=some oe) (hc:oe.cls=cls) (ab:oe.dict=dd) (hd:oe.data=.fields vs) (h1:vs[1]? =some .none) (ha:X.s₀.heap.get? a=none) (na:H a=none)
 (q:∀(h':Heap) (T':Addr),j1 h' a T' cls dd .none->X.s₀.heap.get? T'=none->H T'=none->Un (frs X.outer) [] X.H₀ H X.s₀.heap h'->gH X.prog X.w H h'->Q () { s with heap:=h' }):
 wpAny M X.A (leaving X.env (.ref a)) Q E s:=by
 have ac:X.A.frames=some (X.env::X.outer):=by rw[<-J];exact I.ok.frames
 have hl:s.heap.FunFrames X.base (X.env::X.outer):=by rw[<-J];exact I.stack
 unfold leaving;refine Q0 (JE ac hl aa he hc ab hd h1 λh1 T1 L k1 k2 t1=>?_);refine sF (s:={ s with heap:=h1 }) t1 λh2 t2 k3 af=>?_;have ae:H T1=none:=I.hok.fresh L
 have Y:∀b o,s.heap.get? b=some o->b≠T1:=λb o e z=>by
  have h3:=Q01 e;rw[z] at h3;exact Q0l _ (Q0b h3 L)
 obtain⟨u,ok⟩:=I.By hex (h':=h2) ha ha na na (λb o hb U _ e=>k3 b o (Y b o e) (k1 b o (by rw[<-J];exact hb) U e)) (λb o U _ e=>by
  obtain⟨sl,e1⟩:=k2 b o U e;exact⟨sl,k3 b _ (Y b o e) e1⟩)
 exact q h2 T1 t2 (I.n9 hex (Heap.Bx L)) ae u ok
end
noncomputable def lI (a C:Addr) (I:Option Addr):HO:=.ext λh=>∃o,h.get? a=some o/\o.cls=.ref C/\o.dict=I/\∃vs,o.data=.fields vs
theorem lI.ok {P:Program}{w:World}{H:Hp}{h:Heap}{a C:Addr}{I:Option Addr}(e:∃o,h.get? a=some o/\o.cls=.ref C/\o.dict=I/\∃vs,o.data=.fields vs):gR P w H h a (lI a C I):=
 ⟨e,let⟨o,h1,_⟩:=e;⟨o,h1⟩,λ_ _ ⟨o,h1,h2⟩ k=>⟨o,k o h1,h2⟩⟩
def sG (X:Cx) (pins:List (Addr × Obj)) (σ:St) (Ek:XK) (e:Value) (s':Shared):Prop:=∃H s,Inv X pins σ H s/\j2 X.prog X.w X.stack H s Ek e s'
def Di (X:Cx) (Ek:XK) (e:Expr) (t:TE):Prop:=
 ∀(pins:List (Addr × Obj)) (s:Shared) (σ:St) (H:Hp) (Q:VK),Inv X pins σ H s->t σ H Q->wpAny (model X.prog X.w) X.A (eval e X.env) (EP X pins σ Q) (sG X pins σ Ek) s
def Dj (X:Cx) (Ek:XK) (st:List Stmt) (t:TS):Prop:=
 ∀(pins:List (Addr × Obj)) (s:Shared) (σ:St) (H:Hp) (D:Ends),Inv X pins σ H s->t D σ H->wpAny (model X.prog X.w) X.A (execs st X.env) (SP X pins D) (sG X pins σ Ek) s
section
variable {X:Cx}{k:Nat}{f:Addr}{fd:FuncData}{ps:List Str}{sp:Sp}{ir:List V}{ds:List Value}{Ek:XK}{x:Str}{p pos:Pos}{e:Expr}{es:List Expr}{t:TA}{te:TE}
theorem JG {i:Nat}{y:Str}{pos':Pos}(J:X.N.Nodup)(hi:X.N[i]? =some y)(L:Loc X.env.scope y)(U:Di X Ek e te)(Y:swapsWith e (some (.Name y pos')) pos.line X.env=pure false:=by rfl)(hf:X.fn y=true\/X.env.scope.names.lookup y=some .local:=by first|exact .inl rfl|exact .inr rfl|assumption):
 Dj X Ek [.Assign [.Name y pos'] e pos] (jT te (gK i)):=by
 intro pins s σ H D I h;refine wpAny_execs_cons (wpAny_Assign_Name (Q0m (U pins s σ H _ I h) (λv s1 zq=>?_) λ_ _ z=>z) Y);obtain⟨z,H1,I1,r1,q1⟩:=zq;exact o4 I1 J hi L r1 (λs2 I2=>wpAny_execs_nil ⟨_,H1,I2,q1⟩) hf
end
theorem JH {X:Cx}{pins:List (Addr × Obj)}{σ:St}{Ek:XK}{e:Value}{s':Shared}{Q:Unit->Shared->Prop}{E:Value->Shared->Prop}(ac:X.stack=X.env::X.outer)(ah:X.env.frame=some X.env.locals)(h:sG X pins σ Ek e s')
 (q:∀(a C T:Addr) (U:Option Addr) (H':Hp) (h2:Heap),e=.ref a->H' a=none->Ek (.ref C) U H'->j1 h2 a T (.ref C) U .none->Inv X pins σ (upd H' a (lI a C U)) { s' with heap:=h2 }->
   (∀L:Heap,j1 L a T (.ref C) U .none->(∀b o,b≠T->h2.get? b=some o->L.get? b=some o)->Inv X pins σ (upd H' a (lI a C U)) { s' with heap:=L })->Q () { s' with heap:=h2 }):
 wpAny (model X.prog X.w) X.A (noteFrame e X.env) (λ_ s2=>wpAny (model X.prog X.w) X.A (setFlight e none) Q E s2) E s':=by
 obtain⟨H,s,I,a,T,C,U,H',rfl,t,la,lT,na,nT,os,ab,un,ae,hE⟩:=h;have I':=I.call' (s':=s') (ch:=[]) os un ae ab (λb z=>absurd z (by simp));have ai:X.A.frames=some (X.env::X.outer):=by rw[<-ac];exact I.ok.frames
 have hl:s'.heap.FunFrames X.base (X.env::X.outer):=by rw[<-ac];exact I'.stack
 refine Dh ai hl ah t λh1 T1 aj k1 k2 an t1=>?_;refine sF (s:={ s' with heap:=h1 }) t1 λh2 t2 k3 ao=>?_
 have aa:∀b o,s'.heap.get? b=some o->b≠T1:=λb o e z=>by
  have L:=Q01 e;rw[z] at L;exact Q0l _ (Q0b L aj)
 have key:∀L:Heap,j1 L a T1 (.ref C) U .none->(∀b o,b≠T1->h2.get? b=some o->L.get? b=some o)->Inv X pins σ (upd H' a (lI a C U)) { s' with heap:=L }:=λL t3 k4=>by
  have m1:∀b o,b ∉ frs X.stack->b≠a->b≠T->s'.heap.get? b=some o->L.get? b=some o:=λb o Y n1 n2 e=>
   k4 b o (aa b o e) (k3 b o (aa b o e) (k1 b o (by rw[<-ac];exact Y) n1 n2 e))
  have m2:∀b o,b≠a->b≠T->s'.heap.get? b=some o->∃sl,L.get? b=some { o with slots:=sl }:=λb o n1 n2 e=>by
   obtain⟨sl,e1⟩:=k2 b o n1 n2 e;exact⟨sl,k4 b _ (aa b o e) (k3 b _ (aa b o e) e1)⟩
  have J:∀b o,s.heap.get? b=some o->b≠a/\b≠T:=λb o e=>⟨(λz=>by rw[z,la] at e;cases e),λz=>by rw[z,lT] at e;cases e⟩;refine I.call' (s':={ s' with heap:=L }) (ch:=[]) os ⟨λb o e n Y _=>?_,λb o e n Y hx=>?_,λb o e n hx=>?_,λb o e hx=>?_,λb xs e=>?_,λb o u e=>?_,λb ps e=>?_⟩ (λb o e=>?_) ab (λb z=>absurd z (by simp))
  . exact m1 b o Y (J b o e).1 (J b o e).2 (un.keep b o e n Y (by simp))
  . obtain⟨sl,e1⟩:=un.slot b o e n Y hx;obtain⟨af,e2⟩:=m2 b _ (J b o e).1 (J b o e).2 e1;exact⟨af,e2⟩
  . rw[eU (J b o e).1];exact un.free b o e n hx
  . obtain⟨o',e1⟩:=un.there b o e hx;obtain⟨af,e2⟩:=m2 b _ (J b o e).1 (J b o e).2 e1;exact⟨_,e2⟩
  . have:=un.tups b xs e;rw[eU (ff this na)];exact this
  . have:=un.jr b o u e;rw[eU (ff this na)];exact this
  . obtain⟨ag,this⟩:=un.js b ps e;exact⟨ag,by rw[eU (ff this na)];exact this⟩
  . by_cases Y:b=a
    . subst Y;rw[eW] at e
      cases e;obtain⟨oe,vs,he,hc,ak,al,_⟩:=t3.ex;exact lI.ok ⟨oe,he,hc,ak,vs,al⟩
    . rw[eU Y] at e;refine(ae b o e).stay (λc u hc r=>?_) (λc r=>by rw[eU (ff r na)];exact r) λc xs r=>by rw[eU (ff r na)];exact r
      have am:∃v,H' c=some v:=by
       rcases hc with z|z
       . exact⟨o,by rw[z];exact e⟩
       . exact⟨_,z⟩
      obtain⟨v,hv⟩:=am;refine m1 c u (λz=>?_) (ff hv na) (ff hv nT) r;rw[I'.oZ c z] at hv;cases hv
 exact q a C T1 U H' h2 rfl na hE t2 (key h2 t2 λ_ _ _ e=>e) key
def JI (Ek:XK) (i:Nat) (tb ts:TS):TS:=λD σ H=>tb D σ H/\∀(a C:Addr) (I:Option Addr) (H':Hp),H' a=none->Ek (.ref C) I H'->ts (D.un i) (σ.set i (some (.ref a))) (upd H' a (lI a C I))
theorem JJ {X:Cx}{body:List Stmt}{x n:Str}{Dc:Addr}{Ek:XK}{i:Nat}{U:Stmt}{L:List Stmt}{np ab pos:Pos}{tb ts:TS}(ac:X.stack=X.env::X.outer)(ae:X.env.frame=some X.env.locals)
 (hb:Dj X Ek body tb) (hg:Gl X x) (hm:X.mg x=some (.ref Dc)) (h1:W.typeIn X.K (.ref Dc)=some (.type "type")) (h2:(W.clsIn X.K Dc).isSome=true) (h3:W.subIn X.K (.ref Dc) (.type "BaseException")=some true)
 (h4:∀C dd H,Ek (.ref C) dd H->W.subIn X.K (.ref C) (.ref Dc)=some true) (hN:X.N.Nodup) (hi:X.N[i]? =some n) (J:X.env.kindOf n=some .local) (hs:∀a,iN (X.marked a) (U::L) ts) (hd:(x == ("__debug__":Str))=false:=by decide):
 PS X (.Try body [.ExceptHandler (some (.Name x np)) (some n) (U::L) ab] [] [] pos) (JI Ek i tb ts):=by
 intro pins s σ H D I h;obtain⟨hq,hk⟩:=h;refine wpAny_Try_except (Q0m (hb pins s σ H D I hq) (λf s1 q=>?_) λe s1 z=>?_)
 . cases f with
   |next=>exact wpAny_execs_nil q
   |ret v=>exact q
   |brk=>exact q
   |cont=>exact q
 . refine JH ac ae z λa C T dd H' ag e1 na hE t2 I2 key=>?_;subst e1;have ok:=I2.ok;refine wpAny_handleBy_cons (codeAny_handlers_test ?_) (by intro q;cases q);refine qz (X:=X.marked a) (I2.marked a) hg hm ?_ hd;obtain⟨oe,vs,he,hc,_⟩:=id t2.ex;refine He I2.gT h1 h2 h3 (h4 C dd H' hE) he hc ?_;simp only[if_true];refine codeAny_handlers_suite_as ?_;refine sF t2 λaf t3 k3 _=>?_;have I3:=key af t3 k3;refine o4 I3 hN hi (.inl J) (show RelV (.ref a) (.ref a) from rfl) (λs4 I4=>?_) (.inr J);refine Q0m (hs a pins s4 _ _ (D.un i) (I4.marked a) (hk a C dd H' na hE)) (λf s5 q=>?_) λ_ _ z=>False.elim z;show wpAny _ _ _ _ _ _
   cases f with
   |next=>
    obtain⟨aa,H5,Y,q⟩:=q;exact(Y.unmarked ok).unbind hN hi J λs6 I6=>⟨_,_,I6,q⟩
   |ret v=>
    obtain⟨y,aa,H5,Y,r,q⟩:=q;exact(Y.unmarked ok).unbind hN hi J λs6 I6=>⟨y,_,_,I6,r,q⟩
   |brk=>
    obtain⟨aa,H5,Y,q⟩:=q;exact(Y.unmarked ok).unbind hN hi J λs6 I6=>⟨_,_,I6,q⟩
   |cont=>
    obtain⟨aa,H5,Y,q⟩:=q;exact(Y.unmarked ok).unbind hN hi J λs6 I6=>⟨_,_,I6,q⟩
noncomputable def l_ (a C:Addr):HO:=.ext λh=>∃o t,h.get? a=some o/\o.cls=.ref C/\o.dict=none/\o.data=.fields #[t,.none,.none,.none,.bool false,.none]
noncomputable def MadeX (a C dx:Addr):HO:=.ext λh=>∃o t,h.get? a=some o/\o.cls=.ref C/\o.dict=some dx/\o.data=.fields #[t,.none,.none,.none,.bool false,.none]
theorem l_.ok {P:Program}{w:World}{H:Hp}{h:Heap}{a C:Addr}(e:∃o t,h.get? a=some o/\o.cls=.ref C/\o.dict=none/\o.data=.fields #[t,.none,.none,.none,.bool false,.none]):gR P w H h a (l_ a C):=
 ⟨e,let⟨o,t,h1,_⟩:=e;⟨o,h1⟩,λ_ _ ⟨o,t,h1,h2⟩ k=>⟨o,t,k o h1,h2⟩⟩
theorem MadeX.ok {P:Program}{w:World}{H:Hp}{h:Heap}{a C dx:Addr}(e:∃o t,h.get? a=some o/\o.cls=.ref C/\o.dict=some dx/\o.data=.fields #[t,.none,.none,.none,.bool false,.none]):gR P w H h a (MadeX a C dx):=
 ⟨e,let⟨o,t,h1,_⟩:=e;⟨o,h1⟩,λ_ _ ⟨o,t,h1,h2⟩ k=>⟨o,t,k o h1,h2⟩⟩
noncomputable def rem (H:Hp) (a:Addr):Hp:=λb=>if b=a then none else H b
theorem vA {H:Hp}{a:Addr}:rem H a a=none:=if_pos rfl
theorem jO {H:Hp}{a b:Addr}(h:b≠a):rem H a b=H b:=if_neg h
section
variable {X:Cx}{pins:List (Addr × Obj)}{σ:St}{H:Hp}{s:Shared}
def JK (K:W.Frag) (ta tv:TE) (f:Str):TS:=λD σ H=>tv σ H λy H1=>ta σ H1 λx H2=>∃a C,x=.ref a/\H2 a=some (l_ a C)/\l9 K C f/\
 ∀dx,H2 dx=none->dx≠a->D.nx σ (upd (upd H2 dx (.xd [(f,y)])) a (MadeX a C dx))
theorem JL {o value:Expr}{ta tv:TE}{f:Str}{pos pos':Pos}(ha:PE X o ta)(hv:PE X value tv)(hs:swapsWith value (some (.Attribute o f pos')) pos.line X.env=pure false):PS X (.Assign [.Attribute o f pos'] value pos) (JK X.K ta tv f):=by
 intro pins s σ H D I h;refine plainObj_wpAny_Assign_Attribute (fk (hv pins s σ H _ I h) λu s1 ⟨y,H1,I1,ry,q⟩=>fk (ha pins s1 σ H1 _ I1 q) λov s2 zq=>?_) hs;obtain⟨x,H2,Y,rx,a,C,ex,L,Z,q2⟩:=zq;subst ex;obtain rfl:ov=Value.ref a:=rx;obtain⟨oe,t,he,hc,ab,aa⟩:=(Y.hok a _ L).1;refine Jy Y.gT Z he hc ab aa λh' ac hn hx hk=>?_;have J:H2 s2.heap.objs.size=none:=Y.hok.fresh (Q00 _);have ae:s2.heap.objs.size≠a:=(Q0c (Q01 he)).symm
 have ag:∀b u,H2 b=some u->(∀C',u≠l_ a C')->b≠a:=λb u e hu z=>by
  subst z;rw[L] at e;exact hu C (Option.some.inj e).symm
 refine⟨σ,_,Y.call' (s':={ s2 with heap:=h',toks:=ac }) (ch:=[]) rfl ⟨λb U e n hb _=>?_,λb U e n hb _=>?_,λb U e n _=>?_,λb U e _=>?_,λb xs e=>?_,λb U u e=>?_,λb ps e=>?_⟩ (λb u e=>?_) Y.bare (λb z=>absurd z (by simp)),q2 s2.heap.objs.size J ae⟩
 . exact hk b U (ff L n).symm e
 . exact⟨U.slots,hk b U (ff L n).symm e⟩
 . rw[eU (ff L n).symm,eU (Q0c (Q01 e))];exact n
 . by_cases hb:b=a
   . subst hb;exact⟨_,hx⟩
   . exact⟨U,hk b U hb e⟩
 . have h1:b≠a:=λz=>by rw[z,L] at e;cases e
   rw[eU h1,eU (ff e J)];exact e
 . have h1:b≠a:=λz=>by rw[z,L] at e;cases e
   rw[eU h1,eU (ff e J)];exact e
 . have h1:b≠a:=λz=>by rw[z,L] at e;cases e
   exact⟨#[],by rw[eU h1,eU (ff e J),Q25];exact e⟩
 . by_cases h1:b=a
   . subst h1;rw[eW] at e
     cases e;exact MadeX.ok ⟨_,t,hx,hc,rfl,aa⟩
   . rw[eU h1] at e;by_cases h2:b=s2.heap.objs.size
     . subst h2;rw[eW] at e
       cases e;refine⟨_,hn,λg=>?_⟩;by_cases hg:g=f
       . subst hg;rw[if_pos rfl];rw[Q17,beq_self_eq_true];exact ry
       . rw[if_neg hg];rw[Q17,beq_false_of_ne hg];trivial
     . rw[eU h2] at e;refine(Y.hok b u e).stay (λc v af r=>hk c v ?_ r) (λc r=>?_) λc xs r=>?_
       . rintro rfl;rcases af with z|z
         . exact h1 z.symm
         . rw[L] at z;cases z
       . have n1:c≠a:=λz=>by rw[z,L] at r;cases r
         rw[eU n1,eU (ff r J)];exact r
       . have n1:c≠a:=λz=>by rw[z,L] at r;cases r
         rw[eU n1,eU (ff r J)];exact r
theorem Inv.JM (I:Inv X pins σ H s){h':Heap}{e C:Addr}{us:List Value}(Y:Heap.MadeExcOf s.heap h' e (.ref C) us):H e=none/\Inv X pins σ (upd H e (l_ e C)) { s with heap:=h' }:=by
 obtain⟨t,he,_,_⟩:=Y.there;have U:s.heap.get? e=none:=Y.new
 have na:H e=none:=by
  cases q:H e with
  |none=>rfl
  |some o=>
   obtain⟨o',e'⟩:=(I.hok e o q).ex;rw[U] at e';cases e'
 refine⟨na,I.call' (s':={ s with heap:=h' }) (ch:=[]) rfl ⟨λb L J n hb _=>Y.keeps b L J,λb L J n hb _=>⟨L.slots,Y.keeps b L J⟩,λb L J n _=>?_,λb L J _=>⟨L,Y.keeps b L J⟩,λb xs J=>?_,λb L u J=>?_,λb ps J=>?_⟩ (λb u J=>?_) I.bare (λb z=>absurd z (by simp))⟩
 . rw[eU (λz=>by rw[z,U] at J;cases J)];exact n
 . rw[eU (ff J na)];exact J
 . rw[eU (ff J na)];exact J
 . exact⟨#[],by rw[eU (ff J na),Q25];exact J⟩
 . by_cases hb:b=e
   . subst hb;rw[eW] at J
     cases J;exact l_.ok ⟨_,_,he,rfl,rfl,rfl⟩
   . rw[eU hb] at J;refine(I.hok b u J).stay (λc v _ r=>Y.keeps c v r) (λc r=>?_) λc xs r=>?_
     . rw[eU (ff r na)];exact r
     . rw[eU (ff r na)];exact r
def Dk (X:Cx) (R:Addr->Addr->Hp->Prop):Prop:=∀(pins:List (Addr × Obj)) (σ:St) (H:Hp) (s:Shared) (a C dx:Addr),Inv X pins σ H s->X.s₀.heap.get? a=none->H a=some (MadeX a C dx)->R C dx (rem H a)->X.xe (.ref a) s
def JN (C:Addr) (sp:Sp) (R:Addr->Addr->Hp->Prop) (t:TA):TS:=λ_ σ H=>t σ H λvs H1=>vs.length<=sizeLine/\∀a,H1 a=none->sp (.ref a::vs) (upd H1 a (l_ a C)) (λv H2=>v=.non/\∃dx,H2 a=some (MadeX a C dx)/\R C dx (rem H2 a)) E0
theorem Dl {x:Str}{C f:Addr}{fd:FuncData}{ps:List Str}{sp:Sp}{k:Nat}{B nid sA:String}{jl:List Value}{e:Expr}{es:List Expr}{p cpos pos:Pos}{t:TA}{R:Addr->Addr->Hp->Prop}(hex:X.ex=[])(Z:l8 X.base C f jl nid)(FB:ExcBaseFacts B nid sA jl)(ah:W.keepIn X.K (.ref C)=true)
 (F:eZ X.prog X.w X.K X.mg X.base e_ k f fd ps sp) (hr:gy (k+1) X.A) (ai:X.calm=true) (hg:Gl X x) (hm:X.mg x=some (.ref C)) (hb:Binds X.K fd ps []) (hx:Dk X R)
 (ha:PA X (e::es) t) (aj:(x == ("__debug__":Str))=false:=by decide) (he:starEach (e::es) X.env=(false,eval e X.env)::starEach es X.env:=by rfl) (ak:(backTo cpos (starEach es X.env)).any (·.1)=false:=by rfl):
 PS X (.Raise (some (.Call (.Name x p) (e::es) [] cpos)) none pos) (JN C sp R t):=by
 intro pins s σ H D I h;rw[arm_exec_Raise]
 have key:wpAny (model X.prog X.w) X.A (eval (.Call (.Name x p) (e::es) [] cpos) X.env) (λv s1=>∃(e C:Addr) (oe:Obj) (t:Value) (r:Array Value),v=.ref e/\s1.heap.get? e=some oe/\oe.cls=.ref C/\oe.data=.fields #[t,.none,.none,.none,.bool false,.none]/\
  (∃tl N nm q bs L sn sub ab Y dd k0 k1 k2 k3 k5 nid,s1.heap.get? C=some (excClassObj nm q C N bs tl L sn sub ab Y dd k0 k1 k2 k3 k5 nid)/\tl.contains (.type "BaseException")=true)/\X.xe (.ref e) s1) X.xe s:=by
  refine wpAny_Call_Name_kw (qz I hg hm ?_ aj);refine W.callWith_K (h₀:=X.base) I.ok.mod.mx ah (fk (ha cpos pins s σ H _ I h) λus s1 ⟨vs,H1,I1,r,hl,q⟩=>⟨I1.gT,?_⟩) he ak;obtain⟨hp,g,d,tk,os⟩:=s1;refine Jv FB (Z.keeps I1.bk) (λh' U aa=>?_) (by show us.length<=sizeLine;rw[<-r.length];exact hl);have l0:X.s₀.heap.get? U=none:=I1.n9 hex aa.new;obtain⟨na,I2⟩:=I1.JM aa;have hq:=q U na;have r2:Vals (V.ref U::vs) (Value.ref U::us):=.cons rfl r
  have af:(Value.ref U::us++[]).length=ps.length:=by
   rw[Q10,<-r2.length];exact F.len _ _ _ _ hq
  have ac:=hb _ (Value.ref U::us) I2.gT af;rw[Q10] at ac;refine wpAny_call (codeAny_mono (F.run _ X.stack _ _ ⟨Value.ref U::us,[]⟩ (Value.ref U::us) _ _ E0 (hr.make C us []) (I2.env0.make C us []) ac r2 hq) λr' s' J=>?_)
  cases r' with
  |error e=>exact False.elim J
  |ok fl=>
   cases fl with
   |ret u=>
    obtain⟨v,H',I3,rv,ev,dx,ae,hR⟩:=I2.after J;subst ev;obtain⟨oe,t',al,am,an,ag⟩:=(I3.hok _ _ ae).1;obtain⟨tl,N,nm,q,bs,L,sn,sub,ab,Y,dd,k0,k1,k2,k3,k5,mN,oI,z1,z2,z3,z4,z5,z6⟩:=Z.keeps I3.bk;exact⟨rv,⟨U,C,oe,t',#[],rfl,al,am,ag,⟨tl,N,nm,q,bs,L,sn,sub,ab,Y,dd,k0,k1,k2,k3,k5,nid,z1,z4.hasType FB.hasBase⟩,hx pins σ H' s' U C dx I3 l0 ae hR⟩⟩
   |next=>exact False.elim J
   |brk=>exact False.elim J
   |cont=>exact False.elim J
 exact Q0 (wpAny_standAt (Jw (I.ok.hd ai) (Q0 (Q0m key (λv s1 q=>Q0 (wpAny_standAt (Q0d q))) λ_ _ z=>z))))
theorem Inv.JO (I:Inv X pins σ H s)(hex:X.ex=[]){a:Addr}{φ:Heap->Prop}(U:X.s₀.heap.get? a=none)(J:H a=some (.ext φ)):Un (frs X.outer) [] X.H₀ (rem H a) X.s₀.heap s.heap/\gH X.prog X.w (rem H a) s.heap:=by
 have B:=I.base;rw[hex] at B;refine⟨⟨B.keep,B.slot,λb o e n Y=>?_,B.there,λb xs e=>?_,λb o u e=>?_,λb ps e=>?_⟩,λb u e=>?_⟩
 . rw[jO (λz=>by rw[z,U] at e;cases e)];exact B.free b o e n Y
 . have:=B.tups b xs e;rw[jO (λz=>by rw[z,J] at this;cases this)];exact this
 . have:=B.jr b o u e;rw[jO (λz=>by rw[z,J] at this;cases this)];exact this
 . obtain⟨L,this⟩:=B.js b ps e;exact⟨L,by rw[jO (λz=>by rw[z,J] at this;cases this)];exact this⟩
 . have nb:b≠a:=λz=>by rw[z,vA] at e;cases e
   rw[jO nb] at e;refine(I.hok b u e).stay (λc v _ r=>r) (λc r=>?_) λc xs r=>?_
   . rw[jO (λz=>by rw[z,J] at r;cases r)];exact r
   . rw[jO (λz=>by rw[z,J] at r;cases r)];exact r
end
theorem vB {H:Hp}{a b:Addr}(h:H b=none):rem H a b=none:=by
 unfold rem;split
 . rfl
 . exact h
theorem Inv.rem {X:Cx}{pins:List (Addr × Obj)}{σ:St}{H:Hp}{s:Shared}(I:Inv X pins σ H s)(hex:X.ex=[]){a:Addr}{φ:Heap->Prop}(L:X.s₀.heap.get? a=none)(U:H a=some (.ext φ)):Inv X pins σ (L2.rem H a) s:=by
 obtain⟨un,J⟩:=I.JO hex L U;refine⟨I.ok,I.os,I.bare,by rw[hex];exact un,I.loc,I.cell,vB I.free,λx c e=>vB (I.i7 x c e),λp hp=>?_,J,I.len⟩;obtain⟨h1,h2,Y⟩:=I.pin p hp;exact⟨h1,vB h2,Y⟩
theorem Dq {P:Program}{w:World}{K:W.Frag}{mg:Str->Option Value}{base:Heap}{N:List Str}{qual:Str}{scope:Scope}{f:Addr}{cd:Value}{A:Around}{outer:List Env}{s₀:Shared}{H₀:Hp}{E:XK}:
 Dk (fW (j2 P w) P w K mg base N qual scope f cd A outer s₀ H₀ E) (λC dx H=>E (.ref C) (some dx) H):=λpins σ H s a C dx I U J hE=>by
 obtain⟨oe,t,he,hc,aa,ab⟩:=(I.hok a _ J).1;have Y:=I.rem rfl U J;show wpAny (model P w) _ (leaving _ _) _ _ _;refine Y.JF rfl rfl rfl he hc aa ab rfl U vA λh2 T' t' ac ae af L=>?_;exact⟨a,T',C,some dx,Zr rfl ⟨t',U,ac,vA,ae,Y.os,Y.bare,af,L,hE⟩⟩
section
variable {X:Cx}
def Dt (K:W.Frag) (ta:TE) (f:Str):TE:=λσ H Q=>ta σ H λx H1=>∃a C dx fs v,x=.ref a/\H1 a=some (lI a C (some dx))/\H1 dx=some (.xd fs)/\n_ K C/\l9 K C f/\fs.lookup f=some v/\Q v H1
theorem JP {e:Expr}{ta:TE}{f:Str}{pos:Pos}(he:PE X e ta)(hb:attributeBase e f X.env (eval e X.env)=eval e X.env):PE X (.Attribute e f pos) (Dt X.K ta f):=by
 intro pins s σ H Q I h;refine Al hb (fk (he pins s σ H _ I h) λu s1 zq=>?_);obtain⟨x,H1,J,rx,a,C,dx,fs,v,ex,ea,ed,Z,Y,l,q⟩:=zq;subst ex;obtain rfl:u=Value.ref a:=rx;obtain⟨o,ho,hc,L,vs,U⟩:=(J.hok a _ ea).1;obtain⟨mA,hn,hr⟩:=J.hok dx _ ed;obtain⟨u',hu,ru⟩:=iM.some_of (v:=v) (o:=mA f) (by rw[<-l];exact hr f);obtain⟨hp,g,d,tk,os⟩:=s1;exact JB J.gT Z Y ho hc U L hn.ns hu (W.handedOut_of (Ak ru)) ⟨v,H1,J.tok _,ru,q⟩
end
section
variable {X:Cx}{k:Nat}{f C:Addr}{fd:FuncData}{ps:List Str}{sp:Sp}{Ek:XK}{m:Str}{p pos apos:Pos}{e o:Expr}{es:List Expr}{t:TA}{te ta:TE}
theorem JQ {pins:List (Addr × Obj)}{σ:St}{H:Hp}{s:Shared}{Q:VK}{us:List Value}{vs:List V}(F:eZ X.prog X.w X.K X.mg X.base (j2 X.prog X.w) k f fd ps sp)(U:gy k X.A)(Y:Binds X.K fd ps [])
 (I:Inv X pins σ H s) (r:Vals vs us) (h:sp vs H Q Ek):wpAny (model X.prog X.w) X.A (call (.ref f) us) (EP X pins σ Q) (sG X pins σ Ek) s:=by
 have hl:(us++[]).length=ps.length:=by rw[Q10,<-r.length];exact F.len _ _ _ _ h
 have L:=Y s us I.gT hl;rw[Q10] at L;refine wpAny_call (codeAny_mono (F.run X.A X.stack s H ⟨us,[]⟩ us vs Q Ek U I.env0 L r h) λr' s' J=>?_)
 cases r' with
 |error e=>exact⟨H,s,I,J⟩
 |ok fl=>
  cases fl with
  |ret u=>exact I.after J
  |next=>exact False.elim J
  |brk=>exact False.elim J
  |cont=>exact False.elim J
theorem JR {pl:Sem Bool}(he:PE X.fX o ta)(c:Cls X.K C)(Y:Meth X.K C m f)(F:eZ X.prog X.w X.K X.mg X.base (j2 X.prog X.w) k f fd ps sp)(hr:gy k X.A)(hb:Binds X.K fd ps [])(ha:PA X.fX (e::es) t)
 (L:starEach (e::es) X.env=(false,eval e X.env)::starEach es X.env:=by rfl) (U:(backTo pos (starEach es X.env)).any (·.1)=false:=by rfl)
 (ht:eval (.Call (.Attribute o m apos) (e::es) [] pos) X.env=(do
   let ov <-eval o X.env
   standAt apos.atName
   let(f,first) <-holding [ov] (getMethod ov m pl)
   callWith pos f first (backTo pos (starEach (e::es) X.env)) (backToKw pos (keywordEach [] X.env))):=by rfl):
 Di X Ek (.Call (.Attribute o m apos) (e::es) [] pos) (t8 C m sp [] Ek ta t):=by
 intro pins s σ H Q I h;refine W.methodCall_KW (pl:=pl) (Q0m (he pins s σ H _ (I.wish _) h) (λu s1 zq=>?_) λ_ _ z=>False.elim z) ht;obtain⟨x,H1,J,rx,a,dx,fs,ex,ea,l,q⟩:=zq;subst ex;obtain rfl:u=Value.ref a:=rx;have J:=J.kb;refine tZ J ea c Y l ?_;refine W.callWith_K (first:=[.ref a]) (h₀:=X.base) I.ok.mod.mx Y.kp (Q0m (ha pos pins s1 σ H1 _ (J.wish _) q) (λus s2 ⟨vs,H2,I2,r,q2⟩=>⟨I2.kb.gT,?_⟩) λ_ _ z=>False.elim z) L U;exact JQ (us:=.ref a::us) (vs:=.ref a::(vs++[])) F hr hb I2.kb (.cons rfl (by rw[Q10];exact r)) q2
end
end L2
namespace Pb
open L2 PyProof.Rows
theorem str1 {f g:Str}{rest:List V}{K:W.Frag}{H:Hp}:uH K H 0 (.str f::rest) [.str g] (λ_=>decide (f=g)):=λj x y h1 h2=>by
 cases j with
 |zero=>
  cases h1
  cases h2;exact il.str f g
 |succ j=>cases h2
theorem JS (f g:Str)(rest:List V):((List.range (min (V.str f::rest).length [V.str g].length)).all (λ_=>decide (f=g)) && (V.str f::rest).length == [V.str g].length)=(decide (f=g) && decide (rest=[])):=by
 have I:min (V.str f::rest).length [V.str g].length=1:=by
  rw[Q0g];show min (rest.length+1) 1=1;omega
 rw[I];congr 1
 . show(decide (f=g) && true)=_;rw[Bool.and_true]
 . cases rest with
   |nil=>rfl
   |cons a r=>rfl
noncomputable def Kd.nm:Kd->Str
 | .num=>"number"
 | .gp=>"word"
 | .fT _=>"record"
 | .rows _ _ _=>"rows"
 | .tree _=>"tree"
 | .gZ _=>"either"
noncomputable def oH:Kd->Bool
 | .num=>true
 | .gp=>true
 |_=>false
theorem KA.head {H:Hp}{u:V}{k:Kd}(h:KA H u k):∃a rest,u=.ref a/\H a=some (.tup (.str k.nm::rest))/\(rest=[]↔oH k=true):=by
 cases k <;> unfold KA at h
 . obtain⟨a,e,q⟩:=h;exact⟨a,_,e,q,by constructor <;> intro _ <;> rfl⟩
 . obtain⟨a,e,q⟩:=h;exact⟨a,_,e,q,by constructor <;> intro _ <;> rfl⟩
 . obtain⟨a,b,vs,e,q,_⟩:=h;exact⟨a,_,e,q,by constructor <;> intro z <;> cases z⟩
 . obtain⟨a,b,vs,e,q,_⟩:=h;exact⟨a,_,e,q,by constructor <;> intro z <;> cases z⟩
 . obtain⟨a,b,e,q,_⟩:=h;exact⟨a,_,e,q,by constructor <;> intro z <;> cases z⟩
 . obtain⟨a,b,vs,e,q,_⟩:=h;exact⟨a,_,e,q,by constructor <;> intro z <;> cases z⟩
theorem vC {K:W.Frag}{H:Hp}{u:V}{k:Kd}{t:Addr}{g:Str}{Q:VK}(J:KA H u k)(ht:H t=some (.tup [.str g]))(q:Q (.bl (decide (k.nm=g) && oH k)) H):q_ K 0 u (.ref t) H Q:=by
 obtain⟨a,rest,rfl,L,I⟩:=J.head;refine .inr ⟨a,t,_,_,Zr rfl ⟨rfl,str1,.inr ⟨eX.of L,eX.of ht,?_⟩⟩⟩;rw[JS]
 have:decide (rest=[])=oH k:=by
  cases e:oH k with
  |true=>exact decide_eq_true (I.mpr e)
  |false=>exact decide_eq_false (λz=>by rw[I.mp z] at e;cases e)
 rw[this];exact q
def Du:Sp:=λvs H Q _=>vs=[.bl true]/\Q .non H
variable {P:Program}{w:World}{K:W.Frag}{mg:Str->Option Value}{base:Heap}
theorem JT:f_ ["stands"] ["stands"] (fo (top 20)):=gz
theorem JU (T:Tb mg)(I:Dn K mg "ask_stands" ["stands"] (top 20) J L):eZ P w K mg base e_ (1) J L ["stands"] (Du):=by
 refine I.F.ok JT λvs H Q E h=>?_;obtain⟨rfl,q⟩:=h;refine⟨rfl,λU A outer s Y hr hu=>?_⟩;refine⟨_,(fc (fA (iB (iy (pv 0))) (fc zY) fy)),?_⟩
 ac_rfl
 exact(Zr rfl ⟨true,rfl,fL q⟩)
end Pb
namespace L2
open Spec PyProof.Rows
section
variable {X:Cx}
theorem vD (hc:X.calm=true):jG X (.builtin "sum") (λxs H Q=>∃(a:Addr) (ns:List Int),xs=[.ref a]/\d_ X.K H a (ns.map V.int)/\Q (.int ns.sum) H):=by
 intro pins s σ H xs us Q I r h;obtain⟨a,ns,rfl,J,q⟩:=h;obtain⟨u,rfl,L⟩:=vals1 r
 cases L;obtain⟨aa,U,pl,hz⟩:=I.list J;have hi:=intsAre_of U;obtain⟨xs,e⟩:=hi.allInts.items
 have Y:ns=xs.toList.map (·.1):=by
  rw[<-nums_intItems,<-e];exact hi.numsOf.symm
 have hl:=pl.isList;rw[e] at hl;refine sum_intListG (I.ok.hd hc) hl λh' tk t' hk=>?_;rw[preSum_eq,Q0w (by simp),<-Y];exact⟨.int ns.sum,H,I.kept (h':=h') (t':=tk) hk,⟨_,rfl⟩,q⟩
end
end L2
namespace Pb
open L2 PyProof.Rows
noncomputable def JV (st:Stmt):Pos:=match h8 st with
 | .Assign _ (.Call _ [.Call _ _ [⟨_,.Lambda _ _ _ I,_⟩] _] _ _) _::_=>I
 |_=>⟨0,0,0,0⟩
noncomputable abbrev i2:Pos:=JV (top 7)
noncomputable abbrev i3:Str:=("sorted_fields":Str)++".<locals>."++"<lambda>"
noncomputable abbrev Zd:=V × Str × Kd
def JW (H:Hp) (z:Zd):Prop:=∃c u,z.1=.ref c/\H c=some (.tup [.str z.2.1,u])/\KA H u z.2.2
def ZL (H:Hp) (zs:List Zd):Prop:=∀z∈zs,JW H z
theorem ZL.mono {H H':Hp}(t:Tu H H'){zs:List Zd}(h:ZL H zs):ZL H' zs:=λz I=>by
 obtain⟨c,u,e,h1,h2⟩:=h z I;exact⟨c,u,e,t _ _ h1,KA.mono t _ h2⟩
noncomputable def gh (zs:List Zd):List V:=zs.map (·.1)
noncomputable def gc (zs:List Zd):List Str:=zs.map (·.2.1)
theorem j3 (zs:List Zd):(gh zs).length=zs.length:=Q03 _
theorem ma (zs:List Zd):(gc zs).length=zs.length:=Q03 _
noncomputable def z0:Zd:=(.non,"",.num)
noncomputable def iA:List Zd->Fs
 |[]=>.nil
 |z::r=>.cons z.2.1 z.2.2 (iA r)
theorem md:∀zs:List Zd,(iA zs).names=gc zs
 |[]=>rfl
 |z::r=>by show z.2.1::(iA r).names=_;rw[md r];rfl
theorem Dv {H:Hp}:∀{zs:List Zd},ZL H zs->FA H (gh zs) (iA zs)
 |[],_=>by
  show FA H [] .nil;unfold FA;rfl
 |z::r,h=>by
  obtain⟨c,u,e,h1,h2⟩:=h z Q04;have I:=Dv (zs:=r) λy J=>h y (Q0e _ J);show FA H (z.1::gh r) (.cons z.2.1 z.2.2 (iA r));rw[e];unfold FA;exact⟨c,u,Zr rfl ⟨h1,h2,I⟩⟩
theorem vE {H:Hp}:∀{fs:Fs}{xs:List V},FA H xs fs->∃zs:List Zd,gh zs=xs/\iA zs=fs/\ZL H zs
 | .nil,xs,h=>by
   unfold FA at h;exact⟨[],h.symm,rfl,λz I=>nomatch I⟩
 | .cons x k r,xs,h=>by
   unfold FA at h;obtain⟨c,u,vr,rfl,h1,h2,J⟩:=h;obtain⟨zs,L,U,Y⟩:=vE J;refine⟨(.ref c,x,k)::zs,by show _::gh zs=_;rw[L],by show Fs.cons x k (iA zs)=_;rw[U],λz I=>?_⟩;rcases List.mem_cons.mp I with e|e
   . rw[e];exact⟨c,u,rfl,h1,h2⟩
   . exact Y z e
theorem JX (zs:List Zd)(p:List Nat):gh (p.map λi=>zs.getD i z0)=p.map λi=>(gh zs).getD i .non:=by
 unfold gh;rw[List.map_map];refine Q2x λi _=>?_;show(zs.getD i z0).1=_;rw[Q06,Q06,Q0j]
 cases zs[i]? <;> rfl
theorem JY (zs:List Zd){p:List Nat}(h:p.Perm (List.range zs.length)):(p.map λi=>zs.getD i z0).Perm zs:=by
 have:=h.map λi=>zs.getD i z0;rw[Bm] at this;exact this
theorem Dw {K:W.Frag}{P l:Addr}{lp:Pos}{ql:Str}{σ:L2.St}{H:Hp}{Q:VK}{zs:List Zd}(hl:d_ K H l (gh zs))(hz:ZL H zs)(af:zs.length<=20)(hT:fi P lp ql H)
 (q:∀rs D H',iZ P H H'->fi P lp ql H'->rs.Perm zs->(gc rs).Pairwise sle->H' D=some (.lst (gh rs))->Q (.ref D) H'):q9 K P lp ql (gI (iO K) (gf 0) (tC (.int 0))) σ Q (.ref l) H:=by
 refine⟨l,gh zs,rfl,hl,by rw[j3];omega,hT,λc' H2 Y mono=>?_⟩;have f7:iZ P H H2:=λcc o hc e=>mono cc o hc e;obtain⟨ps,hP⟩:=hT.tab;have ab:ZL H2 zs:=hz.mono λc xs h=>f7 c _ (gN h hP (by intro z;cases z)) h;refine⟨λks U=>U=H2/\ks.length<=zs.length/\ks=((gc zs).map V.str).take ks.length,⟨rfl,Q07 _,rfl⟩,λks U hw=>by rw[hw.1];exact Y,?_,?_⟩
 . rintro ks U yv ⟨rfl,ag,I⟩ hy;have hy:(zs.map (·.1))[ks.length]? =some yv:=hy;obtain⟨z,J,rfl⟩:=Option.map_eq_some_iff.mp (List.getElem?_map.symm.trans hy);obtain⟨cc,u,ec,hc,hk⟩:=ab z (Q0r J);rw[ec];have ac:ks.length<zs.length:=(List.getElem?_eq_some_iff.mp J).1;refine(Zr rfl ⟨cc,_,_,Zr rfl ⟨rfl,eX.of hc,rfl,rfl,by rw[Q09];exact ac,?_⟩⟩);rw[Q09];show _=List.take (ks.length+1) _;rw[Q0q,<-I,Q0j]
   have:(gc zs)[ks.length]? =some z.2.1:=by
    show(zs.map (·.2.1))[ks.length]? =_;rw[Q0j,J];rfl
   rw[this];rfl
 . rintro ks U ⟨rfl,_,I⟩ aa
   have I:ks=(gc zs).map V.str:=by
    rw[I,aa,j3,Q0w (by rw[Q03,ma];exact Q00 _)]
   refine⟨gc zs,I,λp L hs D hD=>?_⟩;rw[j3] at L;rw[<-JX];have sD:Same U (upd U D (.lst (gh (p.map λi=>zs.getD i z0)))):=Same.new hD;refine q _ D _ (f7.trans (Kp.of sD)) (.inr ⟨c',Y.mono λb o _ e=>sD _ _ e⟩) (JY zs L) ?_ eW;show((p.map λi=>zs.getD i z0).map (·.2.1)).Pairwise sle;rw[List.map_map,Q1l];rw[Q1l] at hs;refine List.Pairwise.imp_of_mem (λ{i j} hi hj h=>?_) hs
   have ge:∀i∈p,((gc zs).map ia).getD i []=ia (zs.getD i z0).2.1:=λi hi=>by
    have ae:i<zs.length:=by
     have:=L.mem_iff.mp hi;simpa using this
    unfold gc;rw[Q06,Q06,Q0j,Q0j,Q02 ae];rfl
   rw[ge i hi,ge j hj] at h;exact h
def Dx (K:W.Frag) (Pf:Addr):Sp:=λvs H Q E=>∃l zs,vs=[.ref l]/\d_ K H l (gh zs)/\ZL H zs/\zs.length<=13/\fi Pf i2 i3 H/\(gc zs).Nodup/\
 ∀rs t H',iZ Pf H H'->fi Pf i2 i3 H'->rs.Perm zs->(gc rs).Pairwise sle->H' t=some (.tup (gh rs))->Q (.ref t) H'
def Dy (K:W.Frag) (Pf:Addr):Sp:=λvs H Q E=>∃l zs,vs=[.ref l]/\d_ K H l (gh zs)/\ZL H zs/\zs.length<=13/\fi Pf i2 i3 H/\(gc zs).Nodup/\
 ∀rs r t H',iZ Pf H H'->fi Pf i2 i3 H'->rs.Perm zs->(gc rs).Pairwise sle->H' t=some (.tup (gh rs))->H' r=some (.tup [.str "record",.ref t])->Q (.ref r) H'
variable {P:Program}{w:World}{K:W.Frag}{mg:Str->Option Value}{base:Heap}
theorem DA:f_ ["pairs","fields","number","name"] ["pairs"] (fo (top 7)):=gz
theorem JZ {Pf c:Addr}(T:Tb mg)(J:Dn K mg "sorted_fields" lG (top 7) L I)(aa:I.code=.ref c)(aj:W.CodeHd base c Pf)(ak:BM mg base):eZ P w K mg base e_ (8) L I lG (Dx K Pf):=by
 refine J.F.ra aa DA (λvs H Q E h=>?_) (λA outer s H vs Q E hr h=>?_)
 . obtain⟨l,zs,rfl,_⟩:=h;rfl
 obtain⟨l,zs,rfl,hl,hz,ab,hT,al,q1⟩:=h;have nd:=DA.nd;have hu:=pF hr
 refine⟨_,(eV (fj 1 nd (mO qM (by rfl) T.oq boot_tuple (a_ (BA (te:=(gI (iO K) (gf 0) (tC (.int 0)))) (x:="pair") (N':=["","","",""]) rfl T.pT boot_sorted hr rfl rfl aj ak (kW.of (N:=["pairs","fields","number","name"]) (sc:=fo (top 7)) rfl rfl rfl rfl rfl (by decide +kernel)) rfl (λ_ _ _ _ _=>rfl) (pv 0) (λ_ _ _ _ _=>(fh (pv 0) b_))) c_)))
  (eV (jc PassesOwn.never rfl (Fm rfl T.lZ (a_ b_ (a_ (fZ iu (by rfl) T.ib PySem.boot_len (a_ (pv 1) c_)) c_))) (gq (i:=2) nd rfl gO) (eV (fj 3 nd (fh (fh (pv 1) (pv 2)) b_))
  (fc (fA (fw gg (pv 3) (fh (fh (pv 1) (eY jd (pv 2) b_)) b_) (fv _)) (fc zY) fy))))
  (fc (fg (pv 1))))),?_⟩
 ac_rfl
 refine(Zr rfl (Dw hl hz (by omega) hT λrs D H3 i_ am Y an hD=>⟨D,Zr rfl (.inl ⟨d_.of hD,λt ht=>?_⟩)⟩));obtain⟨ps,hP⟩:=hT.tab;have st:Same H3 (upd H3 t (.tup (gh rs))):=Same.new ht;have ac:ZL (upd H3 t (.tup (gh rs))) rs:=λz ao=>(hz.mono λc xs h=>st _ _ (i_ c _ (gN h hP (by intro z;cases z)) h)) z (Y.mem_iff.mp ao);have ae:iZ Pf H (upd H3 t (.tup (gh rs))):=i_.trans (Kp.of st);have af:=am.same st;have U:=eW (H:=H3) (a:=t) (o:=.tup (gh rs));generalize upd H3 t (.tup (gh rs))=H5 at ac ae af U;have ab:rs.length<=13:=by rw[Y.length_eq];exact ab
 have ap:(gc rs).Nodup:=(Y.map _).nodup_iff.mpr al
 have ag:∀j,j<rs.length->∃cc u,(gh rs)[j]? =some (.ref cc)/\H5 cc=some (.tup [.str ((gc rs).getD j ""),u]):=λj hj=>by
  obtain⟨cc,u,ec,hc,_⟩:=ac rs[j] (Q0y hj);refine⟨cc,u,?_,?_⟩
  . show(rs.map (·.1))[j]? =_;rw[Q0j,Q02 hj];exact congrArg some ec
  . have e:(gc rs).getD j ""=rs[j].2.1:=by
     unfold gc;rw[Q06,Q0j,Q02 hj];rfl
    rw[e];exact hc
 refine(Zr rfl ⟨t,Zr rfl ⟨.inr (eX.of U),_,Zr rfl ⟨⟨by decide,by decide,by omega,by rw[j3];omega⟩,lQ (lo:=1) (n:=(((gh rs).length:Int) - 1).toNat) (λk σ H'=>H'=H5/\∃y z,σ=[some (.ref l),some (.ref t),y,z]) ⟨rfl,_,_,rfl⟩ ?_ ?_⟩⟩⟩)
 . rintro k σ H' hk ⟨rfl,y,z,rfl⟩;rw[j3] at hk;obtain⟨c1,u1,a1,b1⟩:=ag (k+1) (by omega);obtain⟨c2,u2,a2,b2⟩:=ag k (by omega)
   have e1:gW (gh rs) ((1:Int)+(k:Int))=some (.ref c1):=by
    have:=gL (j:=k+1) a1;rw[show((1:Int)+(k:Int))=((k+1:Nat):Int) by omega];exact this
   have e2:gW (gh rs) ((1:Int)+(k:Int) - 1)=some (.ref c2):=by
    have:=gL (j:=k) a2;rw[show((1:Int)+(k:Int) - 1)=((k:Nat):Int) by omega];exact this
   refine(Zr rfl (Zr rfl ⟨t,_,_,Zr rfl ⟨rfl,eX.of U,e1,c1,_,_,Zr rfl ⟨rfl,eX.of b1,rfl,?_⟩⟩⟩));refine(Zr rfl (Zr rfl (Zr rfl ⟨_,Zr rfl ⟨rfl,t,_,_,Zr rfl ⟨rfl,eX.of U,e2,c2,_,_,Zr rfl ⟨rfl,eX.of b2,rfl,rfl,Zr rfl (gm (λcc=>?_) λcc=>⟨rfl,_,_,rfl⟩)⟩⟩⟩⟩)))
   have e:(gc rs).getD (k+1) ""=(gc rs).getD k "":=by
    have:=of_decide_eq_true cc;injection this
   have ah:k+1<(gc rs).length:=by rw[ma];omega
   have ai:k<(gc rs).length:=by rw[ma];omega
   rw[Q06,Q06,Q02 ah,Q02 ai] at e;have e:(gc rs)[k+1]=(gc rs)[k]:=e;exact absurd e.symm (List.pairwise_iff_getElem.mp ap k (k+1) ai ah (by omega))
 . rintro σ H' ⟨rfl,y,z,rfl⟩;exact(Zr rfl (q1 rs t _ ae af Y an U))
theorem J0:f_ ["pairs"] ["pairs"] (fo (top 8)):=gz
theorem J1 {Pf:Addr}(T:Tb mg)(Y:Dn K mg "record_of" lG (top 8) aa ab)(I:Dn K mg "sorted_fields" lG (top 7) J L)(U:eZ P w K mg base e_ (8) J L lG (Dx K Pf)):eZ P w K mg base e_ (9) aa ab lG (Dy K Pf):=by
 refine Y.F.ok J0 λvs H Q E h=>?_;obtain⟨l,zs,rfl,hl,hz,af,hT,ag,q1⟩:=h;refine⟨rfl,λak A outer s nd hr hu=>?_⟩;refine⟨_,(fc (fg (gi (a_ fV (a_ (fx U hr I (a_ (pv 0) c_)) c_))))),?_⟩
 ac_rfl
 refine(Zr rfl ⟨l,zs,rfl,hl,hz,af,hT,ag,λrs t H' kp ah ai aj ae=>?_⟩);refine⟨gE,λr ac=>?_⟩;exact q1 rs r t _ (kp.trans (Kp.of (Same.new ac))) (ah.same (Same.new ac)) ai aj (by rw[eU (ff ae ac)];exact ae) eW
structure Dm (K:W.Frag) (x qual:Str) (ps:List Str) (st:Stmt) (f:Addr) (fd:FuncData):Prop where
 F:ko K x qual st f fd
 b:Binds K fd ps []
noncomputable abbrev DB:List Value:=[.type "ValueError",.type "Exception",.type "BaseException",.type "object"]
structure DC (K:W.Frag) (mg:Str->Option Value) (base:Heap) (x:Str) (C fI:Addr):Prop where
 xi:l8 base C fI DB "ValueError.__new__"
 kp:W.keepIn K (.ref C)=true
 m:mg x=some (.ref C)
 fld:l9 K C "way"
 cls:n_ K C
 ty:W.typeIn K (.ref C)=some (.type "type")
 is:(W.clsIn K C).isSome=true
 bx:W.subIn K (.ref C) (.type "BaseException")=some true
 sub:W.subIn K (.ref C) (.ref C)=some true
abbrev sH (K:W.Frag) (mg:Str->Option Value) (base:Heap) (C fI:Addr):Prop:=DC K mg base "CantPut" C fI
theorem DE {P:Program}{w:World}{K:W.Frag}{mg:Str->Option Value}{base:Heap}{x qual:Str}{st:Stmt}{f:Addr}{fd:FuncData}{N ps:List Str}{k:Nat}{sp:Sp}(F:ko K x qual st f fd)(S:f_ N ps (fo st))(len:∀vs H Q E,sp vs H Q E->vs.length=ps.length)
 (J:∀(I:Value) (A:Around) (outer:List Env) (s:Shared) (H:Hp) (vs:List V) (Q:VK) (E:XK),gy k (A.deeper (envOfC qual (fo st) s.heap.objs.size f I))->sp vs H Q E->
   ∃t,iN (fW (j2 P w) P w K mg base N qual (fo st) f I A outer s H E) (h8 st) t/\t { nx:=λ_ H'=>Q .non H',rt:=Q } (start N vs) H):eZ P w K mg base (j2 P w) (k+1) f fd ps sp:=by
 obtain⟨oc,od,kV,aa,pm,an,I,ct,ab,rfl,Y,L⟩:=F.ex;refine t_ Y L S len λA outer s H vs Q E hr U=>?_;exact J I A outer s H vs Q E hr U
theorem J3 {X:Cx}{K:W.Frag}{e:Expr}{ta:TE}{f:Str}{pos:Pos}(hK:X.K=K)(I:PE X e ta)(J:attributeBase e f X.env (eval e X.env)=eval e X.env):PE X (.Attribute e f pos) (Dt K ta f):=by
 subst hK;exact JP I J
abbrev sI (H:Hp) (pk pb:Addr) (key by_:Str):Prop:=H pk=some (.tup [.str "rows",.str key,.str by_,.ref pb])
def DF:Sp:=λvs H Q _=>∃v,vs=[v]/\Q (.str "full") H
def vF (K:W.Frag) (C:Addr):Sp:=λvs H Q _=>∃a I J,vs=[.ref a,.ref I]/\H a=some (l_ a C)/\d_ K H I J/\∀p dx H',p≠a->dx≠a->(∀c o,c≠a->H c=some o->H' c=some o)->H' a=some (MadeX a C dx)->H' dx=some (.xd [("way",.ref p)])->H' p=some (.lst J)->Q .non H'
def DG (iH:Addr) (n:Nat):Sp:=λvs H Q E=>∃I v k d J r,vs=[I,v]/\KA H I k/\k.W/\Own H v d J/\Rs n k d r/\(r=none->∀H',Same H H'->Q .non H')/\
 ∀pl,r=some pl->∀dx p H',Same H H'->H' dx=some (.xd [("way",.ref p)])->H' p=some (.lst (pl.map kV))->E (.ref iH) (some dx) H'
section
variable {P:Program}{w:World}{K:W.Frag}{mg:Str->Option Value}{base:Heap}
variable {iH:Addr}
theorem J4:f_ ["self"] ["self"] (fo (fF 21 3)):=gz
theorem J5 (T:Tb mg)(I:Dm K "grade" "View.grade" ["self"] (fF 21 3) J L):eZ P w K mg base e_ (1) J L ["self"] (DF):=by
 refine I.F.ok J4 λvs H Q E h=>?_;obtain⟨v,rfl,q⟩:=h;refine⟨rfl,λU A outer s Y hr hu=>?_⟩;refine⟨_,(fc (fg fV)),?_⟩
 ac_rfl
 exact q
theorem J6:f_ ["self","way"] ["self","way"] (fo (fF 4 0)):=gz
theorem J7 (T:Tb mg)(XC:sH K mg base iH I)(J:Dm K "__init__" "CantPut.__init__" ot (fF 4 0) I L):eZ P w K mg base e_ (1) I L ot (vF K iH):=by
 refine J.F.ok J6 λvs H Q E h=>?_;obtain⟨a,p0,ws,rfl,ha,hs,q⟩:=h;refine⟨rfl,λac A outer s nd hr hu=>?_⟩;refine⟨_,(fc (JL (pv 0) (mO AG (by rfl) T.m7 boot_list (a_ (pv 1) c_)) rfl)),?_⟩
 ac_rfl
 refine(Zr rfl ⟨p0,Zr rfl ⟨.inl hs,λp hp=>?_⟩⟩);have U:a≠p:=ff ha hp;refine(Zr rfl ⟨a,iH,rfl,by rw[eU U];exact ha,XC.fld,λdx Y aa=>?_⟩);have ab:p≠dx:=ff (H:=upd H p (.lst ws)) eW Y;refine q p dx _ (Ne.symm U) aa (λc o hc e=>?_) eW ?_ ?_
 . have e1:upd H p (.lst ws) c=some o:=by rw[eU (ff e hp)];exact e
   rw[eU hc,eU (ff e1 Y)];exact e1
 . rw[eU aa,eW]
 . rw[eU (Ne.symm U),eU ab,eW]
theorem DH:f_ ["kind","seen","place"] ["kind","seen"] (fo (top 19)):=gz
theorem J8 (n j:Nat)(T:Tb mg)(XC:sH K mg base iH I)(Y:Dn K mg "ask_fit" rK (top 19) aa ab)(ac:Dn K mg "misfit" jy (top 10) ae af)(ag:eZ P w K mg base e_ (j+3) ae af jy (nA n))(J:Dm K "__init__" "CantPut.__init__" ot (fF 4 0) I L)(U:eZ P w K mg base e_ (1) I L ot (vF K iH)):eZ P w K mg base (j2 P w) (j+4) aa ab rK (DG iH n):=by
 refine DE Y.F DH (λvs H Q E h=>?_) (λan A outer s H vs Q E hr h=>?_)
 . obtain⟨kv,v,k,d,fp,r,rfl,_⟩:=h;rfl
 obtain⟨kv,v,k,d,fp,r,rfl,hk,hW,hO,hR,q1,q2⟩:=h;have nd:=DH.nd
 refine⟨_,(eV (fj 2 nd (fx ag hr ac (a_ (pv 0) (a_ (pv 1) c_))))
  (fc (fA (fw mI (pv 2) h9 (fv _)) (fc (Dl rfl XC.xi PySem.F.excBase_ValueError XC.kp U (hr.mono (by omega)) rfl rfl XC.m J.b Dq (a_ (pv 2) c_))) fy))),?_⟩
 ac_rfl
 refine(Zr rfl (Zr rfl ⟨kv,v,k,d,fp,r,rfl,hk,hW,hO,hR,λu H1 s1 hu=>?_⟩))
 cases r with
 |none=>
  have hu:u=.non:=hu;subst hu;refine(Zr rfl ⟨rfl,Zr rfl ?_⟩);rw[decide_eq_true rfl];exact fL (q1 rfl _ s1)
 |some pl=>
  obtain⟨p0,rfl,ai⟩:=hu;refine(Zr rfl ⟨rfl,Zr rfl (fY (Zr rfl ⟨hX,λa ha=>?_⟩))⟩);refine⟨a,p0,pl.map kV,rfl,eW,d_.of (by rw[eU (ff ai ha)];exact ai),λp dx H' aj ak keep al am hp=>⟨rfl,dx,al,?_⟩⟩;refine q2 pl rfl dx p _ (λc o e=>?_) (by rw[jO ak];exact am) (by rw[jO aj];exact hp);have e1:=s1 c o e;have ah:=ff e1 ha;rw[jO ah];exact keep c o ah (by rw[eU ah];exact e1)
end
def CS (F:Nat->List V) (n:Nat) (H:Hp) (i m:Nat) (ys:List V) (H':Hp):Prop:=m=n - i/\i<=n/\ys=F i/\(F i).length<=i/\Same H H'
theorem CS.add {F:Nat->List V}{n i:Nat}{H H2:Hp}{y:V}(I:i<n)(hl:(F i).length<=i)(s:Same H H2)(e:F (i+1)=F i++[y]):∃J,J<n - i/\CS F n H (i+1) J (F i++[y]) H2:=
 ⟨_,Q24 _ _ I,rfl,I,e.symm,by rw[e,Q09];exact Q2k hl,s⟩
theorem CS.skip {F:Nat->List V}{n i:Nat}{H H2:Hp}(I:i<n)(hl:(F i).length<=i)(s:Same H H2)(e:F (i+1)=F i):∃J,J<n - i/\CS F n H (i+1) J (F i) H2:=
 ⟨_,Q24 _ _ I,rfl,I,e.symm,by rw[e];omega,s⟩
theorem DJ {J:It}{H:Hp}{xs:List V}{S:List V->Hp->Prop}{C:(Nat->Nat->List V->Hp->Prop)->Nat->Nat->List V->V->Hp->Prop}(hJ:∀H',Same H H'->su J H' xs)(F:Nat->List V)(aa:xs.length<=1000)
 (q:∀H',Same H H'->S (F xs.length) H') (step:∀i x H',Same H H'->xs[i]? =some x->i<xs.length->(F i).length<=i->C (CS F xs.length H) i (xs.length - i) (F i) x H') (Y:F 0=[]:=by rfl):
 ∃W:Nat->Nat->List V->Hp->Prop,(∃m,W 0 m [] H)/\∀i m ys H',W i m ys H'->(J.stop i H'/\S ys H')\/(J.go i H'/\ys.length<sizeLine/\∀x I,J.jU i H' x I->C W i m ys x I):=by
 refine⟨CS F xs.length H,(Zr rfl ⟨Q07 _,Y.symm,by rw[Y];exact Q00 0,Same.refl _⟩),?_⟩;rintro i m ys H' ⟨rfl,hi,rfl,hl,s⟩;have U:=hJ H' s;by_cases L:i<xs.length
 . refine .inr ⟨U.1 i _ (Q02 L),ig (by omega),λx I y=>?_⟩;obtain⟨rfl,hx⟩:=U.2.1 _ _ _ y;exact step i x _ s hx L hl
 . cases Q2l hi (Q12 L);exact .inl ⟨U.2.2,q _ s⟩
theorem J9 {K:PySem.W.Frag}{a b:Addr}{xs ys:List V}{H:Hp}{S:List V->Hp->Prop}{C:(Nat->Nat->List V->Hp->Prop)->Nat->Nat->List V->V->Hp->Prop}(el:xs.length=ys.length)(ha:∀H',Same H H'->d_ K H' a xs)(hb:∀H',Same H H'->d_ K H' b ys)(F:Nat->List V)(aa:xs.length<=1000)
 (q:∀H',Same H H'->S (F xs.length) H') (step:∀i x y p H',Same H H'->H' p=some (.tup [x,y])->xs[i]? =some x->ys[i]? =some y->i<xs.length->(F i).length<=i->C (CS F xs.length H) i (xs.length - i) (F i) (.ref p) H') (Y:F 0=[]:=by rfl):
 ∃W:Nat->Nat->List V->Hp->Prop,(∃m,W 0 m [] H)/\∀i m zs H',W i m zs H'->((pO K a b).stop i H'/\S zs H')\/((pO K a b).go i H'/\zs.length<sizeLine/\∀x I,(pO K a b).jU i H' x I->C W i m zs x I):=by
 refine⟨CS F xs.length H,(Zr rfl ⟨Q07 _,Y.symm,by rw[Y];exact Q00 0,Same.refl _⟩),?_⟩;rintro i m zs H' ⟨rfl,hi,rfl,hl,s⟩;have L:=ha H' s;have U:=hb H' s;by_cases J:i<xs.length
 . refine .inr ⟨⟨xs,ys,xs[i],ys[i],L,U,Q02 J,Q02 (by omega)⟩,ig (by omega),λx I y=>?_⟩;obtain⟨p,x1,x2,hp,rfl,e1,e2,rfl⟩:=y;exact step i x1 x2 p _ (s.trans (Same.new hp)) eW (e1 _ L) (e2 _ U) J hl
 . cases Q2l hi (Q12 J);exact .inl ⟨⟨xs,ys,L,U,.inl (Q00 _)⟩,q _ s⟩
theorem DK (i:Nat):(List.replicate (i+1) true).map V.bl=(List.replicate i true).map V.bl++[V.bl true]:=by
 rw[List.replicate_succ',Q0f];rfl
def J_ (n:Nat) (H:Hp) (k:Kd) (v1 v2:V):Prop:=∃I J,v1=.ref I/\v2=.ref J/\
 ((∃L p2,∃pl:List Key,H I=some (.tup [.str "refused",.ref L])/\H J=some (.tup [.str "refused",.ref p2])/\H L=some (.lst (pl.map kV))/\H p2=some (.lst (pl.map kV))/\pl.length<=101)\/
  ∃U Y d f1 f2,H I=some (.tup [.str "done",U])/\H J=some (.tup [.str "done",Y])/\Own H U d f1/\Own H Y d f2/\fC k d/\d.dep<=n/\d.Sm)
def DL:Sp:=λvs H Q _=>∃I p2,∃pl:List Key,vs=[.ref I,.ref p2]/\H I=some (.lst (pl.map kV))/\H p2=some (.lst (pl.map kV))/\pl.length<=101/\∀H',Same H H'->Q (.bl true) H'
def DM (n:Nat):Sp:=λvs H Q _=>∃I v1 v2 k,vs=[I,v1,v2]/\KA H I k/\k.W/\J_ n H k v1 v2/\∀H',Same H H'->Q (.bl true) H'
theorem Kb:f_ XY XY (fo (top 37)):=gz
theorem Kc (T:Tb mg)(I:Dn K mg "_law_way" rL (top 37) J L):eZ P w K mg base e_ (1) J L rL (DL):=by
 refine I.F.ok Kb λvs H Q E h=>?_;obtain⟨Y,p2,pl,rfl,h1,h2,aa,q⟩:=h;refine⟨rfl,λab A outer s nd hr hu=>?_⟩
 refine⟨_,(eV (fA (PW.pt (jb (iB (iy (fZ iV (by rfl) T.iY boot_isinstance (a_ (pv 0) (a_ (iR (v:=.ty "list") rfl T.m7 boot_list rfl) c_))))) (jt (fw jV (fZ iu (by rfl) T.ib PySem.boot_len (a_ (pv 0) c_)) (fZ iu (by rfl) T.ib PySem.boot_len (a_ (pv 1) c_)) (fv _))))) (fc (fg iw)) fy)
  (fc (fg (fZ (qU rfl) (by rfl) T.rH boot_all (a_ (kr (g:=(o6 K 2 (lg (gK 0) (lg (gK 1) o5)))) (tt:=jX) (te:=(zT (gI lr (gf 0) (gf 1)) (zU (ua (λxs H Q=>∃x T t b,xs=[x,.ty T]/\je K H x t/\W.kitOne K t (.type T)=some b/\Q (.bl b) H) (g9 (gf 0) (g9 (tC (.ty "bool")) iS)))))) (own:=["_law_a","_law_b"]) rfl (jj (N:=XY) (sc:=fo (top 37))) (uG rfl T.uU (a_ (pv 0) (a_ (pv 1) c_))) (λ_ _ _ _ _=>(jS rfl (ik (gq (i:=0) (show(Xm:List Str).Nodup by decide +kernel) rfl (Or.inl rfl) (.inr rfl)) (ik (gq (i:=1) (show(Xm:List Str).Nodup by decide +kernel) rfl (Or.inl rfl) (.inr rfl)) jR)))) (λ_ _ _ _ _=>kT) (λ_ _ _ _ _=>(mz (lU gg (pv 0) (pv 1) (fv _)) (nN (zV (fZ iV (by rfl) T.iY boot_isinstance (a_ (pv 0) (a_ (iR (v:=.ty "bool") rfl T.uV boot_bool rfl) c_)))))))) c_))))),?_⟩
 ac_rfl
 refine(Zr rfl ⟨_,_,_,true,rfl,.lst h1,rfl,true,rfl,fL ?_⟩);refine(Zr rfl ⟨Y,Zr rfl ⟨.inl (d_.of h1),Zr rfl ⟨p2,Zr rfl ⟨.inl (d_.of h2),rfl,Zr rfl (kq rfl ?_)⟩⟩⟩⟩);refine(Zr rfl (Zr rfl ⟨Y,p2,rfl,⟨_,d_.of h1⟩,⟨_,d_.of h2⟩,J9 rfl (λH' s=>d_.of (s _ _ h1)) (λH' s=>d_.of (s _ _ h2)) (λi=>(List.replicate i true).map V.bl) (by rw[Q03];omega) (λH' s p hp=>⟨p,Zr rfl ⟨d_.of eW,?_⟩⟩) (λi x y p H' s hp hx hy U hl=>?_)⟩))
 . rw[vz];exact q _ (s.trans (Same.new hp))
 . obtain⟨z,hz,rfl⟩:=Option.map_eq_some_iff.mp (List.getElem?_map.symm.trans hx);rw[hx] at hy
   cases hy;refine⟨p,Zr rfl ⟨eX.of hp,rfl,_,Zr rfl ⟨_,Zr rfl ⟨rfl,rfl,yes (fY ?_)⟩⟩⟩⟩;refine(Zr rfl (Zr rfl ⟨by cases z <;> rfl,Zr rfl ?_⟩));rw[decide_eq_true rfl]
   cases z with
   |inl z=>exact fY (Zr rfl ⟨_,_,_,false,rfl,.int z,rfl,false,rfl,CS.add U hl s (DK i)⟩)
   |inr z=>exact fY (Zr rfl ⟨_,_,_,false,rfl,.str z,rfl,false,rfl,CS.add U hl s (DK i)⟩)
theorem Ke:f_ XF XF (fo (top 43)):=gz
theorem Kf (n:Nat)(T:Tb mg)(I:Dn K mg "_law_same_end" jL (top 43) J L)(ac:Dn K mg "_law_way" rL (top 37) ae af)(ag:eZ P w K mg base e_ (1) ae af rL (DL))(U:Dn K mg "_law_alike" jL (top 36) Y aa)(ab:eZ P w K mg base e_ (n+1) Y aa jL (oG n)):eZ P w K mg base e_ (n+2) J L jL (DM n):=by
 refine I.F.ok Ke λvs H Q E h=>?_;obtain⟨kv,v1,v2,k,rfl,hk,hW,⟨t1,t2,rfl,rfl,hE⟩,q⟩:=h;refine⟨rfl,λaj A outer s nd hr hu=>?_⟩
 refine⟨_,(eV (fA (fw jV (fh (pv 1) b_) (fh (pv 2) b_) (fv _)) (fc (fg iw)) fy)
  (eV (fA (fw gg (fh (pv 2) b_) fV (fv _)) (fc (fg (fx ag hr ac (a_ (fh (pv 1) b_) (a_ (fh (pv 2) b_) c_))))) fy)
  (fc (fg (fx ab hr U (a_ (pv 0) (a_ (fh (pv 1) b_) (a_ (fh (pv 2) b_) c_)))))))),?_⟩
 ac_rfl
 rcases hE with⟨p1,p2,pl,h1,h2,l1,l2,ah⟩|⟨u1,u2,d,f1,f2,h1,h2,o1,o2,hF,hd,ai⟩
 . refine(Zr rfl ⟨t1,_,_,Zr rfl ⟨rfl,eX.of h1,rfl,Zr rfl ⟨t2,_,_,Zr rfl ⟨rfl,eX.of h2,rfl,rfl,Zr rfl (kq rfl ?_)⟩⟩⟩⟩);refine(Zr rfl ⟨t2,_,_,Zr rfl ⟨rfl,eX.of h2,rfl,rfl,Zr rfl ?_⟩⟩);rw[decide_eq_true rfl];refine fY ?_;exact(Zr rfl ⟨t1,_,_,Zr rfl ⟨rfl,eX.of h1,rfl,Zr rfl ⟨t2,_,_,Zr rfl ⟨rfl,eX.of h2,rfl,p1,p2,pl,rfl,l1,l2,ah,q⟩⟩⟩⟩)
 . refine(Zr rfl ⟨t1,_,_,Zr rfl ⟨rfl,eX.of h1,rfl,Zr rfl ⟨t2,_,_,Zr rfl ⟨rfl,eX.of h2,rfl,rfl,Zr rfl (kq rfl ?_)⟩⟩⟩⟩);refine(Zr rfl ⟨t2,_,_,Zr rfl ⟨rfl,eX.of h2,rfl,rfl,Zr rfl ?_⟩⟩);rw[show decide (V.str "done"=V.str "refused")=false by decide +kernel];refine fL ?_;exact(Zr rfl (Zr rfl ⟨t1,_,_,Zr rfl ⟨rfl,eX.of h1,rfl,Zr rfl ⟨t2,_,_,Zr rfl ⟨rfl,eX.of h2,rfl,kv,u1,u2,k,d,f1,f2,rfl,hk,hW,o1,o2,i9.of hF,hd,ai,q⟩⟩⟩⟩))
def Kn (H H':Hp):Prop:=∀c o,(∀ps,o≠ .gS ps)->H c=some o->H' c=some o
theorem Kn.of {H H':Hp}(s:Same H H'):Kn H H':=λc o _ e=>s c o e
theorem Kn.k7 {P:Addr}{I:Pos}{J:Str}{H H':Hp}(k:iZ P H H')(hT:fi P I J H):Kn H H':=λc o L e=>by
 obtain⟨ps,U⟩:=hT.tab;exact k c o (gN e U (L ps)) e
theorem Kn.tu {H H':Hp}(k:Kn H H'):Tu H H':=λc xs e=>k c _ (by intro ps z;cases z) e
theorem Kn.lst {H H':Hp}(k:Kn H H'){c:Addr}{xs:List V}(e:H c=some (.lst xs)):H' c=some (.lst xs):=k c _ (by intro ps z;cases z) e
theorem Own.kn {H H':Hp}{v:V}{d:D}{I:List Addr}(h:Own H v d I)(k:Kn H H'):Own H' v d I:=h.keep k.tu d λc hc o e=>k c o (by
 intro ps z;rcases Own.alive d h c hc with⟨_,q⟩|⟨_,q⟩ <;> rw[e] at q <;> rw[z] at q <;> cases q) e
theorem nE {H:Hp}{D:Addr}{vs:List V}{ms:List Ds}{I:List (List Addr)}(J:H D=some (.lst vs))(h:fH H vs ms I):Own H (.ref D) (.lst (gA ms)) (D::I.flatten):=by
 unfold Own;exact⟨D,vs,Zr rfl ⟨J,rfl,fH.own h⟩⟩
structure me (K:W.Frag) (mg:Str->Option Value) (C fI fB fS fP fU fG fK:Addr):Prop where
 ct:Cls K C
 nf:lu K C "field"
 nr:lu K C "rows"
 nt:lu K C "total"
 Kg:Mk K C fI
 m:mg "Beside"=some (.ref C)
 b:Meth K C "behind" fB
 s:Meth K C "see" fS
 p:Meth K C "put" fP
 u:Meth K C "sum_of" fU
 g:Meth K C "grade" fG
 k:Meth K C "keeps" fK
abbrev nF (H:Hp) (C v dx:Addr) (f r t:Str):Prop:=H v=some (.ins C dx [("field",.str f),("rows",.str r),("total",.str t)])
structure kF (H:Hp) (pk pb:Addr) (key by_ f:Str) (xs:List V) (fs:Fs):Prop where
 at_:sI H pk pb key by_
 tu:H pb=some (.tup xs)
 fa:FA H xs fs
 W:(Kd.rows key by_ fs).W
 num:fs.get f=some .num
theorem kF.mono {H H':Hp}{pk pb:Addr}{key by_ f:Str}{xs:List V}{fs:Fs}(h:kF H pk pb key by_ f xs fs)(t:Tu H H'):kF H' pk pb key by_ f xs fs:=⟨t _ _ h.at_,t _ _ h.tu,FA.mono t fs h.fa,h.W,h.num⟩
theorem kF.ka {H:Hp}{pk pb:Addr}{key by_ f:Str}{xs:List V}{fs:Fs}(h:kF H pk pb key by_ f xs fs):KA H (.ref pk) (.rows key by_ fs):=by
 unfold KA;exact⟨pk,pb,xs,rfl,h.at_,h.tu,h.fa⟩
noncomputable def rN (sp:Bool) (x0 x1:Str):Str:=if sp then x1 else x0
noncomputable def tN (sp:Bool) (x0 x1:Str):Str:=if sp then x0 else x1
noncomputable def jm (sp:Bool) (x0 x1:Str) (k:Kd):Fs:=.cons x0 (if sp then .num else k) (.cons x1 (if sp then k else .num) .nil)
structure jn (x0 x1:Str):Prop where
 lt:slt x0 x1
 n0:x0≠""
 n1:x1≠""
theorem Kh {x y:Str}(h:slt x y):x≠y:=λe=>by
 subst e;exact uT _ _ h h
theorem jn.ne {x0 x1:Str}(h:jn x0 x1):x0≠x1:=Kh h.lt
theorem jn.rt {x0 x1:Str}(h:jn x0 x1)(sp:Bool):rN sp x0 x1≠tN sp x0 x1:=by
 cases sp
 . exact h.ne
 . exact Ne.symm h.ne
theorem DN {sp:Bool}{x0 x1:Str}{k:Kd}(h:jn x0 x1)(I:k.W):(Kd.fT (jm sp x0 x1 k)).W:=by
 unfold Kd.W jm;refine⟨List.nodup_cons.mpr ⟨λz=>h.ne (List.mem_singleton.mp z),List.nodup_cons.mpr ⟨λz=>(nomatch z),Q0t⟩⟩,show 2<=12 by decide,?_⟩;have J:Kd.num.W:=by unfold Kd.W;trivial
 have:∀a b:Kd,a.W->b.W->(Fs.cons x0 a (.cons x1 b .nil)).W:=λa b L U=>by
  unfold Fs.W;refine⟨L,h.n0,?_⟩;unfold Fs.W;refine⟨U,h.n1,?_⟩;unfold Fs.W;trivial
 cases sp
 . exact this _ _ I J
 . exact this _ _ J I
def j4 (H:Hp) (sp:Bool) (x0 x1:Str) (pk q:Addr):Prop:=∃t c0 J I,H q=some (.tup [.str "record",.ref t])/\H t=some (.tup [.ref c0,.ref J])/\H c0=some (.tup [.str x0,.ref (if sp then I else pk)])/\H J=some (.tup [.str x1,.ref (if sp then pk else I)])/\H I=some (.tup [.str "number"])
theorem j4.mono {H H':Hp}(tu:Tu H H'){sp:Bool}{x0 x1:Str}{pk q:Addr}(h:j4 H sp x0 x1 pk q):j4 H' sp x0 x1 pk q:=by
 obtain⟨t,c0,I,J,h1,h2,L,U,Y⟩:=h;exact⟨t,c0,I,J,tu _ _ h1,tu _ _ h2,tu _ _ L,tu _ _ U,tu _ _ Y⟩
theorem j4.ka {H:Hp}{sp:Bool}{x0 x1:Str}{pk q:Addr}{k:Kd}(h:j4 H sp x0 x1 pk q)(I:KA H (.ref pk) k):KA H (.ref q) (.fT (jm sp x0 x1 k)):=by
 obtain⟨t,c0,U,J,h1,h2,Y,h4,h5⟩:=h;have L:KA H (.ref J) .num:=by unfold KA;exact⟨J,rfl,h5⟩
 unfold KA;refine⟨q,t,Zr rfl ⟨h1,h2,?_⟩⟩;unfold jm FA;refine⟨c0,_,Zr rfl ⟨Y,?_,?_⟩⟩
 . cases sp
   . exact I
   . exact L
 . unfold FA;refine⟨U,_,Zr rfl ⟨h4,?_,?_⟩⟩
   . cases sp
     . exact L
     . exact I
   . unfold FA;rfl
theorem sJ {K:W.Frag}{H:Hp}{n:Nat}{a b:Addr}{xs ys:List V}(I:H a=some (.tup xs))(J:H b=some (.tup ys))(hl:xs.length=ys.length)(L:∀(j:Nat) (x y:V),xs[j]? =some x->ys[j]? =some y->il K H n x y true):il K H (n+1) (.ref a) (.ref b) true:=by
 by_cases e:a=b
 . subst e;exact .ref a
 . have:=il.tup (e:=λ_=>true) e (eX.of (K:=K) I) (eX.of (K:=K) J) L
   have U:((List.range (min xs.length ys.length)).all (λ_=>true) && xs.length == ys.length)=true:=by
    rw[hl];simp
   rw[U] at this;exact this
theorem sL {K:W.Frag}{H:Hp}{n:Nat}(x:Str):il K H n (.str x) (.str x) true:=by
 have:=il.str (K:=K) (H:=H) (n:=n) x x;rw[decide_eq_true rfl] at this;exact this
theorem all2 {K:W.Frag}{H:Hp}{n:Nat}{x y L U:V}(h1:il K H n x L true)(h2:il K H n y U true):∀(j:Nat) (a b:V),[x,y][j]? =some a->[L,U][j]? =some b->il K H n a b true
 |0,_,_,I,J=>by cases I;cases J;exact h1
 |1,_,_,I,J=>by cases I;cases J;exact h2
 |_+2,_,_,I,_=>by cases I
theorem j4.ne {K:W.Frag}{H:Hp}{sp:Bool}{x0 x1:Str}{pk q I:Addr}{Q:VK}(h:j4 H sp x0 x1 pk q)(h':j4 H sp x0 x1 pk I)(hq:Q (.bl false) H):Bv K 3 (.ref q) (.ref I) H Q:=by
 obtain⟨t,c0,c1,nk,h1,h2,h3,h4,h5⟩:=h;obtain⟨t',U,Y,aa,k1,k2,k3,k4,k5⟩:=h'
 have hn:il K H 1 (.ref nk) (.ref aa) true:=sJ h5 k5 rfl λj x y J L=>by
  match j,J,L with
  |0,J,L=>cases J;cases L;exact sL _
 have d0:il K H 2 (.ref c0) (.ref U) true:=sJ h3 k3 rfl (all2 (sL _) (by
  cases sp
  . exact .ref _
  . exact hn))
 have d1:il K H 2 (.ref c1) (.ref Y) true:=sJ h4 k4 rfl (all2 (sL _) (by
  cases sp
  . exact hn
  . exact .ref _))
 exact⟨q,I,_,_,λ_=>true,rfl,rfl,all2 (sL _) (sJ h2 k2 rfl (all2 d0 d1)),.inr ⟨eX.of h1,eX.of k1,hq⟩⟩
noncomputable def jE:Key->Int
 | .inl z=>z
 | .inr _=>0
noncomputable def sumF (f:Str) (ms:List Ds):Int:=(ms.map λm=>jE (keyOf m f)).sum
theorem vG {fs:Fs}{m:Ds}{f:Str}(hF:gv fs m)(J:fs.get f=some .num):kV (keyOf m f)=.int (jE (keyOf m f)):=by
 obtain⟨e,L,I⟩:=hF.get J;unfold fC at I;obtain⟨z,rfl⟩:=I;unfold keyOf;rw[L];rfl
theorem vH {fs:Fs}{f:Str}(I:fs.get f=some .num):fs.pl f:=⟨_,I,trivial⟩
def oJ (n:Nat) (key by_:Str) (fs:Fs) (f:Str) (sp:Bool) (x0 x1:Str) (d:D) (ms:List Ds) (r:Option (List Key)):Prop:=
 (∃p,r=some p/\Rs n (.fT (jm sp x0 x1 (.rows key by_ fs))) d (some p))\/
 (∃m z,d=.dct m/\Rs n (.fT (jm sp x0 x1 (.rows key by_ fs))) d none/\m.get (rN sp x0 x1)=some (.lst (gA ms))/\m.get (tN sp x0 x1)=some (.int z)/\ms.length<64/\(∀m∈ms,gv fs m)/\((r=none/\z=sumF f ms)\/(r=some [Sum.inr (tN sp x0 x1)]/\z≠sumF f ms)))
def DO (C:Addr):Sp:=λvs H Q _=>∃v dx f r t,vs=[.ref v,.str f,.str r,.str t]/\H v=some (.ins C dx [])/\∀H',(∀c o,c≠v->H c=some o->H' c=some o)->nF H' C v dx f r t->Q .non H'
def DP:Sp:=λvs H Q _=>∃v z,vs=[v,z]/\Q (.bl false) H
def vL (C:Addr):Sp:=λvs H Q _=>∃v dx f r t D I ms J fs,vs=[.ref v,.ref D]/\nF H C v dx f r t/\H D=some (.lst I)/\fH H I ms J/\I.length<64/\(∀m∈ms,gv fs m)/\fs.get f=some .num/\∀H',Same H H'->Q (.int (sumF f ms)) H'
def vM (Pf C:Addr):Sp:=λvs H Q _=>∃v dx pk pb key by_ f xs fs sp x0 x1,vs=[.ref v,.ref pk]/\nF H C v dx f (rN sp x0 x1) (tN sp x0 x1)/\kF H pk pb key by_ f xs fs/\jn x0 x1/\fi Pf i2 i3 H/\∀q H',iZ Pf H H'->fi Pf i2 i3 H'->j4 H' sp x0 x1 pk q->Q (.ref q) H'
def DQ (C:Addr):Sp:=λvs H Q _=>∃v dx f r t J D I ms L fs,vs=[.ref v,J,.ref D]/\nF H C v dx f r t/\r≠t/\H D=some (.lst I)/\fH H I ms L/\I.length<64/\(∀m∈ms,gv fs m)/\fs.get f=some .num/\
 ∀a H',Same H H'->H a=none->H' a=some (.dK [(Sum.inr r,.ref D),(Sum.inr t,.int (sumF f ms))])->Q (.ref a) H'
def DR (iH:Addr) (n:Nat) (Pf C:Addr):Sp:=λvs H Q E=>∃v dx pk pb key by_ f xs fs sp x0 x1 src w d I ms r,vs=[.ref v,.ref pk,src,w]/\nF H C v dx f (rN sp x0 x1) (tN sp x0 x1)/\kF H pk pb key by_ f xs fs/\jn x0 x1/\fi Pf i2 i3 H/\Own H w d I/\oJ n key by_ fs f sp x0 x1 d ms r/\
 (r=none->∀u g H',iZ Pf H H'->fi Pf i2 i3 H'->Own H' u (.lst (gA ms)) g->Q u H')/\
 ∀pl,r=some pl->∀dx p H',iZ Pf H H'->fi Pf i2 i3 H'->H' dx=some (.xd [("way",.ref p)])->H' p=some (.lst (pl.map kV))->E (.ref iH) (some dx) H'
theorem sM {r t:Str}{a b:V}(h:r≠t):lz [] [(Sum.inr r,a),(Sum.inr t,b)]=[(Sum.inr r,a),(Sum.inr t,b)]:=by
 show putK (putK [] (Sum.inr r) a) (Sum.inr t) b=_;have I:putK ([]:List (Key × V)) (Sum.inr r) a=[(Sum.inr r,a)]:=rfl;rw[I];unfold putK;rw[if_neg]
 . rfl
 . simp[h]
theorem Ki {sp:Bool}{x0 x1:Str}{a b:V}{k:Kd}{rs:List Zd}(J:jn x0 x1)(hp:rs.Perm [(a,rN sp x0 x1,k),(b,tN sp x0 x1,.num)])(L:(gc rs).Pairwise sle):rs=if sp then [(b,x0,.num),(a,x1,k)] else [(a,x0,k),(b,x1,.num)]:=by
 have U:(gc rs).Nodup:=(hp.map (·.2.1)).nodup_iff.mpr (List.nodup_cons.mpr ⟨λz=>J.rt sp (List.mem_singleton.mp z),List.nodup_cons.mpr ⟨λz=>(nomatch z),Q0t⟩⟩)
 have h1:rs.Pairwise λa b=>slt a.2.1 b.2.1:=by
  have h1:=List.pairwise_map.mp L;have h2:rs.Pairwise λa b=>a.2.1≠b.2.1:=List.pairwise_map.mp U;refine(h1.and h2).imp λ{a b} ⟨x,y⟩=>?_;rcases rG x with z|z
  . exact z
  . exact absurd z y
 have I:∀y z:Zd,slt y.2.1 z.2.1->[y,z].Pairwise λa b=>slt a.2.1 b.2.1:=λy z h=>List.pairwise_cons.mpr ⟨λc hc=>by rw[List.mem_singleton.mp hc];exact h,Q1z _ _⟩;refine B5 (R:=λa b:Zd=>slt a.2.1 b.2.1) (λa b=>uT _ _) ?_ h1 ?_
 . cases sp
   . exact hp
   . exact hp.trans (List.Perm.swap _ _ _)
 . cases sp
   . exact I _ _ J.lt
   . exact I _ _ J.lt
section
variable {P:Program}{w:World}{K:W.Frag}{mg:Str->Option Value}{base:Heap}
variable {C Pf iH:Addr}
theorem Kj:f_ XZ XZ (fo (fF 23 0)):=gz
theorem Kk (T:Tb mg)(OF:me K mg C I U ab ac Y ae aa)(J:Dm K "__init__" "Beside.__init__" rM (fF 23 0) I L):eZ P w K mg base e_ (1) I L rM (DO C):=by
 refine J.F.ok Kj λvs H Q E h=>?_;obtain⟨v,dx,f,r,t,rfl,hv,q⟩:=h;refine⟨rfl,λaf A outer s nd hr hu=>?_⟩
 refine⟨_,(eV (t7 (pv 0) (pv 1) rfl)
  (eV (t7 (pv 0) (pv 2) rfl)
  (fc (t7 (pv 0) (pv 3) rfl)))),?_⟩
 ac_rfl
 refine(Zr rfl (Zr rfl ⟨v,C,dx,[],rfl,hv,OF.ct,OF.nf,by decide,?_⟩));refine(Zr rfl (Zr rfl ⟨v,C,dx,Zr rfl ⟨eW,OF.ct,OF.nr,(by show 1<1000;decide),?_⟩⟩));refine(Zr rfl (Zr rfl ⟨v,C,dx,Zr rfl ⟨eW,OF.ct,OF.nt,(by show 2<1000;decide),?_⟩⟩));exact q _ (λc o hc e=>by rw[eU hc,eU hc,eU hc];exact e) eW
theorem Kl:f_ Xl Xl (fo (fF 23 5)):=gz
theorem Km (T:Tb mg)(I:Dm K "keeps" "Beside.keeps" rO (fF 23 5) J L):eZ P w K mg base e_ (1) J L rO (DP):=by
 refine I.F.ok Kl λvs H Q E h=>?_;obtain⟨v,z,rfl,q⟩:=h;refine⟨rfl,λU A outer s Y hr hu=>?_⟩;refine⟨_,(fc (fg iw)),?_⟩
 ac_rfl
 exact q
theorem Ko:f_ Xi Xi (fo (fF 23 4)):=gz
theorem Kq (T:Tb mg)(OF:me K mg C U Y ac ae I af aa)(J:Dm K "sum_of" "Beside.sum_of" ou (fF 23 4) I L):eZ P w K mg base e_ (1) I L ou (vL C):=by
 refine J.F.ok Ko λvs H Q E h=>?_;obtain⟨v,dx,f,r,t,D,ws,ms,fl,fs,rfl,hV,hD,ab,am,ag,hf,q⟩:=h;refine⟨rfl,λan A outer s nd hr hu=>?_⟩;refine⟨_,(fc (fg (fZ (vD rfl) (by rfl) T.uY boot_sum (a_ (kr (g:=(gK 0)) (tt:=jX) (te:=(qP (gf 0) (Am K (gf 1) "field"))) (own:=["row"]) rfl (jj (N:=Xi) (sc:=fo (fF 23 4))) (mE (pv 1)) (λ_ _ _ _ _=>(gq (i:=0) (show(["row","self","rows"]:List Str).Nodup by decide +kernel) rfl (Or.inl rfl) (.inr rfl))) (λ_ _ _ _ _=>kT) (λ_ _ _ _ _=>(iF hu (pv 0) (jW (pv 1) rfl) (λ_ _=>rfl)))) c_)))),?_⟩
 ac_rfl
 obtain⟨ak,al⟩:=A3.len ab;refine(Zr rfl ⟨D,rfl,⟨_,d_.of hD⟩,nB (sy (d_.of hD)) (λi=>((ms.take i).map λm=>jE (keyOf m f)).map V.int) (by omega) (λp hp=>?_) (λi x hx add skip=>?_)⟩)
 . refine⟨p,Zr rfl ⟨d_.of eW,?_⟩⟩;rw[Q0w (by omega)];exact q _ (Same.new hp)
 . have hi:i<ws.length:=(List.getElem?_eq_some_iff.mp hx).1;have ho:=A3.at (a0:=V.non) (b0:=Ds.nil) (c0:=[]) ab i hi;have ex:ws.getD i .non=x:=by rw[Q06,hx];rfl
   rw[ex] at ho;have ah:i<ms.length:=by omega
   have hm:ms[i]? =some (ms.getD i .nil):=by rw[Q06,Q02 ah];rfl
   have hF:=ag _ (Q0r hm);generalize ms.getD i .nil=m at *;unfold Own at ho;obtain⟨rr,kvs,fq,rfl,ai,_,aj⟩:=ho
   have gl:gj H rr (.str f) (some (.int (jE (keyOf m f)))):=by
    have:=gj.k (k:=Sum.inr f) ai;rw[aj.key hF (vH hf),vG hF hf] at this;exact this
   refine⟨rfl,yes (fY (Zr rfl (Zr rfl ⟨v,C,dx,_,Zr rfl ⟨hV,OF.ct,OF.nf,rfl,rr,Zr rfl ⟨gl,add _ ?_⟩⟩⟩)))⟩;rw[Q0q,hm,Q0f,Q0f];rfl
theorem Kr:f_ Xk Xk (fo (fF 23 1)):=gz
theorem Ks (T:Tb mg)(OF:me K mg C ah I ap aq am ar ao)(U:Dm K "behind" "Beside.behind" ow (fF 23 1) I Y)(J:Dn K mg "ask_stands" ["stands"] (top 20) aa ab)(L:eZ P w K mg base e_ (1) aa ab ["stands"] (Du))(ai:Dn K mg "kind_at" m9 (top 6) aj ak)(al:eZ P w K mg base e_ (1) aj ak m9 (vo K))(ac:Dn K mg "record_of" lG (top 8) ae af)(ag:eZ P w K mg base e_ (9) ae af lG (Dy K Pf)):eZ P w K mg base e_ (10) I Y ow (vM Pf C):=by
 refine U.F.ok Kr λvs H Q E h=>?_;obtain⟨v,dx,pk,pb,key,by_,f,xs,fs,sp,x0,x1,rfl,hV,hK,hN,hT,q⟩:=h;refine⟨rfl,λaK A outer s nd hr hu=>?_⟩
 refine⟨_,(eV (kI (fx L hr J (a_ (mz (lU gg (fh (pv 1) b_) fV (fv _)) (nN (lU (uK (n:=0) hu) (fx al hr ai (a_ (fh (pv 1) b_) (a_ (jW (pv 0) rfl) c_))) (gi (a_ fV c_)) (fv _)))) c_)))
  (eV (kI (fx L hr J (a_ (lU jV (jW (pv 0) rfl) (jW (pv 0) rfl) (fv _)) c_)))
  (fc (fg (fx ag hr ac (a_ (gu (a_ (gi (a_ (jW (pv 0) rfl) (a_ (pv 1) c_))) (a_ (gi (a_ (jW (pv 0) rfl) (a_ (gi (a_ fV c_)) c_))) c_))) c_)))))),?_⟩
 ac_rfl
 have ay:fs.names.Nodup:=by
  have:=hK.W;unfold Kd.W at this;exact this.1
 refine(Zr rfl ⟨pk,_,_,Zr rfl ⟨rfl,eX.of hK.at_,rfl,rfl,Zr rfl (fY ?_)⟩⟩);refine(Zr rfl ⟨pk,_,_,Zr rfl ⟨rfl,eX.of hK.at_,rfl,Zr rfl ⟨v,C,dx,_,Zr rfl ⟨hV,OF.ct,OF.nf,rfl,pb,.str f,xs,fs,some f,rfl,hK.tu,hK.fa,ay,rfl,λu au=>?_⟩⟩⟩⟩)
 have au:KA H u .num:=by
  have e:(some f).bind fs.get=some .num:=hK.num;rw[e] at au;exact au
 refine⟨hX,λt0 az=>?_⟩;have s0:Same H (upd H t0 (.tup [.str "number"])):=Same.new az;refine vC (KA.mono (Tu.of s0) _ au) eW ⟨rfl,?_⟩;generalize upd H t0 (.tup [.str "number"])=H1 at s0;have av:=s0 _ _ hV;refine(Zr rfl ⟨v,C,dx,_,Zr rfl ⟨av,OF.ct,OF.nr,rfl,Zr rfl ⟨v,C,dx,_,Zr rfl ⟨av,OF.ct,OF.nt,rfl,rfl,?_⟩⟩⟩⟩);have e1:(!decide (V.str (rN sp x0 x1)=V.str (tN sp x0 x1)))=true:=by rw[decide_eq_false (λz=>hN.rt sp (V.str.inj z))];rfl
 rw[e1];refine⟨rfl,?_⟩;refine(Zr rfl ⟨v,C,dx,_,Zr rfl ⟨av,OF.ct,OF.nr,rfl,Zr rfl ⟨gE,λc1 aA=>?_⟩⟩⟩);have s1:Same H1 (upd H1 c1 (.tup [.str (rN sp x0 x1),.ref pk])):=Same.new aA;have g1:=eW (H:=H1) (a:=c1) (o:=.tup [.str (rN sp x0 x1),.ref pk]);generalize upd H1 c1 (.tup [.str (rN sp x0 x1),.ref pk])=H2 at s1 g1;have aB:=s1 _ _ av;refine(Zr rfl ⟨v,C,dx,_,Zr rfl ⟨aB,OF.ct,OF.nt,rfl,hX,λnk aC=>?_⟩⟩);have s2:Same H2 (upd H2 nk (.tup [.str "number"])):=Same.new aC;have g2:=eW (H:=H2) (a:=nk) (o:=.tup [.str "number"]);generalize upd H2 nk (.tup [.str "number"])=H3 at s2 g2;refine⟨gE,λc2 aD=>?_⟩;have s3:Same H3 (upd H3 c2 (.tup [.str (tN sp x0 x1),.ref nk])):=Same.new aD;have g3:=eW (H:=H3) (a:=c2) (o:=.tup [.str (tN sp x0 x1),.ref nk]);generalize upd H3 c2 (.tup [.str (tN sp x0 x1),.ref nk])=H4 at s3 g3;refine⟨gE,λl hl=>?_⟩;have s4:Same H4 (upd H4 l (.lst [.ref c1,.ref c2])):=Same.new hl;have g4:=eW (H:=H4) (a:=l) (o:=.lst [.ref c1,.ref c2]);generalize upd H4 l (.lst [.ref c1,.ref c2])=H5 at s4 g4;have aw:Same H H5:=((s0.trans s1).trans (s2.trans s3)).trans s4;have k1:=s4 _ _ (s3 _ _ (s2 _ _ g1));have k2:=s4 _ _ (s3 _ _ g2);have k3:=s4 _ _ g3;have aE:KA H5 (.ref pk) (.rows key by_ fs):=KA.mono (Tu.of aw) _ hK.ka;have aF:KA H5 (.ref nk) .num:=by unfold KA;exact⟨nk,rfl,k2⟩
 refine⟨l,[(.ref c1,rN sp x0 x1,.rows key by_ fs),(.ref c2,tN sp x0 x1,.num)],rfl,d_.of g4,λz hz=>?_,by show 2<=13;decide,hT.same aw,?_,λrs r t H6 kp aG aH aI ht ax=>?_⟩
 . rcases List.mem_cons.mp hz with e|e
   . rw[e];exact⟨c1,Zr rfl ⟨k1,aE⟩⟩
   . rw[List.mem_singleton.mp e];exact⟨c2,Zr rfl ⟨k3,aF⟩⟩
 . exact List.nodup_cons.mpr ⟨λz=>hN.rt sp (List.mem_singleton.mp z),List.nodup_cons.mpr ⟨λz=>(nomatch z),Q0t⟩⟩
 . obtain⟨ps,hP⟩:=(hT.same aw).tab;have an:Tu H5 H6:=λc xs h=>kp c _ (gN h hP (by intro z;cases z)) h;have aJ:=Ki (sp:=sp) hN aH aI;rw[aJ] at ht;refine q r H6 ((Kp.of aw).trans kp) aG ?_
   cases sp
   . exact⟨t,c1,c2,nk,ax,ht,an _ _ k1,an _ _ k3,an _ _ k2⟩
   . exact⟨t,c2,c1,nk,ax,ht,an _ _ k3,an _ _ k1,an _ _ k2⟩
end
section
variable {P:Program}{w:World}{K:W.Frag}{mg:Str->Option Value}{base:Heap}
variable {C Pf iH:Addr}
theorem Ku:f_ Xe Xe (fo (fF 23 2)):=gz
theorem Kv (T:Tb mg)(OF:me K mg C ac af J ah I ai ag)(aa:Dm K "see" "Beside.see" rP (fF 23 2) J ab)(L:Dm K "sum_of" "Beside.sum_of" ou (fF 23 4) I U)(Y:eZ P w K mg base e_ (1) I U ou (vL C)):eZ P w K mg base e_ (2) J ab rP (DQ C):=by
 have CT:=OF.ct;have ae:=OF.u;refine aa.F.ok Ku λvs H Q E h=>?_;obtain⟨v,dx,f,r,t,kv,D,ws,ms,fl,fs,rfl,hV,am,hD,ak,an,al,hf,q⟩:=h;refine⟨rfl,λao A outer s nd hr hu=>?_⟩;refine⟨_,(fc (fg (pC (kP (jW (pv 0) rfl) (pv 2) (kP (jW (pv 0) rfl) (nS (pv 0) CT ae Y (hr.mono (by decide)) L.b .nil km (a_ (pv 2) c_)) pB)) rfl rfl (by simp) (by decide)))),?_⟩
 ac_rfl
 intro p hp;have s0:Same H (upd H p (.dK [])):=Same.new hp;have g0:=eW (H:=H) (a:=p) (o:=.dK []);generalize upd H p (.dK [])=H0 at s0 g0;have aj:=s0 _ _ hV;refine(Zr rfl ⟨v,C,dx,_,Zr rfl ⟨aj,OF.ct,OF.nr,rfl,Zr rfl (Zr rfl ⟨v,C,dx,_,Zr rfl ⟨aj,OF.ct,OF.nt,rfl,?_⟩⟩)⟩⟩);refine(Zr rfl ⟨v,dx,Zr rfl ⟨aj,rfl,Zr rfl ⟨v,dx,f,r,t,D,ws,ms,fl,fs,rfl,aj,s0 _ _ hD,fH.keep (Tu.of s0) ak (λc _ o e=>s0 c o e),an,al,hf,λH1 s1=>⟨s1 _ _ g0,[(Sum.inr r,.ref D),(Sum.inr t,.int (sumF f ms))],rfl,(by show 2<=15;decide),?_⟩⟩⟩⟩);rw[sM am];exact q p _ (λc o e=>by rw[eU (ff e hp)];exact s1 _ _ (s0 _ _ e)) hp eW
theorem DS:f_ Xa Xa (fo (fF 23 3)):=gz
theorem Kw (n j:Nat)(T:Tb mg)(OF:me K mg C an J ax U L ay au)(XC:sH K mg base iH I)(ak:Dm K "put" "Beside.put" rQ (fF 23 3) U al)(ac:Dn K mg "ask_fit" rK (top 19) ao ap)(am:eZ P w K mg base (j2 P w) (j+4) ao ap rK (DG iH n))(ae:Dm K "behind" "Beside.behind" ow (fF 23 1) J af)(ag:eZ P w K mg base e_ (10) J af ow (vM Pf C))(ah:Dm K "sum_of" "Beside.sum_of" ou (fF 23 4) L ai)(aj:eZ P w K mg base e_ (1) L ai ou (vL C))(Y:Dm K "__init__" "CantPut.__init__" ot (fF 4 0) I aa)(ab:eZ P w K mg base e_ (1) I aa ot (vF K iH))(hj:10<=j):eZ P w K mg base (j2 P w) (j+5) U al rQ (DR iH n Pf C):=by
 have CT:=OF.ct;have aq:=OF.b;have ar:=OF.u;refine DE ak.F DS (λvs H Q E h=>?_) (λbe A outer s H vs Q E hr h=>?_)
 . obtain⟨v,dx,pk,pb,key,by_,f,xs,fs,sp,x0,x1,src,w,d,fp,ms,r,rfl,_⟩:=h;rfl
 obtain⟨v,dx,pk,pb,key,by_,f,xs,fs,sp,x0,x1,src,w,d,fp,ms,r,rfl,hV,hK,hN,hT,hO,hR,q1,q2⟩:=h;have nd:=DS.nd;have hu:=pF hr
 refine⟨_,(eV (kI (qK am (hr.mono (by omega)) rfl ac.m ac.F.kp ac.b .nil (JD λ_ _ _ z=>z) (a_ (nS (pv 0) CT aq ag (hr.mono (by omega)) ae.b .nil km (a_ (pv 1) c_)) (a_ (pv 3) c_))))
  (eV (fA (fw jV (iF hu (pv 3) (jW (pv 0) rfl) (λ_ _=>rfl)) (nS (pv 0) CT ar aj (hr.mono (by omega)) ah.b .nil km (a_ (iF hu (pv 3) (jW (pv 0) rfl) (λ_ _=>rfl)) c_)) (fv _)) (fc (Dl rfl XC.xi PySem.F.excBase_ValueError XC.kp ab (hr.mono (by omega)) rfl rfl XC.m Y.b Dq (a_ (gu (a_ (jW (pv 0) rfl) c_)) c_))) fy)
  (fc (fg (iF hu (pv 3) (jW (pv 0) rfl) (λ_ _=>rfl)))))),?_⟩
 ac_rfl
 refine(Zr rfl ⟨v,dx,Zr rfl ⟨hV,rfl,Zr rfl ⟨v,dx,pk,pb,key,by_,f,xs,fs,sp,x0,x1,rfl,hV,hK,hN,hT,λqk H1 aA aI aZ=>?_⟩⟩⟩);have aB:Kn H H1:=Kn.k7 aA hT;have a1:=aB _ _ (by intro ps z;cases z) hV;have a2:=hK.mono aB.tu;have aC:=hO.kn aB;have aJ:=aZ.ka a2.ka;have aK:=DN (sp:=sp) hN hK.W;rcases hR with⟨p,er,aD⟩|⟨m,z,ed,aD,a3,a4,a5,aW,aX⟩
 . refine(Zr rfl ⟨.ref qk,w,_,d,fp,some p,rfl,aJ,aK,aC,aD,λe=>(by cases e),λpl e az p' H' s' aE hp=>?_⟩)
   cases e;exact q2 p er az p' H' (aA.trans (Kp.of s')) (aI.same s') aE hp
 . subst ed;refine(Zr rfl ⟨.ref qk,w,_,_,fp,none,rfl,aJ,aK,aC,aD,λ_ H2 s2=>?_,λpl e=>(by cases e)⟩);have f7:iZ Pf H H2:=aA.trans (Kp.of s2);have aL:=aI.same s2;have av:=s2 _ _ a1;have aM:=aC.same s2;unfold Own at aM;obtain⟨a,kvs,fq,rfl,ha,_,aP⟩:=aM;obtain⟨vt,ft,a6,aQ,_⟩:=fe.val _ aP a4;obtain⟨vr,fr,aT,aF,_⟩:=fe.val _ aP a3;unfold Own at aQ;obtain⟨rfl,_⟩:=aQ;have aY:=aF;unfold Own at aF;obtain⟨D,ws,bf,rfl,hD,_,a7⟩:=aF;obtain⟨fl,aw,_⟩:=fm.rows a7;have a8:ws.length<64:=by rw[(A3.len aw).1];exact a5
   have gt:gj H2 a (.str (tN sp x0 x1)) (some (.int z)):=by have:=gj.k (k:=Sum.inr (tN sp x0 x1)) ha;rw[a6] at this;exact this
   have gr:gj H2 a (.str (rN sp x0 x1)) (some (.ref D)):=by have:=gj.k (k:=Sum.inr (rN sp x0 x1)) ha;rw[aT] at this;exact this
   refine(Zr rfl (Zr rfl ⟨v,C,dx,_,Zr rfl ⟨av,OF.ct,OF.nt,rfl,a,Zr rfl ⟨gt,?_⟩⟩⟩));refine(Zr rfl ⟨v,dx,Zr rfl ⟨av,rfl,Zr rfl (Zr rfl ⟨v,C,dx,_,Zr rfl ⟨av,OF.ct,OF.nr,rfl,a,Zr rfl ⟨gr,v,dx,f,_,_,D,ws,ms,fl,fs,rfl,av,hD,aw,a8,aW,hK.num,λH3 s3=>⟨rfl,Zr rfl ?_⟩⟩⟩⟩)⟩⟩);have aU:=s3 _ _ av;rcases aX with⟨er,ez⟩|⟨er,ez⟩
   . rw[ez];refine kq rfl ?_;have a9:gj H3 a (.str (rN sp x0 x1)) (some (.ref D)):=by have:=gj.k (k:=Sum.inr (rN sp x0 x1)) (s3 _ _ ha);rw[aT] at this;exact this
     exact(Zr rfl (Zr rfl ⟨v,C,dx,_,Zr rfl ⟨aU,OF.ct,OF.nr,rfl,a,Zr rfl ⟨a9,q1 er _ fr H3 (f7.trans (Kp.of s3)) (aL.same s3) (aY.same s3)⟩⟩⟩))
   . rw[decide_eq_false (λe=>ez (V.int.inj e))];refine fY ?_;refine(Zr rfl ⟨v,C,dx,_,Zr rfl ⟨aU,OF.ct,OF.nt,rfl,hX,λp0 ba=>⟨hX,λa0 aG=>?_⟩⟩⟩);have s4:Same H3 (upd H3 p0 (.lst [.str (tN sp x0 x1)])):=Same.new ba;have g4:=eW (H:=H3) (a:=p0) (o:=.lst [.str (tN sp x0 x1)]);generalize upd H3 p0 (.lst [.str (tN sp x0 x1)])=H4 at s4 g4 aG;refine⟨a0,p0,Zr rfl ⟨eW,d_.of (by rw[eU (ff g4 aG)];exact g4),λp az H' bb bc keep bd aE hp=>⟨rfl,az,bd,?_⟩⟩⟩
     have s5:Same H4 (rem H' a0):=λc o e=>by
      have aH:=ff e aG;rw[jO aH];exact keep c o aH (by rw[eU aH];exact e)
     have aV:=(s3.trans s4).trans s5;exact q2 _ er az p _ (f7.trans (Kp.of aV)) (aL.same aV) (by rw[jO bc];exact aE) (by rw[jO bb];exact hp)
def DT (n:Nat) (Pf C:Addr):Sp:=λvs H Q _=>∃v dx pk pb key by_ f xs fs sp x0 x1 src w d J ms r,vs=[.ref v,.ref pk,src,w]/\nF H C v dx f (rN sp x0 x1) (tN sp x0 x1)/\kF H pk pb key by_ f xs fs/\jn x0 x1/\fi Pf i2 i3 H/\Own H w d J/\oJ n key by_ fs f sp x0 x1 d ms r/\
 (r=none->∀u g I H',iZ Pf H H'->fi Pf i2 i3 H'->Own H' u (.lst (gA ms)) g->H' I=some (.tup [.str "done",u])->Q (.ref I) H')/\
 ∀pl,r=some pl->∀p I H',iZ Pf H H'->fi Pf i2 i3 H'->H' p=some (.lst (pl.map kV))->H' I=some (.tup [.str "refused",.ref p])->Q (.ref I) H'
theorem Kx:f_ ["_law_view","_law_kind_here","_law_source","_law_seen_here","_law_way_here","_law_made","e"] XN (fo (top 42)):=gz
theorem Ky (n j:Nat)(T:Tb mg)(OF:me K mg C ae af aj I ag ak ah)(XC:sH K mg base iH ac)(Y:Dn K mg "_law_put" rR (top 42) aa ab)(L:Dm K "put" "Beside.put" rQ (fF 23 3) I U)(J:eZ P w K mg base (j2 P w) (j+5) I U rQ (DR iH n Pf C)):eZ P w K mg base e_ (j+6) aa ab rR (DT n Pf C):=by
 have CT:=OF.ct;have am:=OF.p;refine Y.F.ok Kx λvs H Q E h=>?_;obtain⟨v,dx,pk,pb,key,by_,f,xs,fs,sp,x0,x1,src,w,d,fp,ms,r,rfl,hV,hK,hN,hT,hO,hR,q1,q2⟩:=h;refine⟨rfl,λar A outer s nd hr hu=>?_⟩;let Ek:XK:=λCv dd H'=>Cv=.ref iH/\∃pl dx p,r=some pl/\dd=some dx/\H' dx=some (.xd [("way",.ref p)])/\H' p=some (.lst (pl.map kV))/\iZ Pf H H'/\fi Pf i2 i3 H';have ap:∀C' dd H',Ek (.ref C') dd H'->W.subIn K (.ref C') (.ref iH)=some true:=λC' dd H' z=>by rw[z.1];exact XC.sub
 refine⟨_,(eV (fj 4 nd h9)
  (eV (fj 5 nd h9)
  (eV (JJ (Ek:=Ek) (i:=6) rfl rfl (JG (i:=5) nd rfl (.inl rfl) (JR (pv 0) CT am J (hr.mono (by omega)) L.b (a_ (pv 1) (a_ (pv 2) (a_ (pv 3) c_))))) rfl XC.m XC.ty XC.is XC.bx ap nd rfl rfl (λa=>(fc (fj 4 nd (J3 (K:=K) rfl (pv 6) rfl)))))
  (eV (fA (fw qI (pv 4) h9 (fv _)) (fc (fg (gi (a_ fV (a_ (pv 5) c_))))) fy)
  (fc (fg (gi (a_ fV (a_ (pv 4) c_))))))))),?_⟩
 ac_rfl
 refine⟨?_,λa C' dd H' na hE=>?_⟩
 . refine(Zr rfl ⟨v,dx,Zr rfl ⟨hV,rfl,Zr rfl (Zr rfl (Zr rfl ⟨v,dx,pk,pb,key,by_,f,xs,fs,sp,x0,x1,src,w,d,fp,ms,r,rfl,hV,hK,hN,hT,hO,hR,λer u g H' kp ai aq=>?_,λpl er al p H' kp ai an hp=>⟨rfl,pl,al,p,er,rfl,an,hp,kp,ai⟩⟩))⟩⟩);refine(Zr rfl ⟨rfl,Zr rfl (fY (Zr rfl ⟨gE,λtq ao=>?_⟩))⟩);have s1:Same H' (upd H' tq (.tup [.str "done",u])):=Same.new ao;exact q1 er u g tq _ (kp.trans (Kp.of s1)) (ai.same s1) (aq.same s1) eW
 . obtain⟨e,pl,al,p,er,rfl,an,hp,kp,ai⟩:=hE;injection e with e
   subst e;have s1:Same H' (upd H' a (lI a C' (some al))):=Same.new na;refine(Zr rfl ⟨a,C',al,_,.ref p,rfl,eW,s1 _ _ an,XC.cls,XC.fld,rfl,?_⟩);refine(Zr rfl ⟨rfl,Zr rfl (fL (Zr rfl ⟨gE,λtq ao=>?_⟩))⟩);have s2:=s1.trans (Same.new (o:=.tup [.str "refused",.ref p]) ao);exact q2 pl er p tq _ (kp.trans (Kp.of s2)) (ai.same s2) (s2 _ _ hp) eW
end
theorem Kz {x:Str}{ss:List Str}:inV (.str x) (ss.map V.str)=decide (x∈ss):=by
 unfold inV;rw[Q23];have:∀y:Str,((λy=>kM y (V.str x)) ∘ V.str) y=decide (y=x):=λy=>rfl
 induction ss with
 |nil=>rfl
 |cons y r I=>
  rw[Q19,I,this];by_cases e:y=x
  . rw[decide_eq_true e,decide_eq_true (show x∈y::r by rw[e];exact Q04)];rfl
  . rw[decide_eq_false e];by_cases h:x∈r
    . rw[decide_eq_true h,decide_eq_true (Q0e _ h)];rfl
    . rw[decide_eq_false h,decide_eq_false λz=>(List.mem_cons.mp z).elim (λz=>e z.symm) h];rfl
theorem DU:∀{ss:List Str},(ss.map V.str).all kh=true
 |[]=>rfl
 |x::r=>by rw[Q0x,Q1w,DU];rfl
theorem DV {α:Type} [DecidableEq α]:∀{l m:List α},l.Nodup->(∀x∈l,x∈m)->l.length<=m.length
 |[],m,_,_=>Q07 _
 |a::r,m,U,I=>by
  obtain⟨Y,n2⟩:=List.nodup_cons.mp U;have J:a∈m:=I a Q04
  have:=DV n2 (m:=m.erase a) λy L=>by
   rw[List.mem_erase_of_ne (show y≠a from λz=>Y (by rw[<-z];exact L))];exact I y (Q0e _ L)
  rw[List.length_erase_of_mem J] at this;have hp:0<m.length:=Q2n J;rw[Q0g];omega
noncomputable def cand:List Str:=["q","x","qx","xq","qqx","xqq","qxq","xqx","qqq","xxx","qxx","xxq","qq"]
theorem KC:cand.Nodup:=by decide +kernel
theorem KD:∀x∈cand,x≠"":=by decide +kernel
theorem KG {ss:List Str}(h:ss.length<=12):0<(cand.filter λx=> !decide (x∈ss)).length:=by
 rcases Q3h (cand.filter λx=> !decide (x∈ss)).length with z|z
 . have e:=List.length_eq_zero_iff.mp z
   have:=DV KC (m:=ss) λx J=>by
    by_cases I:x∈ss
    . exact I
    . have:x∈cand.filter λx=> !decide (x∈ss):=List.mem_filter.mpr ⟨J,by rw[decide_eq_false I];rfl⟩;rw[e] at this
      cases this
   have L:cand.length=13:=rfl;omega
 . exact z
noncomputable def oK (i:Nat):Stmt:=(h8 (top 38)).getD i (.Pass ⟨0,0,0,0⟩)
noncomputable def asE:Stmt->Expr| .Assign _ e _=>e|_=>.Constant .none 0 ⟨0,0,0,0⟩
noncomputable def asP:Stmt->Pos| .Assign _ _ p=>p|_=>⟨0,0,0,0⟩
noncomputable def KH:Stmt->Pos| .Assign [.Name _ p] _ _=>p|_=>⟨0,0,0,0⟩
noncomputable def KI:Expr->List Expr| .List es _=>es|_=>[]
noncomputable def KJ:Expr->Pos| .List _ p=>p|_=>⟨0,0,0,0⟩
@[irreducible] noncomputable def sN:List Expr:=KI (asE (oK 0))
@[irreducible] noncomputable def KL:Pos:=asP (oK 0)
@[irreducible] noncomputable def KN:Pos:=KH (oK 0)
@[irreducible] noncomputable def r34:Pos:=KJ (asE (oK 0))
theorem KO:h8 (top 38)=[.Assign [.Name "_law_some_here" KN] (.List sN r34) KL,oK 1,oK 2]:=by kernel_rfl
noncomputable def sC:Expr->Bool| .Constant (.str _) _ _=>true|_=>false
noncomputable def sV:Expr->V| .Constant (.str x) _ _=>.str x|_=>.non
theorem KP:sN.all sC=true:=by kernel_rfl
theorem DW:sN.map sV=cand.map V.str:=by kernel_rfl
theorem DX {X:Cx}:∀(es:List Expr),es.all sC=true->PA X es (λσ H Q=>Q (es.map sV) H)
 |[],_=>c_
 |e::r,h=>by
  rw[Q1w,Bool.and_eq_true] at h;have I:=DX (X:=X) r h.2
  cases e with
  |Constant c j pos=>
   cases c with
   |str x=>exact a_ fV I
   |_=>exact absurd h.1 (by simp[sC])
  |_=>exact absurd h.1 (by simp[sC])
def DY (K:W.Frag):Sp:=λvs H Q _=>∃a b ns n nl,∃ss:List Str,vs=[.ref a,.ref b,.ref nl]/\G0 K H a b ns n/\n<=1000000000000/\H nl=some (.lst (ss.map V.str))/\ss.length<=12/\
 ∀(x:Str) (H':Hp),SB b H H'->H' b=some (.lst [.int (n+1)])->x ∉ ss->x≠""->Q (.str x) H'
theorem KQ:f_ Xf Xc (fo (top 38)):=gz
theorem KR (T:Tb mg)(I:Dn K mg "_law_stranger" rS (top 38) J L)(U:Dn K mg "_law_next" fJ (top 25) Y aa)(ab:eZ P w K mg base e_ (1) Y aa fJ (kB K)):eZ P w K mg base e_ (2) J L rS (DY K):=by
 refine I.F.ok KQ λvs H Q E h=>?_;obtain⟨a,b,ns,n,nl,ss,rfl,g,hn,ah,ai,q⟩:=h;refine⟨rfl,λan A outer s nd hr hu=>?_⟩;rw[KO]
 refine⟨_,(eV (fj 3 nd (gu (DX sN KP)))
  (eV (qT (i:=4) nd rfl gO (g:=(gK 0)) (tt:=(kK (gI (AD K true) (gf 0) (gf 3)))) (te:=(gf 0)) (own:=["_law_name"]) rfl (jj (N:=Xf) (sc:=fo (top 38))) (mE (pv 3)) (λ_ _ _ _ _=>(gq (i:=0) (show(["_law_name","_law_script","_law_at","_law_names_here","_law_some_here","_law_free"]:List Str).Nodup by decide +kernel) rfl (Or.inl rfl) (.inr rfl))) (λ_ _ _ _ _=>(pH (fw AE (pv 0) (pv 3) (by with_unfolding_all rfl)))) (λ_ _ _ _ _=>(pv 0)))
  (fc (fg (gC (pv 4) (eY fM (fx ab hr U (a_ (pv 0) (a_ (pv 1) c_))) (fZ iu (by rfl) T.ib PySem.boot_len (a_ (pv 4) c_)))))))),?_⟩
 ac_rfl
 refine⟨by rw[DW];show 13<=sizeLine;decide,λp1 aj=>?_⟩;rw[DW];have s1:Same H (upd H p1 (.lst (cand.map V.str))):=Same.new aj;have g1:=eW (H:=H) (a:=p1) (o:=.lst (cand.map V.str));generalize upd H p1 (.lst (cand.map V.str))=H1 at s1 g1;refine(Zr rfl ⟨p1,rfl,⟨_,d_.of g1⟩,nB (sy (d_.of g1)) (λi=>((cand.take i).filter λx=> !decide (x∈ss)).map V.str) (by rw[Q03];decide) (λp2 ac=>?_) (λi x hx add skip=>?_)⟩)
 . have et:cand.take (cand.map V.str).length=cand:=Q0w (by rw[Q03];exact Q00 _);rw[et];have am:=KG ai
   have ag:∀x∈cand.filter (λx=> !decide (x∈ss)),x ∉ ss/\x≠"":=λx hx=>by
    obtain⟨h1,h2⟩:=List.mem_filter.mp hx;refine⟨λz=>?_,KD x h1⟩;rw[decide_eq_true z] at h2
    cases h2
   have ao:(cand.filter λx=> !decide (x∈ss)).length<=13:=Q2w _ _;generalize (cand.filter λx=> !decide (x∈ss))=fr at *;have s2:=s1.trans (Same.new (o:=.lst (fr.map V.str)) ac);have g2:=eW (H:=H1) (a:=p2) (o:=.lst (fr.map V.str));have pb:p2≠b:=λz=>by have:=s1 _ _ g.at_;rw[<-z,ac] at this;cases this
   generalize upd H1 p2 (.lst (fr.map V.str))=H2 at s2 g2;refine(Zr rfl (Zr rfl (Zr rfl ⟨a,b,ns,n,rfl,g.go (SB.of s2) (s2 _ _ g.at_) (by omega),hn,λr H3 r0 r1 s3 h3=>?_⟩)));have ae:=s3 p2 _ pb g2;have af:((fr.map V.str).length:Int)=(fr.length:Int):=by rw[Q03]
   have w0:=Q0i r (show(fr.length:Int)≠0 by omega);have w1:=Q0k r (show(0:Int)<(fr.length:Int) by omega);obtain⟨sx,ak,al⟩:=p9 (ss:=fr) w0 w1;have hm:=ag sx (Q0r al);exact(Zr rfl ⟨p2,Zr rfl ⟨.inl (d_.of ae),_,Zr rfl ⟨rfl,(by rw[af];omega),p2,_,_,Zr rfl ⟨rfl,d_.of ae,(by rw[af];exact ak),q sx H3 ((SB.of s2).trans s3) h3 hm.1 hm.2⟩⟩⟩⟩)
 . obtain⟨z,hz,rfl⟩:=Option.map_eq_some_iff.mp (List.getElem?_map.symm.trans hx);refine⟨rfl,Zr rfl (Zr rfl ⟨nl,Zr rfl ⟨.inl (d_.of (s1 _ _ ah)),rfl,DU,Zr rfl ?_⟩⟩)⟩;show if(if true=true then !inV (V.str z) (ss.map V.str) else inV (V.str z) (ss.map V.str))=true then _ else _
   rw[if_pos rfl,Kz];exact gm (λcc=>(Zr rfl (add _ (by rw[vv hz cc])))) (λcc=>skip (by rw[vw hz cc]))
theorem qg:∀{zs:List Zd},(gc zs).Nodup->∀{z:Zd},z∈zs->(iA zs).get z.2.1=some z.2.2
 |[],_,z,h=>nomatch h
 |y::r,I,z,h=>by
  show(if z.2.1=y.2.1 then some y.2.2 else(iA r).get z.2.1)=_;have I:(y.2.1::gc r).Nodup:=I;obtain⟨J,L⟩:=List.nodup_cons.mp I;rcases List.mem_cons.mp h with e|e
  . rw[e,if_pos rfl]
  . rw[if_neg λq=>J (by rw[<-q];exact Q1c (f:=λz:Zd=>z.2.1) e),qg L e]
theorem vN:∀{zs:List Zd}{x:Str}{k:Kd},(iA zs).get x=some k->∃z∈zs,z.2=(x,k)
 |[],_,_,h=>nomatch h
 |y::r,x,k,h=>by
  have h:(if x=y.2.1 then some y.2.2 else(iA r).get x)=some k:=h;by_cases e:x=y.2.1
  . rw[if_pos e] at h
    cases h;exact⟨y,Q04,by rw[e]⟩
  . rw[if_neg e] at h;obtain⟨z,h1,h2⟩:=vN h;exact⟨z,Q0e _ h1,h2⟩
theorem sO:∀{zs:List Zd},(iA zs).W↔∀z∈zs,z.2.2.W/\z.2.1≠""
 |[]=>⟨λ_ z h=>(nomatch h),λ_=>by show Fs.nil.W;unfold Fs.W;trivial⟩
 |y::r=>by
  constructor
  . intro h z I;have h:(Fs.cons y.2.1 y.2.2 (iA r)).W:=h;unfold Fs.W at h;rcases List.mem_cons.mp I with e|e
    . rw[e];exact⟨h.1,h.2.1⟩
    . exact sO.mp h.2.2 z e
  . intro h;show(Fs.cons y.2.1 y.2.2 (iA r)).W;unfold Fs.W;exact⟨(h y Q04).1,(h y Q04).2,sO.mpr λz I=>h z (Q0e _ I)⟩
theorem vO {d:Nat}:∀{zs:List Zd},(iA zs).dep<=d↔∀z∈zs,z.2.2.dep<=d
 |[]=>⟨λ_ z h=>(nomatch h),λ_=>Q07 _⟩
 |y::r=>by
  show max y.2.2.dep (iA r).dep<=d↔_;rw[Nat.max_le,vO (zs:=r)];constructor
  . rintro⟨h1,h2⟩ z I;rcases List.mem_cons.mp I with e|e
    . rw[e];exact h1
    . exact h2 z e
  . exact λh=>⟨h y Q04,λz I=>h z (Q0e _ I)⟩
theorem DZ {zs rs:List Zd}(I:(gc rs).Nodup)(J:∀z∈zs,z∈rs){x:Str}(h:(iA zs).pl x):(iA rs).pl x:=by
 obtain⟨k,h1,h2⟩:=h;obtain⟨⟨v,y,q⟩,L,e⟩:=vN h1
 cases e;exact⟨_,qg I (J _ L),h2⟩
noncomputable def isNum (k:Kd):Bool:=decide (k.nm="number") && oH k
theorem D0 {k:Kd}(h:isNum k=true):k=.num:=by
 cases k with
 |num=>rfl
 |gp=>exact absurd h (by decide +kernel)
 |_=>unfold isNum at h;simp[oH] at h
noncomputable def iI (zs:List Zd):List Zd:=zs.filter λz=>isNum z.2.2
noncomputable def KS (st:Stmt):Pos:=match(h8 st).getLast? with
 |some (.Return (some (.Tuple [_,_,_,.Call _ [.Call _ _ [⟨_,.Lambda _ _ _ I,_⟩] _] _ _] _ _)) _)=>I
 |_=>⟨0,0,0,0⟩
noncomputable abbrev oM:Pos:=KS (top 44)
noncomputable abbrev oN:Str:=("_law_number_kind":Str)++".<locals>."++"<lambda>"
def vP (K:W.Frag):Sp:=λvs H Q E=>rX K 0 vs H Q E\/rX K 1 vs H Q E
def D4 (K:W.Frag) (Pn:Addr):Sp:=λvs H Q _=>∃a b ns n,∃d:Nat,vs=[.ref a,.ref b,.int d]/\(d=0\/d=1)/\G0 K H a b ns n/\n<=100000000000/\fi Pn oM oN H/\
 ∀pk pb xs key by_ fs n' H',fQ b Pn H H'->fi Pn oM oN H'->H' b=some (.lst [.int n'])->n<=n'->n'<=n+100->sI H' pk pb key by_->H' pb=some (.tup xs)->FA H' xs fs->(Kd.rows key by_ fs).W->fs.dep<=2->(∃f,fs.get f=some .num)->Q (.ref pk) H'
theorem D5:f_ XB XU (fo (top 44)):=gz
theorem KU {Pn c:Addr}(T:Tb mg)(J:Dn K mg "_law_number_kind" iP (top 44) L I)(aP:I.code=.ref c)(bj:W.CodeHd base c Pn)(bm:BM mg base)(ah:Dn K mg "_law_next" fJ (top 25) ai aj)(ak:eZ P w K mg base e_ (1) ai aj fJ (kB K))(U:Dn K mg "_law_rows_kind" jx (top 31) Y aa)(ab:eZ P w K mg base e_ (7) Y aa jx (vP K))(ac:Dn K mg "_law_stranger" rS (top 38) ae af)(ag:eZ P w K mg base e_ (2) ae af rS (DY K)):eZ P w K mg base e_ (8) L I iP (D4 K Pn):=by
 refine J.F.ra aP D5 (λvs H Q E h=>?_) (λA outer s H vs Q E hr h=>?_)
 . obtain⟨a,b,ns,n,d,rfl,_⟩:=h;rfl
 obtain⟨a,b,ns,n,d,rfl,hd,g,hn,hT,q⟩:=h;have nd:=D5.nd;have hu:=pF hr
 refine⟨_,(eV (fj 3 nd (fx ak hr ah (a_ (pv 0) (a_ (pv 1) c_))))
  (eV (fj 4 nd (fx ab hr U (a_ (pv 0) (a_ (pv 1) (a_ (eY iq b_ (eY fM (pv 3) b_)) (a_ (pv 2) c_))))))
  (eV (fA (PW.pt (lb (fw gg (eY fM (eY gJ (pv 3) b_) b_) b_ (fv _)) (lP (fw mH (fZ iu (by rfl) T.ib PySem.boot_len (a_ (kr (g:=(gK 0)) (tt:=(kK (gI (q_ K 0) (gI (iO K) (gf 0) (tC (.int 1))) (mK (g9 (tC (.str "number")) iS))))) (te:=(gf 0)) (own:=["_law_pair"]) rfl (jj (N:=XB) (sc:=fo (top 44))) (kJ (fh (pv 4) b_)) (λ_ _ _ _ _=>(gq (i:=0) (show(XT:List Str).Nodup by decide +kernel) rfl (Or.inl rfl) (.inr rfl))) (λ_ _ _ _ _=>(pH (fw (uK (n:=0) hu) (fh (pv 0) b_) (gi (a_ fV c_)) (fv _)))) (λ_ _ _ _ _=>(pv 0))) c_)) b_ (fv _))))) (fc (fg (pv 4))) fy)
  (eV (qT (i:=5) nd rfl gO (g:=(gK 0)) (tt:=jX) (te:=(gI (iO K) (gf 0) (tC (.int 0)))) (own:=["_law_pair"]) rfl (jj (N:=XB) (sc:=fo (top 44))) (kJ (fh (pv 4) b_)) (λ_ _ _ _ _=>(gq (i:=0) (show(XT:List Str).Nodup by decide +kernel) rfl (Or.inl rfl) (.inr rfl))) (λ_ _ _ _ _=>kT) (λ_ _ _ _ _=>(fh (pv 0) b_)))
  (eV (fj 6 nd (eY iU (mO AG (by rfl) T.m7 boot_list (a_ (fh (pv 4) b_) c_)) (gu (a_ (gi (a_ (fx ag hr ac (a_ (pv 0) (a_ (pv 1) (a_ (pv 5) c_)))) (a_ (gi (a_ fV c_)) c_))) c_))))
  (fc (fg (gi (a_ fV (a_ (fh (pv 4) b_) (a_ (fh (pv 4) b_) (a_ (mO qM (by rfl) T.oq boot_tuple (a_ (BA (te:=(gI (iO K) (gf 0) (tC (.int 0)))) (x:="_law_pair") (N':=["","","","","","",""]) rfl T.pT boot_sorted hr rfl rfl bj bm (kW.of (N:=XB) (sc:=fo (top 44)) rfl rfl rfl rfl rfl (by decide +kernel)) rfl (λ_ _ _ _ _=>rfl) (pv 6) (λ_ _ _ _ _=>(fh (pv 0) b_))) c_)) c_)))))))))))),?_⟩
 ac_rfl
 obtain⟨bL,hP⟩:=hT.tab;have bn:Pn≠b:=gN hP g.at_ (by intro z;cases z);have bM:=g.pos;refine(Zr rfl (Zr rfl ⟨a,b,ns,n,rfl,g,by omega,λm H1 m0 m1 aG aQ=>?_⟩));have g1:=g.go aG aQ (by omega);obtain⟨wd,bo,bp,bN⟩:∃wd:Nat,1+m % 3=(wd:Int)/\1<=wd/\wd<=3:=⟨(1+m % 3).toNat,by omega,by omega,by omega⟩;refine(Zr rfl (Zr rfl (Zr rfl ⟨_,Zr rfl ⟨rfl,(by show(0:Int)<3;decide),_,Zr rfl ⟨rfl,Zr rfl ?_⟩⟩⟩)));dsimp only[iS];rw[bo]
 have rk:∀{Q':VK},(∀(pk pb:Addr) (xs:List V) (key by_:Str) (fs:Fs) (n2:Int) (H2:Hp),SB b H1 H2->H2 b=some (.lst [.int n2])->n+1<=n2->n2<=n+50->sI H2 pk pb key by_->H2 pb=some (.tup xs)->FA H2 xs fs->fs.dep<=2->(Kd.rows key by_ fs).W->fs.names.length<=3->Q' (.ref pk) H2)->vP K [.ref a,.ref b,.int wd,.int d] H1 Q' E0:=λ{Q'} q'=>by
  have bO:(ck d:Int)<=12:=by rcases hd with rfl|rfl <;> decide
  have bJ:(wd:Int) * ((ck d:Int)+1)<=3 * 13:=Q3i (by omega) (by omega) (by omega) (by omega)
  have go:rX K d [.ref a,.ref b,.int wd,.int d] H1 Q' E0:=by
   refine⟨a,b,ns,n+1,wd,rfl,bp,by omega,g1,by omega,λv key by_ fs n2 H3 sb bq l1 l2 hk br bt hl=>?_⟩;unfold KA at hk;obtain⟨pk,pb,xs,rfl,am,al,av⟩:=hk;simp only[Kd.dep] at br;exact q' pk pb xs key by_ fs n2 H3 sb bq l1 (by omega) am al av (by omega) bt (by omega)
  rcases hd with rfl|rfl
  . exact .inl go
  . exact .inr go
 refine rk λpk pb xs key by_ fs n2 H2 aT ap l1 l2 am al av aB hW h3=>?_;have sb:=aG.trans aT;have g2:=g.go sb ap (by omega);have aH:=hT.sb g.at_ sb;clear rk aG aT aQ g1;obtain⟨zs,bu,bv,hZ⟩:=vE av;subst bu bv;rw[md,ma] at h3;have aU:(gh zs).length<=1000:=by rw[j3];omega
 dsimp only[gK];refine jN (A:=ju _ _ _) (λaV H'=>aV=[some (.ref a),some (.ref b),some (.int d),some (.int m),some (.ref pk),none,none]/\Same H2 H') ?_ (λhB=>?_);rotate_left
 . refine(Zr rfl ⟨_,Zr rfl ⟨rfl,⟨by decide,by decide⟩,_,Zr rfl ⟨rfl,(by show(0:Int)<2;decide),rfl,Zr rfl (gm (λc1=>?_) (λc1=>hB _ _ ⟨rfl,Same.refl _⟩))⟩⟩⟩);refine(Zr rfl ⟨pk,_,_,Zr rfl ⟨rfl,eX.of am,rfl,pb,rfl,⟨_,eX.of al⟩,DJ (λH' s=>qf (eX.of (s _ _ al))) (λi=>gh (iI (zs.take i))) aU (λH' s p hp=>?_) (λi x H' s hx aW hl=>?_)⟩⟩)
   . rw[j3,Q0z];refine⟨p,Zr rfl ⟨.inl (d_.of eW),_,Zr rfl ⟨rfl,Zr rfl (gm (λc2=>?_) (λc2=>hB _ _ ⟨rfl,s.trans (Same.new hp)⟩))⟩⟩⟩;have s3:Same H2 (upd H' p (.lst (gh (iI zs)))):=s.trans (Same.new hp)
     have bc:0<(iI zs).length:=by
      have:=of_decide_eq_true c2;rw[j3] at this;omega
     have hz:=Q0y bc;obtain⟨h1,h2⟩:=List.mem_filter.mp hz;have aX:=hW;unfold Kd.W at aX;have bw:(gc zs).Nodup:=by rw[<-md];exact aX.1
     have hg:=qg bw h1;rw[D0 h2] at hg;have bx:=Tu.of s3;exact(Zr rfl (q pk pb _ key by_ _ n2 _ ((SB.f7 sb).trans (Kp.of s3)) (aH.same s3) (s3 _ _ ap) (by omega) (by omega) (s3 _ _ am) (s3 _ _ al) (FA.mono bx _ av) hW aB ⟨_,hg⟩))
   . obtain⟨z,hz,rfl⟩:=Option.map_eq_some_iff.mp ((Q0j (f:=λz:Zd=>z.1)).symm.trans hx);obtain⟨cz,u,ec,hc,hk⟩:=hZ z (Q0r hz);rw[ec];refine⟨rfl,Zr rfl ⟨cz,_,_,Zr rfl ⟨rfl,eX.of (s _ _ hc),rfl,hX,λt1 bz=>?_⟩⟩⟩;have s1:=s.trans (Same.new (o:=.tup [.str "number"]) bz);refine vC (KA.mono (Tu.of s1) _ hk) eW (Zr rfl (gm (λcc=>?_) (λcc=>?_)))
     . refine(Zr rfl (CS.add aW hl s1 ?_));show gh (iI (zs.take (i+1)))=gh (iI (zs.take i))++[.ref cz];unfold iI gh;rw[vv hz cc,ec]
     . refine CS.skip aW hl s1 ?_;show gh (iI (zs.take (i+1)))=gh (iI (zs.take i));unfold iI gh;rw[vw hz cc]
 rintro aV H3 ⟨rfl,s3⟩;refine(Zr rfl ⟨pk,_,_,Zr rfl ⟨rfl,eX.of (s3 _ _ am),rfl,pb,rfl,⟨_,eX.of (s3 _ _ al)⟩,nB (qf (eX.of (s3 _ _ al))) (λi=>(gc (zs.take i)).map V.str) aU (λnl bA=>?_) (λi x hx add skip=>?_)⟩⟩)
 case refine_2=>
  obtain⟨z,hz,rfl⟩:=Option.map_eq_some_iff.mp ((Q0j (f:=λz:Zd=>z.1)).symm.trans hx);obtain⟨cz,u,ec,hc,hk⟩:=hZ z (Q0r hz);rw[ec];refine⟨rfl,yes (fY (Zr rfl ⟨cz,_,_,Zr rfl ⟨rfl,eX.of (s3 _ _ hc),rfl,add _ ?_⟩⟩))⟩;unfold gc;rw[Q0q,hz,Q0f,Q0f];rfl
 rw[j3,Q0z];have s4:=s3.trans (Same.new (o:=.lst ((gc zs).map V.str)) bA);have g4:=eW (H:=H3) (a:=nl) (o:=.lst ((gc zs).map V.str));generalize upd H3 nl (.lst ((gc zs).map V.str))=H4 at s4 g4;refine(Zr rfl ⟨pk,_,_,Zr rfl ⟨rfl,eX.of (s4 _ _ am),rfl,pb,Zr rfl ⟨.inr (eX.of (s4 _ _ al)),λl1 aI=>?_⟩⟩⟩);have s5:=s4.trans (Same.new (o:=.lst (gh zs)) aI);have g5:=eW (H:=H4) (a:=l1) (o:=.lst (gh zs));have aC:upd H4 l1 (.lst (gh zs)) nl=some (.lst ((gc zs).map V.str)):=by rw[eU (ff g4 aI)];exact g4
 generalize upd H4 l1 (.lst (gh zs))=H5 at s5 g5 aC;have bd:l1≠b:=λz=>by have:=s4 _ _ ap;rw[<-z,aI] at this;cases this
 refine(Zr rfl (Zr rfl (Zr rfl ⟨a,b,ns,n2,nl,gc zs,rfl,g2.go (SB.of s5) (s5 _ _ ap) (by omega),by omega,aC,by rw[ma];omega,λx H6 aJ bB aY bC=>?_⟩)));have k6:fQ b Pn H2 H6:=(Kp.of s5).trans (SB.f7 aJ);have bD:fi Pn oM oN H6:=(aH.same s5).sb (s5 _ _ ap) aJ;have g6:=aJ _ _ bd g5;refine⟨hX,λnk bE=>⟨gE,λcx aZ=>⟨hX,λl2 aK=>?_⟩⟩⟩;have a1:=eW (H:=H6) (a:=nk) (o:=.tup [.str "number"]);have s7:Same H6 (upd H6 nk (.tup [.str "number"])):=Same.new bE;generalize upd H6 nk (.tup [.str "number"])=H7 at a1 s7 aZ aK;have a2:=eW (H:=H7) (a:=cx) (o:=.tup [.str x,.ref nk]);have s8:Same H7 (upd H7 cx (.tup [.str x,.ref nk])):=Same.new aZ;generalize upd H7 cx (.tup [.str x,.ref nk])=H8 at a2 s8 aK;have a3:=eW (H:=H8) (a:=l2) (o:=.lst [.ref cx]);have s9:Same H8 (upd H8 l2 (.lst [.ref cx])):=Same.new aK;generalize upd H8 l2 (.lst [.ref cx])=H9 at a3 s9;have a4:=(s7.trans s8).trans s9;have bF:=s9 _ _ (s8 _ _ a1);have bG:=s9 _ _ a2;refine⟨l1,l2,_,Zr rfl ⟨rfl,a4 _ _ g6,a3,Q0p (ig (by rw[j3];show zs.length+1<=1000;omega)),λl3 bH=>?_⟩⟩;have aw:Same H9 (upd H9 l3 (.lst (gh zs++[.ref cx]))):=Same.new bH
 have a5:upd H9 l3 (.lst (gh zs++[.ref cx])) l3=some (.lst (gh (zs++[(.ref cx,x,.num)]))):=by
  rw[eW];unfold gh;rw[Q0f];rfl
 generalize upd H9 l3 (.lst (gh zs++[.ref cx]))=ax at aw a5;have aq:=a4.trans aw;have a6:fQ b Pn H2 ax:=k6.trans (Kp.of aq);have aD:Tu H2 ax:=a6.tu ap aH
 have aE:ZL ax (zs++[(.ref cx,x,.num)]):=λz hz=>by
  rcases List.mem_append.mp hz with e|e
  . exact hZ.mono aD z e
  . rw[List.mem_singleton.mp e];exact⟨cx,.ref nk,rfl,aw _ _ bG,by unfold KA;exact⟨nk,rfl,aw _ _ bF⟩⟩
 have aF:=bD.same aq;have be:=aq _ _ bB;have au:=aD _ _ am;obtain⟨bK,bf⟩:=aF.tab;refine(Zr rfl ⟨pk,_,_,Zr rfl ⟨rfl,eX.of au,rfl,Zr rfl ⟨pk,_,_,Zr rfl ⟨rfl,eX.of au,rfl,Zr rfl (Dw (d_.of a5) aE (by rw[Q09];show zs.length+1<=20;omega) aF λrs D ay ar bg an bP hD=>⟨D,Zr rfl (.inl ⟨d_.of hD,λt ht=>⟨pV,λr a7=>?_⟩⟩)⟩)⟩⟩⟩⟩);have a8:Same ay (upd ay t (.tup (gh rs))):=Same.new ht;have a9:=eW (H:=ay) (a:=t) (o:=.tup (gh rs));generalize upd ay t (.tup (gh rs))=az at a8 a9 a7;have aL:Same az (upd az r (.tup [.str "rows",.str key,.str by_,.ref t])):=Same.new a7;have ba:=eW (H:=az) (a:=r) (o:=.tup [.str "rows",.str key,.str by_,.ref t]);generalize upd az r (.tup [.str "rows",.str key,.str by_,.ref t])=aM at aL ba;have ao:=a8.trans aL;have bh:Tu ax aM:=λc xs h=>ao _ _ (ar c _ (gN h bf (by intro z;cases z)) h);have bi:ZL aM rs:=λz hz=>aE.mono bh z (an.mem_iff.mp hz)
 have bI:(gc (zs++[(.ref cx,x,.num)])).Nodup:=by
  unfold Kd.W at hW;have h1:=hW.1;rw[md] at h1;unfold gc at h1 aY ⊢;rw[Q0f];refine List.nodup_append.mpr ⟨h1,List.nodup_cons.mpr ⟨λz=>(nomatch z),Q0t⟩,λy hy z hz e=>aY ?_⟩;have ez:z=x:=List.mem_singleton.mp hz;rw[<-ez,<-e];exact hy
 have aA:(gc rs).Nodup:=(an.map (λz:Zd=>z.2.1)).nodup_iff.mpr bI;have bb:∀z∈zs,z∈rs:=λz hz=>an.mem_iff.mpr (Q0s _ hz);refine q r t _ key by_ (iA rs) (n2+1) aM ?_ (bg.same ao) (ao _ _ (ar b _ (Ne.symm bn) be)) (by omega) (by omega) ba (aL _ _ a9) (Dv bi) ?_ ?_ ⟨x,?_⟩
 . exact((SB.f7 sb).trans a6).trans (λc o hc e=>ao _ _ (ar c o (λz=>hc (.inr z)) e))
 . unfold Kd.W at hW ⊢;refine⟨by rw[md];exact aA,?_,sO.mpr λz hz=>?_,DZ aA bb hW.2.2.2.1,hW.2.2.2.2.imp id (DZ aA bb)⟩
   . rw[md,ma,an.length_eq,Q09];show zs.length+1<=12;omega
   . rcases List.mem_append.mp (an.mem_iff.mp hz) with e|e
     . exact sO.mp hW.2.2.1 z e
     . rw[List.mem_singleton.mp e];exact⟨by show Kd.num.W;unfold Kd.W;trivial,bC⟩
 . refine vO.mpr λz hz=>?_;rcases List.mem_append.mp (an.mem_iff.mp hz) with e|e
   . exact vO.mp aB z e
   . rw[List.mem_singleton.mp e];show Kd.num.dep<=2
     decide
 . exact qg aA (z:=(.ref cx,x,.num)) (an.mem_iff.mpr (Q08 _ Q04))
inductive OL (H:Hp):List V->List D->Prop
 |nil:OL H [] []
 |cons {v:V} {d:D} {f:List Addr} {vs:List V} {L:List D} (h:Own H v d f) (t:OL H vs L):OL H (v::vs) (d::L)
theorem OL.len {H:Hp}{vs:List V}{L:List D}(h:OL H vs L):vs.length=L.length:=by
 induction h with
 |nil=>rfl
 |cons _ _ I=>rw[Q0g,Q0g,I]
theorem OL.app {H:Hp}{a b:List V}{A B:List D}(h:OL H a A)(k:OL H b B):OL H (a++b) (A++B):=by
 induction h with
 |nil=>exact k
 |cons h _ I=>exact .cons h I
theorem OL.take {H:Hp}{a:List V}{A:List D}(h:OL H a A)(i:Nat):OL H (a.take i) (A.take i):=by
 induction h generalizing i with
 |nil=>rw[Q3j,Q3j];exact .nil
 |cons h _ I=>
  cases i with
  |zero=>exact .nil
  |succ i=>exact .cons h (I i)
theorem OL.drop {H:Hp}{a:List V}{A:List D}(h:OL H a A)(i:Nat):OL H (a.drop i) (A.drop i):=by
 induction h generalizing i with
 |nil=>rw[Q3k,Q3k];exact .nil
 |cons h t I=>
  cases i with
  |zero=>exact .cons h t
  |succ i=>exact I i
theorem OL.same {H H':Hp}{a:List V}{A:List D}(h:OL H a A)(s:Same H H'):OL H' a A:=by
 induction h with
 |nil=>exact .nil
 |cons h _ I=>exact .cons (h.same s) I
theorem OL.own {H:Hp}{a:List V}{A:List D}(h:OL H a A):∃I,fm H a (jB A) I:=by
 induction h with
 |nil=>exact⟨[],by unfold jB fm;exact⟨rfl,rfl⟩⟩
 |@cons v d f vs L h _ J=>
  obtain⟨I,h2⟩:=J;exact⟨f++I,by unfold jB fm;exact⟨v,vs,f,I,rfl,rfl,h,h2⟩⟩
theorem OL.rows {H:Hp}:∀{vs:List V}{ms:List Ds}{I:List (List Addr)},fH H vs ms I->OL H vs (ms.map D.dct)
 |_,_,_,.nil=>.nil
 |_,_,_,.cons h t=>.cons h (OL.rows t)
theorem OL.lst {H:Hp}{p:Addr}{vs:List V}{L:List D}(hp:H p=some (.lst vs))(h:OL H vs L):∃I,Own H (.ref p) (.lst (jB L)) I:=by
 obtain⟨I,h⟩:=h.own;exact⟨p::I,by unfold Own;exact⟨p,vs,I,rfl,hp,rfl,h⟩⟩
theorem qh:∀(l:List D) (i:Nat),(jB l).at i=l[i]?
 |[],i=>by cases i <;> rfl
 |d::r,0=>rfl
 |d::r,i+1=>qh r i
theorem sP:∀l:List D,(jB l).len=l.length
 |[]=>rfl
 |d::r=>by
  show(jB r).len+1=r.length+1;rw[sP r]
theorem D6 {key by_:Str}{a b:Ds}(h:ji key by_ a b):¬ji key by_ b a:=λh2=>by
 have z:=mT _ _ _ h h2;rw[pM] at z
 cases z
theorem KW {key by_:Str}{a:Ds}:¬ji key by_ a a:=λh=>D6 h h
structure k8 (n:Nat) (key y:Str) (fs:Fs) (ms:List Ds):Prop where
 ok:∀m∈ms,gv fs m/\m.dep<=n/\m.Sm
 mf:ms.Pairwise (ji key y)
 kn:(ms.map λm=>keyOf m key).Nodup
 len:ms.length<=30
theorem KY {A B:List D}{i:Nat}(h:i<A.length):(A++B)[i]? =A[i]? :=Q1s h
theorem vQ {ms:List Ds}{i:Nat}(h:i<ms.length):(ms.map D.dct)[i]? =some (.dct (ms.getD i .nil)):=by
 rw[Q0j,Q06,Q02 h];rfl
theorem vR {n i:Nat}{key y:Str}{fs:Fs}{ms:List Ds}{e:D}{B:List D}{p:List Key}(h:k8 n key y fs ms)(hi:i<ms.length)(U:B.length<=60)(J:gP (n+1) (.fT fs) e p):gP (n+1) (.rows key y fs) (.lst (jB ((ms.map D.dct).take i++[e]++B))) (Sum.inl (i:Int)::p):=by
 have I:((ms.map D.dct).take i).length=i:=by rw[Q0o,Q03];omega
 refine .qb (rs:=ms) ?_ (Q0p hi) (λj L=>?_) h.ok h.mf h.kn (e:=e) ?_ J
 . rw[sP,Q09,Q09,I];have:=h.len;show i+1+B.length<=100;omega
 . rw[qh,Q0u,KY (by omega),Q3l,if_pos L,vQ (by omega)]
 . rw[qh,Q0u,Q15 (by omega),I,Q2o];rfl
theorem getD_mem {ms:List Ds}{i:Nat}(h:i<ms.length):ms.getD i .nil∈ms:=by
 rw[Q06,Q02 h];exact Q0y _
theorem KZ {n i:Nat}{key y:Str}{fs:Fs}{ms:List Ds}(h:k8 n key y fs ms)(hi:i<ms.length):gP (n+1) (.rows key y fs) (.lst (jB ((ms.map D.dct).take (i+1)++[.dct (ms.getD i .nil)]++(ms.map D.dct).drop (i+1)))) [Sum.inl ((i+1:Nat):Int)]:=by
 have U:(ms.map D.dct).take (i+1)++[.dct (ms.getD i .nil)]++(ms.map D.dct).drop (i+1)=(ms.take (i+1)++[ms.getD i .nil]++ms.drop (i+1)).map D.dct:=by
  rw[Q0f,Q0f,Q3m,Q3n];rfl
 rw[U];have J:(ms.take (i+1)).length=i+1:=by rw[Q0o];omega
 have I:(ms.take (i+1)++[ms.getD i .nil]++ms.drop (i+1)).length=ms.length+1:=by
  rw[Q09,Q09,J,Q11];show i+1+1+(ms.length - (i+1))=_;omega
 have L:(ms.take (i+1)++[ms.getD i .nil]++ms.drop (i+1)).take (i+1)=ms.take (i+1):=by
  rw[Q0u,Q3o (by omega),Q0w (by omega)]
 have g:∀(l:List Ds) (k:Nat),l.getD k .nil=(l[k]?).getD .nil:=λl k=>Q06 ..;refine .oA (rs:=ms.take (i+1)++[ms.getD i .nil]++ms.drop (i+1)) ?_ (Nat.succ_pos i) (by rw[I];omega) (λj hj=>?_) (λm Y=>?_) ?_ ?_ ?_
 . rw[sP,Q03,I];have:=h.len;omega
 . rw[qh,vQ (by rw[I];omega)]
 . rcases List.mem_append.mp Y with z|z
   . rcases List.mem_append.mp z with z|z
     . exact h.ok m (Q3p z)
     . rw[List.mem_singleton.mp z];exact h.ok _ (getD_mem hi)
   . exact h.ok m (Q3q z)
 . rw[L];exact h.mf.sublist (Q1e _ _)
 . rw[L];exact h.kn.sublist ((Q1e _ _).map _)
 . have e1:(ms.take (i+1)++[ms.getD i .nil]++ms.drop (i+1)).getD (i+1 - 1) .nil=ms.getD i .nil:=by
    rw[g,g,Q0u,Q1s (by omega),Q3l,if_pos (by omega),Q2p]
   have e2:(ms.take (i+1)++[ms.getD i .nil]++ms.drop (i+1)).getD (i+1) .nil=ms.getD i .nil:=by
    rw[g,Q0u,Q15 (by omega),J,Q2o];rfl
   rw[e1,e2];exact KW
theorem K0 {n i:Nat}{key y:Str}{fs:Fs}{ms:List Ds}(h:k8 n key y fs ms)(Y:0<i)(hi:i<ms.length):gP (n+1) (.rows key y fs) (.lst (jB ((ms.map D.dct).take (i - 1)++[.dct (ms.getD i .nil),.dct (ms.getD (i - 1) .nil)]++(ms.map D.dct).drop (i+1)))) [Sum.inl (i:Int)]:=by
 obtain⟨k,rfl⟩:∃k,i=k+1:=⟨i - 1,by omega⟩;rw[Q2p]
 have el:(ms.map D.dct).take k++[.dct (ms.getD (k+1) .nil),.dct (ms.getD k .nil)]++(ms.map D.dct).drop (k+1+1)=(ms.take k++[ms.getD (k+1) .nil,ms.getD k .nil]++ms.drop (k+1+1)).map D.dct:=by
  rw[Q0f,Q0f,Q3m,Q3n];rfl
 rw[el];have I:(ms.take k).length=k:=by rw[Q0o];omega
 have L:(ms.take k++[ms.getD (k+1) .nil,ms.getD k .nil]++ms.drop (k+1+1)).length=ms.length:=by
  rw[Q09,Q09,I,Q11];show k+2+(ms.length - (k+2))=_;omega
 have U:(ms.take k++[ms.getD (k+1) .nil,ms.getD k .nil]++ms.drop (k+1+1)).take (k+1)=ms.take k++[ms.getD (k+1) .nil]:=by
  rw[Q0u,List.take_append,Q0w (by omega),I,Q3r];rfl
 have J:(ms.take k++[ms.getD (k+1) .nil]).Sublist ms:=by
  have e:ms=ms.take k++ms.drop k:=(Q3s k ms).symm;rw[e,Q3o (by omega),Q0w (by omega)];refine List.Sublist.append (List.Sublist.refl _) (List.singleton_sublist.mpr ?_);rw[<-e,Q06,Q02 hi];exact List.mem_iff_getElem.mpr ⟨1,by rw[Q11];omega,by rw[List.getElem_drop];rfl⟩
 have g:∀(l:List Ds) (k:Nat),l.getD k .nil=(l[k]?).getD .nil:=λl k=>Q06 ..;refine .oA (rs:=ms.take k++[ms.getD (k+1) .nil,ms.getD k .nil]++ms.drop (k+1+1)) ?_ Y (by rw[L];omega) (λj hj=>?_) (λm hm=>?_) ?_ ?_ ?_
 . rw[sP,Q03,L];have:=h.len;omega
 . rw[qh,vQ (by rw[L];omega)]
 . rcases List.mem_append.mp hm with z|z
   . rcases List.mem_append.mp z with z|z
     . exact h.ok m (Q3p z)
     . rcases List.mem_cons.mp z with z|z
       . rw[z];exact h.ok _ (getD_mem hi)
       . rw[List.mem_singleton.mp z];exact h.ok _ (getD_mem (by omega))
   . exact h.ok m (Q3q z)
 . rw[U];exact h.mf.sublist J
 . rw[U];exact h.kn.sublist (J.map _)
 . have e1:(ms.take k++[ms.getD (k+1) .nil,ms.getD k .nil]++ms.drop (k+1+1)).getD (k+1 - 1) .nil=ms.getD (k+1) .nil:=by
    rw[g,Q0u,Q15 (by omega),I,Q2p,Q2o];rfl
   have e2:(ms.take k++[ms.getD (k+1) .nil,ms.getD k .nil]++ms.drop (k+1+1)).getD (k+1) .nil=ms.getD k .nil:=by
    rw[g,Q0u,Q15 (by omega),I,Q3r];rfl
   rw[e1,e2];refine D6 ?_;have:=List.pairwise_iff_getElem.mp h.mf k (k+1) (by omega) hi (by omega);rw[g,g,Q02 hi,Q02 (show k<ms.length by omega)];exact this
theorem K1 {n:Nat}{e:D}(I:e=.non\/e=.boo true):∀k:Kd,gP (n+1) k e []:=by
 have h1:∀z,e≠ .int z:=λz=>by rcases I with rfl|rfl <;> (intro h;cases h)
 have h2:∀z,e≠ .str z:=λz=>by rcases I with rfl|rfl <;> (intro h;cases h)
 have L:∀z,e≠ .dct z:=λz=>by rcases I with rfl|rfl <;> (intro h;cases h)
 have U:∀z,e≠ .lst z:=λz=>by rcases I with rfl|rfl <;> (intro h;cases h)
 have J:∀z,e≠ .tup z:=λz=>by rcases I with rfl|rfl <;> (intro h;cases h)
 intro k
 cases k with
 |num=>exact .num h1
 |gp=>exact .gp h2
 |fT fs=>exact .l6 λm z=>absurd z (L m)
 |rows key by_ fs=>exact .rows0 U
 |tree k=>exact .qc λxs as z=>absurd z (J xs)
 |gZ fs=>exact .qd λxs z=>absurd z (J xs)
theorem K2 {n:Nat}{fs:Fs}{m:Ds}{x:Str}(I:x∈fs.names):gP (n+1) (.fT fs) (.dct (m.del x)) []:=
 .l6 λJ e=>.inr ⟨x,I,by cases e;exact Ds.vi _ _⟩
theorem K3 {n i:Nat}{fs:Fs}{m:Ds}{x:Str}{k:Kd}{e:D}(he:e=.non\/e=.boo true)(I:fs.names.Nodup)(L:fs.at i=some (x,k))(U:gv fs m)(hd:m.dep<=n+1)(hs:m.Sm):gP (n+1+1) (.fT fs) (.dct (m.upd x e)) [Sum.inr x]:=by
 have aa:x∈m.names:=by rw[U.names];exact Fs.oB (Fs.lE I L)
 refine .lH (CD (by rw[Ds.sj];exact U.names)) L (λj z q hj hz=>?_) (Ds.vj e aa) (K1 he k);obtain⟨d,Y,J⟩:=U.get (Fs.lE I hz)
 have ab:z≠x:=λw=>by
  subst w;have:=Fs.vy I hz L;omega
 exact⟨d,by rw[Ds.CF ab];exact Y,J,Q0h (Ds.rA Y) hd,Ds.rZ hs Y⟩
end Pb
namespace L2
structure ic (X:Cx) (e:Expr) (t:TE):Prop where
 w:PE X e t
def sQ:List TE->TA
 |[]=>iS
 |t::r=>g9 t (sQ r)
inductive gD (X:Cx):List Expr->List TE->Prop
 |nil:gD X [] []
 |cons {e:Expr} {es:List Expr} {t:TE} {ts:List TE} (h:ic X e t) (hs:∀es,starEach (e::es) X.env=(false,eval e X.env)::starEach es X.env) (r:gD X es ts):gD X (e::es) (t::ts)
section
variable {X:Cx}{e:Expr}{es:List Expr}{te:TE}{ts:List TE}{pos:Pos}
theorem gD.pa (h:gD X es ts):PA X es (sQ ts):=by
 induction h with
 |nil=>exact c_
 |cons h I _ J=>exact a_ h.w J (I _)
theorem gD.lst (h:gD X es ts):ic X (.List es pos) (Ao (sQ ts)):=⟨gu h.pa⟩
theorem gD.tup {x1}(h:gD X es ts):ic X (.Tuple es x1 pos) (mK (sQ ts)):=⟨gi h.pa⟩
theorem ic.ix {r:R2}{a b:Expr}{ta tb:TE}(I:pd X r)(J:ic X a ta)(L:PE X b tb)(U:qL b):ic X (.Subscript a b pos) (gI r ta tb):=⟨lV I J.w L U⟩
structure ja (X:Cx) (ss:List Stmt) (t:TS):Prop where
 w:iN X ss t
theorem ic.ret (h:ic X e te):ja X [.Return (some e) pos] (tM te):=⟨fc (fg h.w)⟩
theorem ja.cons {s:Stmt}{ss:List Stmt}{t u:TS}(h:PS X s t)(r:ja X ss u):ja X (s::ss) (qC t u):=⟨eV h r.w⟩
theorem sR {c:Expr}{a b:List Stmt}{tc:TT}{t u:TS}(hc:PT X c tc)(I:ja X a t)(J:iN X b u):PS X (.If c a b pos) (ju tc t u):=fA hc I.w J
structure vS (X:Cx) (s:Stmt) (t:TS):Prop where
 w:PS X s t
theorem ja.K4 {s:Stmt}{ss:List Stmt}{t u:TS}(h:vS X s t)(r:ja X ss u):ja X (s::ss) (qC t u):=⟨eV h.w r.w⟩
theorem ja.vT {s:Stmt}{t:TS}(h:vS X s t):ja X [s] t:=⟨fc h.w⟩
theorem ic.set {i:Nat}{x:Str}{pos':Pos}(I:X.N.Nodup)(hi:X.N[i]? =some x)(J:Loc X.env.scope x)(L:ic X e te)(U:swapsWith e (some (.Name x pos')) pos.line X.env=pure false)(Y:X.fn x=true\/X.env.scope.names.lookup x=some .local):vS X (.Assign [.Name x pos'] e pos) (jT te (gK i)):=⟨tQ I hi J L.w U Y⟩
end
end L2
namespace Pb
open L2 PyProof.Rows
theorem oO {tA tB:TE}{D:Ends}{σ:L2.St}{H:Hp}(h:tA σ H λx H1=>tB σ H1 λy H2=>2<=sizeLine/\∀p,H2 p=none->D.rt (.ref p) (upd H2 p (.tup [x,y]))):tM (mK (g9 tA (g9 tB iS))) D σ H:=h
theorem qi {K:W.Frag}{σ:L2.St}{H:Hp}{Q:VK}{tB:TE}{q3:Nat}{tI tJ:TE}{pr:Addr}{I:List V}{L L2:List D}{i j:Nat}(h3:σ[q3]? =some (some (.ref pr)))(aa:H pr=some (.lst I))(hL:OL H I L)(hl:L.length<=60)
 (hI:∀(H1:Hp) (U:VK),U (.int (i:Int)) H1->tI σ H1 U) (hJ:∀(H1:Hp) (U:VK),U (.int (j:Int)) H1->tJ σ H1 U)
 (hB:∀(H1:Hp) (U:VK),Same H H1->(∀p J H',Same H1 H'->H' p=some (.lst J)->OL H' J L2->U (.ref p) H')->tB σ H1 U) (h2:L2.length<=2)
 (q:∀p fp H',Same H H'->Own H' (.ref p) (.lst (jB (L.take i++L2++L.drop j))) fp->Q (.ref p) H'):
 gI uq (gI uq (ue (ui K) (gf q3) ub (uc tI)) tB) (ue (ui K) (gf q3) (uc tJ) ub) σ H Q:=by
 have ai:=hL.len;refine⟨_,h3,hI _ _ (Zr rfl ⟨pr,I,rfl,d_.of aa,λp1 ae=>?_⟩)⟩;rw[Js];have s1:Same H (upd H p1 (.lst (I.take i))):=Same.new ae;have g1:=eW (H:=H) (a:=p1) (o:=.lst (I.take i));generalize upd H p1 (.lst (I.take i))=H1 at s1 g1;refine hB H1 _ s1 λp2 J H2 s2 g2 o2=>?_;have l2:=o2.len;refine⟨p1,p2,_,Zr rfl ⟨rfl,s2 _ _ g1,g2,Q0p (ig (by rw[Q0o];omega)),λp3 af=>?_⟩⟩;have s3:Same H2 (upd H2 p3 (.lst (I.take i++J))):=Same.new af;have g3:=eW (H:=H2) (a:=p3) (o:=.lst (I.take i++J));generalize upd H2 p3 (.lst (I.take i++J))=H3 at s3 g3;have ab:=(s1.trans s2).trans s3;refine⟨_,h3,hJ _ _ (Zr rfl ⟨pr,I,rfl,d_.of (ab _ _ aa),λp4 ag=>?_⟩)⟩;rw[Jt];have s4:Same H3 (upd H3 p4 (.lst (I.drop j))):=Same.new ag;have g4:=eW (H:=H3) (a:=p4) (o:=.lst (I.drop j));generalize upd H3 p4 (.lst (I.drop j))=H4 at s4 g4;refine⟨p3,p4,_,Zr rfl ⟨rfl,s4 _ _ g3,g4,Q0p (ig (by rw[Q09,Q0o,Q11];omega)),λp5 ah=>?_⟩⟩;have s5:Same H4 (upd H4 p5 (.lst (I.take i++J++I.drop j))):=Same.new ah;have Y:=(ab.trans s4).trans s5;have ho:=((hL.same Y).take i).app ((o2.same ((s3.trans s4).trans s5))) |>.app ((hL.same Y).drop j);obtain⟨fp,ac⟩:=ho.lst eW;exact q p5 fp _ Y ac
theorem OL.pick {H:Hp}{vs:List V}{L:List D}{z:Int}(h:OL H vs L)(h0:0<=z)(h1:z<L.length):∃v d f,gW vs z=some v/\d∈L/\Own H v d f/\d=L.getD z.toNat .non:=by
 obtain⟨j,rfl⟩:∃j:Nat,z=(j:Int):=⟨z.toNat,by omega⟩
 have:∀{vs:List V} {L:List D},OL H vs L->∀j:Nat,j<L.length->∃v d f,vs[j]? =some v/\d∈L/\Own H v d f/\d=L.getD j .non:=by
  intro vs L h
  induction h with
  |nil=>intro j I;exact absurd I (by simp)
  |@cons v d f vs L h _ J=>
   intro j I
   cases j with
   |zero=>exact⟨v,d,f,rfl,Q04,h,rfl⟩
   |succ j=>
    obtain⟨U,d',Y,a,b,c,e⟩:=J j (by simpa using I);exact⟨U,d',Y,a,Q0e _ b,c,e⟩
 obtain⟨v,d,f,a,b,c,e⟩:=this h j (by omega);exact⟨v,d,f,gL a,b,c,by rw[Q1u];exact e⟩
theorem D7:∀l:List Addr,∃b:Addr,∀c∈l,c<b
 |[]=>⟨0,λc h=>by cases h⟩
 |a::r=>by
  obtain⟨b,h⟩:=D7 r;refine⟨max (a+1) b,λc hc=>?_⟩;rcases List.mem_cons.mp hc with e|e
  . rw[e];exact Q0b (Q1 _) (Q2 _ _)
  . exact Q0b (h c e) (Q20 _ _)
theorem fe.K5 {H:Hp}{kvs:List (Key × V)}{m:Ds}{J:List Addr}{x:Str}(h:fe H kvs m J):∃I,fe H (ly kvs (Sum.inr x)) (m.del x) I:=by
 obtain⟨b,L⟩:=D7 J;obtain⟨I,h',_⟩:=jk.del (b:=b) (x:=x) ⟨J,h,λz=>Q0l _ (L b z)⟩;exact⟨I,h'⟩
def D8 (K:W.Frag) (N:Nat):Sp:=λvs H Q _=>∃a b ns n pk pb key y xs fs I J ms L,vs=[.ref a,.ref b,.ref pk,.ref I]/\G0 K H a b ns n/\n<=1000000000000/\sI H pk pb key y/\H pb=some (.tup xs)/\FA H xs fs/\(Kd.rows key y fs).W/\H I=some (.lst J)/\fH H J ms L/\k8 (N+1) key y fs ms/\b ∉ L.flatten/\I≠b/\
 ∀t w u d U r H',SB b H H'->H' b=some (.lst [.int (n+1)])->H' t=some (.tup [w,u])->Own H' w d U->Rs (N+3) (.rows key y fs) d r->(r=none->d=.lst (gA ms))->jC H' u r->(∀pl,r=some pl->pl.length<=100)->Q (.ref t) H'
variable {P:Program}{w:World}{K:W.Frag}{mg:Str->Option Value}{base:Heap}
theorem K6:f_ ["_law_script","_law_at","_law_kind_here","_law_rows_here","_law_m","_law_n","_law_row","_law_name"] XQ (fo (top 41)):=gz
theorem K7 (N:Nat)(T:Tb mg)(aa:Dn K mg "_law_spoilt" rT (top 41) ab ac)(ae:Dn K mg "_law_next" fJ (top 25) af ag)(ah:eZ P w K mg base e_ (1) af ag fJ (l4 K)):eZ P w K mg base e_ (2) ab ac rT (D8 K N):=by
 refine aa.F.ok K6 λvs H Q E h=>?_;obtain⟨a,b,ns,n,pk,pb,key,y,xs,fs,pr,ws,ms,fl,rfl,g,hn,a2,a3,a4,hW,a5,aJ,hM,a6,aU,q⟩:=h;refine⟨rfl,λbw A outer s nd hr hu=>?_⟩
 refine⟨_,(eV (fj 4 nd (fx ah hr ae (a_ (pv 0) (a_ (pv 1) c_))))
  (eV (fA (fw gg (eY fM (pv 4) b_) b_ (fv _)) (fc (fg (gi (a_ (pv 3) (a_ h9 c_))))) fy)
  (eV (sR (PW.pt (jb (fw gg (eY fM (eY gJ (pv 4) b_) b_) b_ (fv _)) (jt (fw gg (fZ iu (by rfl) T.ib PySem.boot_len (a_ (pv 3) c_)) b_ (fv _))))) (ic.ret (gD.tup (gD.cons (ic.ix uh (gD.lst (gD.cons (ic.mk h9) (λ_=>rfl) (gD.cons (ic.mk qQ) (λ_=>rfl) (gD.cons (ic.mk fV) (λ_=>rfl) (gD.cons (gD.tup gD.nil) (λ_=>rfl) (gD.cons (ic.mk b_) (λ_=>rfl) (gD.cons (ic.mk iw) (λ_=>rfl) gD.nil))))))) (eY fM (eY gJ (pv 4) b_) b_) (λ_ _=>rfl)) (λ_=>rfl) (gD.cons (gD.lst gD.nil) (λ_=>rfl) gD.nil)))) fy)
  (eV (fj 5 nd (eY fM (eY gJ (pv 4) b_) (fZ iu (by rfl) T.ib PySem.boot_len (a_ (pv 3) c_))))
  (eV (fj 6 nd (mO ID (by rfl) T.uX boot_dict (a_ (gC (pv 3) (pv 5)) c_)))
  (eV (fA (fw gg (eY fM (eY gJ (pv 4) b_) b_) b_ (fv _)) (fc (fg (gi (a_ (eY iU (eY iU (jJ kg (pv 3) jH (jI (pv 5))) (gu (a_ (gC (gu (a_ h9 (a_ (gu c_) (a_ fV (a_ b_ c_))))) (eY fM (eY gJ (pv 4) b_) b_)) c_))) (jJ kg (pv 3) (jI (eY iq (pv 5) b_)) jH)) (a_ (gu (a_ (pv 5) c_)) c_))))) fy)
  (eV (fA (fw gg (eY fM (eY gJ (pv 4) b_) b_) b_ (fv _)) (fc (fg (gi (a_ (eY iU (eY iU (jJ kg (pv 3) jH (jI (eY iq (pv 5) b_))) (gu (a_ (pv 6) c_))) (jJ kg (pv 3) (jI (eY iq (pv 5) b_)) jH)) (a_ (gu (a_ (eY iq (pv 5) b_) c_)) c_))))) fy)
  (eV (fA (PW.pt (lb (fw gg (eY fM (eY gJ (pv 4) b_) b_) b_ (fv _)) (lP (fw mH (pv 5) b_ (fv _))))) (fc (fg (gi (a_ (eY iU (eY iU (jJ kg (pv 3) jH (jI (eY jd (pv 5) b_))) (gu (a_ (gC (pv 3) (pv 5)) (a_ (gC (pv 3) (eY jd (pv 5) b_)) c_)))) (jJ kg (pv 3) (jI (eY iq (pv 5) b_)) jH)) (a_ (gu (a_ (pv 5) c_)) c_))))) fy)
  (eV (fj 7 nd (fh (fh (fh (pv 2) b_) (eY fM (eY gJ (pv 4) b_) (fZ iu (by rfl) T.ib PySem.boot_len (a_ (fh (pv 2) b_) c_)))) b_))
  (eV (fA (fw gg (eY fM (eY gJ (pv 4) b_) b_) b_ (fv _)) (eV (kI (mP PySem.F.plainAttrs_dict PySem.F.slot_dict_pop PySem.F.type_dict_pop IF (pv 6) (a_ (pv 7) c_)))
  (fc (fg (gi (a_ (eY iU (eY iU (jJ kg (pv 3) jH (jI (pv 5))) (gu (a_ (pv 6) c_))) (jJ kg (pv 3) (jI (eY iq (pv 5) b_)) jH)) (a_ (gu (a_ (pv 5) c_)) c_)))))) fy)
  (eV (nW hu (pv 6) (pv 7) (gC (gu (a_ h9 (a_ iw c_))) (eY fM (eY gJ (pv 4) b_) b_)) rfl)
  (fc (fg (gi (a_ (eY iU (eY iU (jJ kg (pv 3) jH (jI (pv 5))) (gu (a_ (pv 6) c_))) (jJ kg (pv 3) (jI (eY iq (pv 5) b_)) jH)) (a_ (gu (a_ (pv 5) (a_ (pv 7) c_))) c_)))))))))))))))),?_⟩
 ac_rfl
 refine(Zr rfl (Zr rfl ⟨a,b,ns,n,rfl,g,hn,λH1 ar a7=>?_⟩));have a8:=rh ns (n+1);generalize nx ns (n+1)=m at a8;have ay:=ar.tu g.at_;have Y:fH H1 ws ms fl:=fH.keep ay aJ λc hc o e=>ar c o (λz=>a6 (by rw[<-z];exact hc)) e;have hL:=OL.rows Y;have U:H1 pr=some (.lst ws):=ar _ _ aU a5;have aC:=ay _ _ a2;have aD:=ay _ _ a3;have aE:=FA.mono ay fs a4;have bx:ws.length=ms.length:=(A3.len Y).1;have au:(ms.map D.dct).length<=60:=by rw[Q03];have:=hM.len;omega
 have bz:=hM.len;unfold Kd.W at hW;obtain⟨aF,bA,bB,aV,bC⟩:=hW
 have ret:∀(w u:V) (L:Hp) (d:D) (fp:List Addr) (r:Option (List Key)),Same H1 L->Own L w d fp->Rs (N+3) (.rows key y fs) d r->(r=none->d=.lst (gA ms))->jC L u r->(∀pl,r=some pl->pl.length<=100)->2<=sizeLine/\∀p,L p=none->Q (.ref p) (upd L p (.tup [w,u])):=λw u L d fp r s5 hO hR hl hP aW=>
  ⟨by decide,λp hp=>by
    have sp:Same L (upd L p (.tup [w,u])):=Same.new hp;refine q p w u d fp r _ (λc o hc e=>sp _ _ (s5 _ _ (ar c o hc e))) (sp _ _ (s5 _ _ a7)) eW (hO.same sp) hR hl ?_ aW
    cases r with
    |none=>exact hP
    |some pl=>
     obtain⟨l,e,hl⟩:=hP;exact⟨l,e,sp _ _ hl⟩⟩
 clear q g ar hn;refine(Zr rfl ⟨_,Zr rfl ⟨rfl,(by show(0:Int)<_;decide),rfl,Zr rfl (gm (λc=>?_) (λc=>?_))⟩⟩)
 . refine oO (Zr rfl ?_);refine ret (.ref pr) .non H1 (.lst (gA ms)) _ none (Same.refl _) (nE U Y) ⟨?_,?_,?_⟩ (λ_=>rfl) rfl (λpl e=>by cases e)
   . change fC _ _;unfold fC;exact⟨ms,rfl,λm hm=>(hM.ok m hm).1,hM.mf,hM.kn⟩
   . have:=rn (l:=ms) (n:=N+1) λm hm=>(hM.ok m hm).2.1;simp only[D.dep];omega
   . unfold D.Sm;refine⟨by rw[qa];omega,r8 λm hm=>?_⟩;unfold D.Sm;exact⟨by rw[<-ni,(hM.ok m hm).1.names];omega,(hM.ok m hm).2.2⟩
 have Ri:∀{d:D} {pl:List Key},gP (N+2) (.rows key y fs) d pl->pl.length<=100->Rs (N+3) (.rows key y fs) d (some pl):=λh hl=>⟨h.up,by omega⟩;refine(Zr rfl ⟨_,Zr rfl ⟨rfl,⟨by decide,by decide⟩,_,Zr rfl ⟨rfl,(by show(0:Int)<6;decide),rfl,Zr rfl (gm (λc1=>fY ?K8) (λc1=>(Zr rfl ⟨pr,Zr rfl ⟨.inl (d_.of U),rfl,Zr rfl (gm (λc2=>?bad2) (λc2=>?go))⟩⟩)))⟩⟩⟩)
 case K8|bad2=>
  refine λp1 h1=>⟨Q07 _,λp2 h2=>⟨jD (show 6<=2000 by decide),λp3 h3=>?_⟩⟩;have s1:=Same.new (o:=.dK []) h1;have s2:=Same.new (o:=.tup []) h2;have s3:=Same.new (o:=.lst [.non,.ref p1,.str "",.ref p2,.int 0,.bl true]) h3;have g1:=s3 _ _ (s2 _ _ (eW (H:=H1) (a:=p1) (o:=.dK [])));have g2:=s3 _ _ (eW (H:=upd H1 p1 (.dK [])) (a:=p2) (o:=.tup []));have g3:=eW (H:=upd (upd H1 p1 (.dK [])) p2 (.tup [])) (a:=p3) (o:=.lst [.non,.ref p1,.str "",.ref p2,.int 0,.bl true]);have an:=(s1.trans s2).trans s3;generalize upd (upd (upd H1 p1 (.dK [])) p2 (.tup [])) p3 (.lst [.non,.ref p1,.str "",.ref p2,.int 0,.bl true])=G at g1 g2 g3 an
  have hO:OL G [.non,.ref p1,.str "",.ref p2,.int 0,.bl true] [.non,.dct .nil,.str "",.tup .nil,.int 0,.boo true]:=by
   refine .cons (f:=[]) ?_ (.cons (f:=[p1]) ?_ (.cons (f:=[]) ?_ (.cons (f:=[]) ?_ (.cons (f:=[]) ?_ (.cons (f:=[]) ?_ .nil)))))
   . unfold Own;exact⟨rfl,rfl⟩
   . unfold Own;exact⟨p1,[],[],rfl,g1,rfl,by unfold fe;exact⟨rfl,rfl⟩⟩
   . unfold Own;exact⟨rfl,rfl⟩
   . unfold Own;exact⟨p2,[],rfl,g2,by unfold fm;exact⟨rfl,rfl⟩⟩
   . unfold Own;exact⟨rfl,rfl⟩
   . unfold Own;exact⟨rfl,rfl⟩
  have z0:0<=m / 12 % 6/\m / 12 % 6<6:=⟨Q0i _ (by decide),Q0k _ (by decide)⟩;obtain⟨u,d,f,av,az,aw,_⟩:=hO.pick z0.1 z0.2;refine(Zr rfl ⟨_,Zr rfl ⟨rfl,⟨by decide,by decide⟩,_,Zr rfl ⟨rfl,(by show(0:Int)<6;decide),p3,_,_,u,rfl,rfl,d_.of g3,av,?_⟩⟩⟩);refine⟨Q07 _,λp4 h4=>?_⟩;have s4:=Same.new (o:=.lst []) h4
  have a9:∀xs,d≠ .lst xs:=by
   intro xs z;subst z;simp at az
  exact ret u (.ref p4) _ d f (some []) (an.trans s4) (aw.same s4) (Ri (.rows0 a9) (by decide)) (λe=>by cases e) ⟨p4,rfl,eW⟩ (λpl e=>by cases e;decide)
 have bD:0<ws.length:=by
  rcases Q3h ws.length with z|z
  . exact absurd (decide_eq_true (show V.int (ws.length:Nat)=V.int 0 by rw[z];rfl)) c2
  . exact z
 obtain⟨i,ei⟩:∃i:Nat,m / 12 % (ws.length:Int)=(i:Int):=⟨(m / 12 % (ws.length:Int)).toNat,by have:=Q0i (m / 12) (show(ws.length:Int)≠0 by omega);omega⟩;have hi:i<ws.length:=by have:=Q0k (m / 12) (show(0:Int)<ws.length by omega);omega
 have ao:i<ms.length:=by omega
 have aA:∀j,j<ws.length->∃rr kvs fq,ws[j]? =some (.ref rr)/\H1 rr=some (.dK kvs)/\fe H1 kvs (ms.getD j .nil) fq:=λj hj=>by
  have h:=A3.at (a0:=V.non) (b0:=Ds.nil) (c0:=[]) Y j hj;unfold Own at h;obtain⟨rr,kvs,fq,e,aB,_,ai⟩:=h;exact⟨rr,kvs,fq,by rw[<-e,Q06,Q02 hj];rfl,aB,ai⟩
 obtain⟨rr,kvs,fq,ba,aB,ai⟩:=aA i hi;have aK:gW ws (m / 12 % (ws.length:Int))=some (.ref rr):=by rw[ei];exact gL ba
 have ap:=hM.ok _ (getD_mem ao);refine(Zr rfl ⟨_,Zr rfl ⟨rfl,⟨by decide,by decide⟩,Zr rfl ⟨pr,Zr rfl ⟨.inl (d_.of U),_,Zr rfl ⟨rfl,by omega,?_⟩⟩⟩⟩⟩);refine(Zr rfl (Zr rfl ⟨pr,_,_,Zr rfl ⟨rfl,d_.of U,aK,rr,kvs,rfl,aB,λl hl=>?_⟩⟩));have s2:Same H1 (upd H1 l (.dK kvs)):=Same.new hl;have aq:=eW (H:=H1) (a:=l) (o:=.dK kvs);generalize upd H1 l (.dK kvs)=H2 at s2 aq;have al:=s2 _ _ U;have aG:=hL.same s2
 have bb:∀I,Same H2 I->Own I (.ref l) (.dct (ms.getD i .nil)) (l::fq):=λI s3=>by
  unfold Own;exact⟨l,kvs,fq,rfl,s3 _ _ aq,rfl,fe.same (s2.trans s3) ai⟩
 have vI:∀(I:Hp) (J:VK),J (.int (i:Int)) I->J (.int (m / 12 % (ws.length:Int))) I:=λI J h=>by rw[ei];exact h
 have vJ:∀(I:Hp) (J:VK),J (.int ((i+1:Nat):Int)) I->J (.int (m / 12 % (ws.length:Int)+1)) I:=λI J h=>by rw[ei];exact h
 have bl:∀k,((ms.map D.dct).drop k).length<=60:=λk=>by rw[Q11,Q03];omega
 have ll:∀(j k:Nat) (L2:List D),L2.length<=2->((ms.map D.dct).take j++L2++(ms.map D.dct).drop k).length<64:=λj k L2 h2=>by
  rw[Q09,Q09,Q0o,Q11,Q03];have:=Nat.min_le_right j ms.length;have:=Nat.min_le_left j ms.length;omega
 have am:∀(w:V) (fp:List Addr) (L:Hp) (L2:List D) (j k:Nat) (pl:List Key),Same H1 L->Own L w (.lst (jB ((ms.map D.dct).take j++L2++(ms.map D.dct).drop k))) fp->L2.length<=2->gP (N+2) (.rows key y fs) (.lst (jB ((ms.map D.dct).take j++L2++(ms.map D.dct).drop k))) pl->pl.length<=100->∀ax:List V,ax=pl.map kV->∀p4,L p4=none->2<=sizeLine/\∀p,upd L p4 (.lst ax) p=none->Q (.ref p) (upd (upd L p4 (.lst ax)) p (.tup [w,.ref p4])):=λw fp L L2 j k pl s5 hO h2 bc aL ax e4 p4 h4=>by
  have s6:=Same.new (o:=.lst ax) h4;exact ret w (.ref p4) _ _ fp (some pl) (s5.trans s6) (hO.same s6) (Ri bc aL) (λe=>by cases e) ⟨p4,rfl,by rw[eW,e4]⟩ (λbE e=>by cases e;exact aL)
 refine(Zr rfl ⟨_,Zr rfl ⟨rfl,⟨by decide,by decide⟩,_,Zr rfl ⟨rfl,(by show(0:Int)<6;decide),rfl,Zr rfl (gm (λc3=>?_) (λc3=>?_))⟩⟩⟩)
 . -- a br bu is no aA
   have z0:0<=m / 420 % 4/\m / 420 % 4<4:=⟨Q0i _ (by decide),Q0k _ (by decide)⟩
   have aM:([D.non,.lst .nil,.str "row",.int 7].getD (m / 420 % 4).toNat .non)∈[D.non,.lst .nil,.str "row",.int 7]:=by
    rw[Q06,Q02 (by show(m / 420 % 4).toNat<4;omega)];exact Q0y _
   have aX:∀m',([D.non,.lst .nil,.str "row",.int 7].getD (m / 420 % 4).toNat .non)≠ .dct m':=λm' z=>by
    rw[z] at aM;simp at aM
   refine oO (qi (q3:=3) (i:=i) (j:=i+1) (L2:=[[D.non,.lst .nil,.str "row",.int 7].getD (m / 420 % 4).toNat .non]) rfl al aG au (λI J h=>(Zr rfl (vI I J h))) (λI J h=>(Zr rfl ⟨_,Zr rfl ⟨rfl,vJ I J h⟩⟩)) (λI J s3 k=>?_) (show 1<=2 by decide) λp fp L s5 hO=>?_)
   . refine⟨Q07 _,λq1 h1=>⟨jD (show 4<=2000 by decide),λq2 h2=>?_⟩⟩;have t1:=Same.new (o:=.lst []) h1;have t2:=Same.new (o:=.lst [.non,.ref q1,.str "row",.int 7]) h2;have g1:=t2 _ _ (eW (H:=I) (a:=q1) (o:=.lst []));have g2:=eW (H:=upd I q1 (.lst [])) (a:=q2) (o:=.lst [.non,.ref q1,.str "row",.int 7]);have aP:=t1.trans t2;generalize upd (upd I q1 (.lst [])) q2 (.lst [.non,.ref q1,.str "row",.int 7])=G at g1 g2 aP
     have hO:OL G [.non,.ref q1,.str "row",.int 7] [.non,.lst .nil,.str "row",.int 7]:=by
      refine .cons (f:=[]) ?_ (.cons (f:=[q1]) ?_ (.cons (f:=[]) ?_ (.cons (f:=[]) ?_ .nil)))
      . unfold Own;exact⟨rfl,rfl⟩
      . unfold Own;exact⟨q1,[],[],rfl,g1,rfl,by unfold fm;exact⟨rfl,rfl⟩⟩
      . unfold Own;exact⟨rfl,rfl⟩
      . unfold Own;exact⟨rfl,rfl⟩
     obtain⟨u,d,f,av,az,aw,bd⟩:=hO.pick z0.1 z0.2;refine(Zr rfl ⟨_,Zr rfl ⟨rfl,⟨by decide,by decide⟩,_,Zr rfl ⟨rfl,(by show(0:Int)<4;decide),q2,_,_,u,rfl,rfl,d_.of g2,av,hX,λq3 h3=>?_⟩⟩⟩);have t3:=Same.new (o:=.lst [u]) h3;exact k q3 [u] _ (aP.trans t3) eW (.cons (by rw[<-bd];exact aw.same t3) .nil)
   . exact(Zr rfl ⟨hX,λp4 h4=>am (.ref p) fp L _ i (i+1) [Sum.inl (i:Int)] (s2.trans s5) hO (show 1<=2 by decide) (vR hM ao (bl _) (.l6 λm' e=>absurd e (aX m'))) (show 1<=100 by decide) _ (by rw[<-ei];rfl) p4 h4⟩)
 refine(Zr rfl ⟨_,Zr rfl ⟨rfl,⟨by decide,by decide⟩,_,Zr rfl ⟨rfl,(by show(0:Int)<6;decide),rfl,Zr rfl (gm (λc4=>?_) (λc4=>?_))⟩⟩⟩)
 . -- a aA twice
   refine oO (qi (q3:=3) (i:=i+1) (j:=i+1) (L2:=[.dct (ms.getD i .nil)]) rfl al aG au (λI J h=>(Zr rfl ⟨_,Zr rfl ⟨rfl,vJ I J h⟩⟩)) (λI J h=>(Zr rfl ⟨_,Zr rfl ⟨rfl,vJ I J h⟩⟩)) (λI J s3 k=>(Zr rfl ⟨hX,λq3 h3=>?_⟩)) (show 1<=2 by decide) λp fp L s5 hO=>?_)
   . have t3:=Same.new (o:=.lst [.ref l]) h3;exact k q3 [.ref l] _ t3 eW (.cons (bb _ (s3.trans t3)) .nil)
   . exact(Zr rfl ⟨_,Zr rfl ⟨rfl,hX,λp4 h4=>am (.ref p) fp L _ (i+1) (i+1) [Sum.inl ((i+1:Nat):Int)] (s2.trans s5) hO (show 1<=2 by decide) (KZ hM ao) (show 1<=100 by decide) _ (by show [V.int (m / 12 % (ws.length:Int)+1)]=[V.int ((i+1:Nat):Int)];rw[ei];rfl) p4 h4⟩⟩)
 refine(Zr rfl ⟨_,Zr rfl ⟨rfl,⟨by decide,by decide⟩,_,Zr rfl ⟨rfl,(by show(0:Int)<6;decide),rfl,Zr rfl (gm (λc5=>(Zr rfl ⟨_,Zr rfl ⟨rfl,Zr rfl (gm (λc6=>?turn) (λc6=>?name1))⟩⟩)) (λc5=>fL ?name2))⟩⟩⟩)
 case turn=>
  have h0:0<i:=by
   have:=of_decide_eq_true c6;rw[ei] at this;omega
  have vK:∀(I:Hp) (J:VK),J (.int ((i - 1:Nat):Int)) I->J (.int (m / 12 % (ws.length:Int) - 1)) I:=λI J h=>by
   rw[ei,show(i:Int) - 1=((i - 1:Nat):Int) by omega];exact h
  obtain⟨r0,be,aQ,e0,bf,bg⟩:=aA (i - 1) (by omega);have aY:gW ws (m / 12 % (ws.length:Int) - 1)=some (.ref r0):=by rw[ei,show(i:Int) - 1=((i - 1:Nat):Int) by omega];exact gL e0
  refine oO (qi (q3:=3) (i:=i - 1) (j:=i+1) (L2:=[.dct (ms.getD i .nil),.dct (ms.getD (i - 1) .nil)]) rfl al aG au (λI J h=>(Zr rfl ⟨_,Zr rfl ⟨rfl,vK I J h⟩⟩)) (λI J h=>(Zr rfl ⟨_,Zr rfl ⟨rfl,vJ I J h⟩⟩)) (λI J s3 k=>(Zr rfl (Zr rfl ⟨pr,_,_,Zr rfl ⟨rfl,d_.of (s3 _ _ al),aK,Zr rfl (Zr rfl ⟨_,Zr rfl ⟨rfl,pr,_,_,Zr rfl ⟨rfl,d_.of (s3 _ _ al),aY,gE,λq3 h3=>?_⟩⟩⟩)⟩⟩))) (show 2<=2 by decide) λp fp L s5 hO=>?_)
  . have t3:=Same.new (o:=.lst [.ref rr,.ref r0]) h3;have an:=(s2.trans s3).trans t3;refine k q3 [.ref rr,.ref r0] _ t3 eW (.cons (f:=rr::fq) ?_ (.cons (f:=r0::aQ) ?_ .nil))
    . unfold Own;exact⟨rr,kvs,fq,rfl,an _ _ aB,rfl,fe.same an ai⟩
    . unfold Own;exact⟨r0,be,aQ,rfl,an _ _ bf,rfl,fe.same an bg⟩
  . exact(Zr rfl ⟨hX,λp4 h4=>am (.ref p) fp L _ (i - 1) (i+1) [Sum.inl (i:Int)] (s2.trans s5) hO (show 2<=2 by decide) (K0 hM h0 ao) (show 1<=100 by decide) _ (by rw[<-ei];rfl) p4 h4⟩)
 case name1|name2=>
  have bh:=FA.len fs aE
  have bF:0<xs.length:=by
   obtain⟨k,e,_⟩:=aV;rw[bh];exact Q2n (Fs.oB e)
  obtain⟨j,ej⟩:∃j:Nat,m / 420 % (xs.length:Int)=(j:Int):=⟨(m / 420 % (xs.length:Int)).toNat,by have:=Q0i (m / 420) (show(xs.length:Int)≠0 by omega);omega⟩;have hj:j<xs.length:=by have:=Q0k (m / 420) (show(0:Int)<xs.length by omega);omega
  obtain⟨cj,uj,x,k,bi,aH,bj,bG⟩:=FA.get fs aE (Q02 hj);have aZ:gW xs (m / 420 % (xs.length:Int))=some (.ref cj):=by rw[ej];exact gL (by rw[Q02 hj,bi])
  have aT:x∈fs.names:=Fs.oB (Fs.lE aF aH);have bm:x∈(ms.getD i .nil).names:=by rw[ap.1.names];exact aT
  refine(Zr rfl ⟨pk,_,_,Zr rfl ⟨rfl,eX.of (s2 _ _ aC),rfl,Zr rfl ⟨_,Zr rfl ⟨rfl,⟨by decide,by decide⟩,Zr rfl ⟨pk,_,_,Zr rfl ⟨rfl,eX.of (s2 _ _ aC),rfl,pb,Zr rfl ⟨.inr (eX.of (s2 _ _ aD)),_,Zr rfl ⟨rfl,by omega,pb,_,_,Zr rfl ⟨rfl,eX.of (s2 _ _ aD),aZ,cj,_,_,Zr rfl ⟨rfl,eX.of (s2 _ _ bj),rfl,?_⟩⟩⟩⟩⟩⟩⟩⟩⟩⟩);obtain⟨dv,bn,_⟩:=ap.1.get (Fs.lE aF aH);obtain⟨v0,f0,bo,_⟩:=fe.val _ ai bn;have bv:pr≠l:=ff U hl;have S4:∀aj,Same H1 (upd H2 l (.dK aj)):=λaj c o e=>by rw[eU (ff e hl)];exact s2 c o e
  have bp:∀(aj:List (Key × V)) (m2:Ds) (ak:List Addr) (L:Hp),fe H1 aj m2 ak->Same (upd H2 l (.dK aj)) L->Own L (.ref l) (.dct m2) (l::ak):=λaj m2 ak L hO s5=>by
   unfold Own;exact⟨l,aj,ak,rfl,s5 _ _ eW,rfl,fe.same ((S4 aj).trans s5) hO⟩
  refine(Zr rfl ⟨_,Zr rfl ⟨rfl,⟨by decide,by decide⟩,_,Zr rfl ⟨rfl,(by show(0:Int)<6;decide),rfl,Zr rfl (gm (λc7=>?_) (λc7=>?_))⟩⟩⟩)
  . -- a field a1
    refine⟨_,rfl,.inr (.inr (.inl ⟨rfl,.inl ⟨_,aq⟩⟩)),_,rfl,l,_,Sum.inr x,v0,rfl,rfl,aq,bo,?_⟩;obtain⟨ak,aI⟩:=ai.K5 (x:=x);have s4:=S4 (ly kvs (Sum.inr x));refine oO (qi (q3:=3) (i:=i) (j:=i+1) (L2:=[.dct ((ms.getD i .nil).del x)]) rfl (s4 _ _ U) (hL.same s4) au (λI J h=>⟨_,rfl,vI I J h⟩) (λI J h=>⟨_,rfl,_,_,rfl,rfl,vJ I J h⟩) (λI J s3 k=>⟨_,rfl,hX,λq3 h3=>?vU⟩) (show 1<=2 by decide) λp fp L s5 hO=>?fin2)
    case vU=>
     have t3:=Same.new (o:=.lst [.ref l]) h3;exact k q3 [.ref l] _ t3 eW (.cons (bp _ _ _ _ aI (s3.trans t3)) .nil)
    case fin2=>
     exact(Zr rfl ⟨hX,λp4 h4=>am (.ref p) fp L _ i (i+1) [Sum.inl (i:Int)] (s4.trans s5) hO (show 1<=2 by decide) (vR hM ao (bl _) (K2 aT)) (show 1<=100 by decide) _ (by rw[<-ei];rfl) p4 h4⟩)
  . -- a field a1 bt
    have z0:0<=m / 5040 % 2/\m / 5040 % 2<2:=⟨Q0i _ (by decide),Q0k _ (by decide)⟩
    obtain⟨u,e,av,az,aw⟩:∃u e,gW [V.non,.bl true] (m / 5040 % 2)=some u/\(e=D.non\/e=.boo true)/\∀H,Own H u e []:=by
     rcases(by omega:m / 5040 % 2=0\/m / 5040 % 2=1) with z|z
     . exact⟨.non,.non,by rw[z];exact gL (j:=0) rfl,.inl rfl,λH=>by unfold Own;exact⟨rfl,rfl⟩⟩
     . exact⟨.bl true,.boo true,by rw[z];exact gL (j:=1) rfl,.inr rfl,λH=>by unfold Own;exact⟨rfl,rfl⟩⟩
    refine⟨gE,λq0 h0=>(Zr rfl ⟨_,Zr rfl ⟨rfl,⟨by decide,by decide⟩,_,Zr rfl ⟨rfl,(by show(0:Int)<2;decide),q0,_,_,u,rfl,rfl,d_.of eW,av,?_⟩⟩⟩)⟩;have bH:l≠q0:=ff aq h0;have sq:Same H2 (upd H2 q0 (.lst [.non,.bl true])):=Same.new h0;have bq:kvs.length<sizeLine:=by rw[fe.len ai,ap.1.names];exact ig (by omega)
    refine(Zr rfl (Zr rfl ⟨l,Zr rfl ⟨ki.k (k:=Sum.inr x) (sq _ _ aq) bq,?_⟩⟩));obtain⟨ak,aI,_⟩:=ai.sm (aw H1) bm;have s4:Same H1 (upd (upd H2 q0 (.lst [.non,.bl true])) l (.dK (putK kvs (Sum.inr x) u))):=λc o e=>by rw[eU (ff e hl)];exact sq _ _ (s2 c o e)
    refine oO (qi (q3:=3) (i:=i) (j:=i+1) (L2:=[.dct ((ms.getD i .nil).upd x e)]) rfl (s4 _ _ U) (hL.same s4) au (λI J h=>⟨_,rfl,vI I J h⟩) (λI J h=>⟨_,rfl,_,_,rfl,rfl,vJ I J h⟩) (λI J s3 k=>⟨_,rfl,hX,λq3 h3=>?vU⟩) (show 1<=2 by decide) λp fp L s5 hO=>?fin2)
    case vU=>
     have t3:=Same.new (o:=.lst [.ref l]) h3;refine k q3 [.ref l] _ t3 eW (.cons (f:=l::ak) ?_ .nil);unfold Own;exact⟨l,_,ak,rfl,t3 _ _ (s3 _ _ eW),rfl,fe.same ((s4.trans s3).trans t3) aI⟩
    case fin2=>
     exact(Zr rfl (Zr rfl ⟨gE,λp4 h4=>am (.ref p) fp L _ i (i+1) [Sum.inl (i:Int),Sum.inr x] (s4.trans s5) hO (show 1<=2 by decide) (vR hM ao (bl _) (K3 az aF aH ap.1 ap.2.1 ap.2.2)) (show 2<=100 by decide) _ (by rw[<-ei];rfl) p4 h4⟩))
noncomputable def j5:Option Int->V
 |some z=>.int z
 |none=>.non
noncomputable def jo:Option Int->D
 |some z=>.int z
 |none=>.non
theorem vV {H:Hp}(o:Option Int):Own H (j5 o) (jo o) []:=by
 cases o <;> (unfold j5 jo Own;exact⟨rfl,rfl⟩)
noncomputable def j6 (sp:Bool) (x0 x1:Str) (dR dT:D):Ds:=.cons (rN sp x0 x1) dR (.cons (tN sp x0 x1) dT .nil)
theorem vW {H:Hp}{a:Addr}{r t:Str}{u v:V}{I J:D}{f1 f2:List Addr}(L:H a=some (.dK [(Sum.inr r,u),(Sum.inr t,v)]))(h1:Own H u I f1)(h2:Own H v J f2):∃U,Own H (.ref a) (.dct (.cons r I (.cons t J .nil))) U:=by
 refine⟨a::(f1++(f2++[])),?_⟩;unfold Own;refine⟨a,_,Zr rfl ⟨L,rfl,?_⟩⟩;unfold fe;refine⟨u,_,f1,Zr rfl ⟨rfl,h1,?_⟩⟩;unfold fe;refine⟨v,_,f2,Zr rfl ⟨rfl,h2,?_⟩⟩;unfold fe;exact⟨rfl,rfl⟩
theorem qj {sp:Bool}{x0 x1:Str}{dR dT:D}(I:jn x0 x1):(j6 sp x0 x1 dR dT).get (rN sp x0 x1)=some dR/\(j6 sp x0 x1 dR dT).get (tN sp x0 x1)=some dT:=by
 unfold j6;constructor
 . show(if rN sp x0 x1=rN sp x0 x1 then some dR else _)=_;rw[if_pos rfl]
 . show(if tN sp x0 x1=rN sp x0 x1 then some dR else if tN sp x0 x1=tN sp x0 x1 then some dT else _)=_;rw[if_neg (Ne.symm (I.rt sp)),if_pos rfl]
theorem qm {sp:Bool}{x0 x1:Str}{k:Kd}{dR dT:D}:hasB (jm sp x0 x1 k) (j6 sp x0 x1 dR dT)=true:=by
 unfold hasB;rw[Bool.and_eq_true];refine⟨decide_eq_true rfl,List.all_eq_true.mpr λx I=>decide_eq_true ?_⟩;have I:x∈[x0,x1]:=I;show x∈[rN sp x0 x1,tN sp x0 x1]
 cases sp
 . exact I
 . rcases List.mem_cons.mp I with e|e
   . rw[e];exact Q0e _ Q04
   . rw[List.mem_singleton.mp e];exact Q04
theorem sS {sp:Bool}{x0 x1:Str}{k:Kd}:(jm sp x0 x1 k).at 0=some (x0,if sp then .num else k)/\(jm sp x0 x1 k).at 1=some (x1,if sp then k else .num):=⟨rfl,rfl⟩
theorem vX (z:Int):fC .num (.int z):=by unfold fC;exact⟨z,rfl⟩
theorem D9 (z:Int):(D.int z).Sm:=by unfold D.Sm;trivial
section
variable {n:Nat}{key by_:Str}{fs:Fs}{sp:Bool}{x0 x1:Str}{dR:D}
theorem K9 (U:jn x0 x1){p:List Key}{o:Option Int}(L:gP (n+1) (.rows key by_ fs) dR p)(Y:¬(o=none/\sp=true)):gP (n+2) (.fT (jm sp x0 x1 (.rows key by_ fs))) (.dct (j6 sp x0 x1 dR (jo o))) (Sum.inr (rN sp x0 x1)::p):=by
 have I:=qj (sp:=sp) (dR:=dR) (dT:=jo o) U
 cases sp with
 |false=>exact .lH (i:=0) qm sS.1 (λj y q J=>absurd J (Q1k _)) I.1 L
 |true=>
  refine .lH (i:=1) qm sS.2 (λj y q J hy=>?_) I.1 L
  cases Nat.lt_one_iff.mp J
  cases hy
  cases o with
  |none=>exact absurd ⟨rfl,rfl⟩ Y
  |some z=>exact⟨.int z,I.2,vX z,Q2k (Q07 _),D9 z⟩
theorem D_ (U:jn x0 x1)(h:sp=true\/(fC (.rows key by_ fs) dR/\dR.dep<=n+1/\dR.Sm)):gP (n+2) (.fT (jm sp x0 x1 (.rows key by_ fs))) (.dct (j6 sp x0 x1 dR (jo none))) [Sum.inr (tN sp x0 x1)]:=by
 have I:=qj (sp:=sp) (dR:=dR) (dT:=jo none) U;have L:gP (n+1) .num (jo none) []:=.num λz e=>by cases e
 cases sp with
 |true=>exact .lH (i:=0) qm sS.1 (λj y q J=>absurd J (Q1k _)) I.2 L
 |false=>
  refine .lH (i:=1) qm sS.2 (λj y q J Y=>?_) I.2 L
  cases Nat.lt_one_iff.mp J
  cases Y;exact⟨dR,I.1,(h.resolve_left (by decide)).1,(h.resolve_left (by decide)).2⟩
theorem vY (hN:jn x0 x1){z:Int}(h:Rs (n+1) (.rows key by_ fs) dR none):Rs (n+2) (.fT (jm sp x0 x1 (.rows key by_ fs))) (.dct (j6 sp x0 x1 dR (jo (some z)))) none:=by
 obtain⟨hF,hd,hs⟩:=h;have J:=qj (sp:=sp) (dR:=dR) (dT:=jo (some z)) hN;refine⟨(Zr rfl ⟨qm,λx k Y=>?_⟩),?_,?_⟩
 . have I:(if x=x0 then some (if sp then Kd.num else Kd.rows key by_ fs) else if x=x1 then some (if sp then Kd.rows key by_ fs else Kd.num) else none)=some k:=Y;clear Y;by_cases L:x=x0
   . rw[if_pos L] at I
     cases sp with
     |false=>cases I;rw[L];exact⟨_,J.1,hF⟩
     |true=>cases I;rw[L];exact⟨_,J.2,vX z⟩
   . rw[if_neg L] at I;by_cases U:x=x1
     . rw[if_pos U] at I
       cases sp with
       |false=>cases I;rw[U];exact⟨_,J.2,vX z⟩
       |true=>cases I;rw[U];exact⟨_,J.1,hF⟩
     . rw[if_neg U] at I
       cases I
 . simp only[j6,jo,D.dep,Ds.dep];omega
 . unfold j6 D.Sm;refine⟨by show 2<=100;decide,?_⟩;unfold Ds.Sm;refine⟨hs,?_⟩;unfold Ds.Sm;refine⟨D9 z,?_⟩;unfold Ds.Sm;trivial
theorem K_ {d:D}(h:∀m,d=.dct m->m.names.length≠2):Rs (n+2) (.fT (jm sp x0 x1 (.rows key by_ fs))) d (some []):=
 ⟨.l6 λm e=>.inl (h m e),Q07 _⟩
end
def Kt (b:Addr) (H H':Hp):Prop:=∀c o,c≠b->(∀ps,o≠ .gS ps)->H c=some o->H' c=some o
theorem Kn.kt {b:Addr}{H H':Hp}(k:Kn H H'):Kt b H H':=λc o _ I e=>k c o I e
theorem Kt.of {b:Addr}{H H':Hp}(s:Same H H'):Kt b H H':=λc o _ _ e=>s c o e
theorem Kt.sb {b:Addr}{H H':Hp}(s:SB b H H'):Kt b H H':=λc o hc _ e=>s c o hc e
theorem Kt.tu {b:Addr}{H H':Hp}{l:List V}(k:Kt b H H')(I:H b=some (.lst l)):Tu H H':=λc xs e=>k c _ (gN e I (by intro z;cases z)) (by intro ps z;cases z) e
theorem Kt.lst {b c:Addr}{H H':Hp}{xs:List V}(k:Kt b H H')(hc:c≠b)(e:H c=some (.lst xs)):H' c=some (.lst xs):=k c _ hc (by intro ps z;cases z) e
theorem fH.kt {b:Addr}{H H':Hp}{l vs:List V}{rs:List Ds}{I:List (List Addr)}(h:fH H vs rs I)(k:Kt b H H')(J:H b=some (.lst l))(L:b ∉ I.flatten):fH H' vs rs I:=fH.keep (k.tu J) h λc hc o e=>k c o (λz=>L (by rw[<-z];exact hc)) (by
 intro ps z;rcases fH.mu h c hc with⟨_,q⟩|⟨_,q⟩ <;> rw[e] at q <;> rw[z] at q <;> cases q) e
theorem La {x y z:Str}{a b c:V}(h1:x≠y)(h2:x≠z)(I:y≠z):lz [] [(Sum.inr x,a),(Sum.inr y,b),(Sum.inr z,c)]=[(Sum.inr x,a),(Sum.inr y,b),(Sum.inr z,c)]:=by
 show putK (lz [] [(Sum.inr x,a),(Sum.inr y,b)]) (Sum.inr z) c=_;rw[sM h1];unfold putK;rw[if_neg]
 . rfl
 . simp[h2,I]
theorem fe.cons {H:Hp}{x:Str}{v:V}{d:D}{f:List Addr}{kvs:List (Key × V)}{m:Ds}(h:Own H v d f)(r:∃g,fe H kvs m g):∃g,fe H ((Sum.inr x,v)::kvs) (.cons x d m) g:=by
 obtain⟨g,I⟩:=r;exact⟨f++g,by unfold fe;exact⟨v,kvs,f,g,rfl,rfl,h,I⟩⟩
theorem fe.dct {H:Hp}{a:Addr}{kvs:List (Key × V)}{m:Ds}(I:H a=some (.dK kvs))(r:∃g,fe H kvs m g):∃g,Own H (.ref a) (.dct m) g:=by
 obtain⟨g,J⟩:=r;exact⟨a::g,by unfold Own;exact⟨a,kvs,g,rfl,I,rfl,J⟩⟩
theorem fe.no {H:Hp}:∃g,fe H [] .nil g:=⟨[],by unfold fe;exact⟨rfl,rfl⟩⟩
noncomputable def jq (sp:Bool):Int:=if sp then 1 else 0
theorem qo (sp:Bool)(x0 x1:Str):gW [V.str x0,.str x1] (jq sp)=some (.str (rN sp x0 x1)):=by
 cases sp
 . exact gL (j:=0) rfl
 . exact gL (j:=1) rfl
theorem qp (sp:Bool)(x0 x1:Str):gW [V.str x0,.str x1] (1 - jq sp)=some (.str (tN sp x0 x1)):=by
 cases sp
 . exact gL (j:=1) rfl
 . exact gL (j:=0) rfl
def Ea (K:W.Frag):Sp:=λvs H Q _=>∃a b ns n pk pb key by_ f xs fs sp x0 x1 nl D I ms J,vs=[.ref a,.ref b,.ref pk,.ref nl,.int (jq sp),.str f,.ref D]/\G0 K H a b ns n/\n<=900000000000/\kF H pk pb key by_ f xs fs/\H nl=some (.lst [.str x0,.str x1])/\nl≠b/\jn x0 x1/\x0≠"zyxw"/\x1≠"zyxw"/\H D=some (.lst I)/\fH H I ms J/\k8 13 key by_ fs ms/\b ∉ J.flatten/\D≠b/\
 ∀t w u d L r H',SB b H H'->H' b=some (.lst [.int (n+2)])->H' t=some (.tup [w,u])->Own H' w d L->oJ 16 key by_ fs f sp x0 x1 d ms r->jC H' u r->(∀pl,r=some pl->pl.length<=101)->Q (.ref t) H'
theorem Lb:f_ XJ XI (fo (top 45)):=gz
theorem Ld (T:Tb mg)(af:Dn K mg "_law_seen" rV (top 45) ag ah)(ai:Dn K mg "_law_next" fJ (top 25) aj ak)(al:eZ P w K mg base e_ (1) aj ak fJ (kB K))(U:Dn K mg "_law_spoilt" rT (top 41) Y aa)(ab:eZ P w K mg base e_ (2) Y aa rT (D8 K 12)):eZ P w K mg base e_ (3) ag ah rV (Ea K):=by
 refine af.F.ok Lb λvs H Q E h=>?_;obtain⟨a,b,ns,n,pk,pb,key,by_,f,xs,fs,sp,x0,x1,nl,D,ws,ms,fl,rfl,g,hn,hK,a9,az,hN,ba,bc,hD,aV,hM,aF,aG,q⟩:=h;refine⟨rfl,λbz A outer s nd hr hu=>?_⟩
 refine⟨_,(eV (fj 7 nd (fx al hr ai (a_ (pv 0) (a_ (pv 1) c_))))
  (eV (o7 (fx ab hr U (a_ (pv 0) (a_ (pv 1) (a_ (pv 2) (a_ (pv 6) c_))))) (jS rfl (ik (gq (i:=8) nd rfl gO) (ik (gq (i:=9) nd rfl gO) jR))))
  (eV (fj 10 nd (fZ (vD rfl) (by rfl) T.uY boot_sum (a_ (kr (g:=(gK 0)) (tt:=jX) (te:=(qP (gf 0) (gf 6))) (own:=["_law_row"]) rfl (jj (N:=XJ) (sc:=fo (top 45))) (mE (pv 6)) (λ_ _ _ _ _=>(gq (i:=0) (show(["_law_row","_law_script","_law_at","_law_kind_here","_law_names_here","_law_spot","_law_field","_law_other","_law_m","_law_rows_here","_law_wrong","_law_total","_law_way_here","_law_seen_here"]:List Str).Nodup by decide +kernel) rfl (Or.inl rfl) (.inr rfl))) (λ_ _ _ _ _=>kT) (λ_ _ _ _ _=>(iF hu (pv 0) (pv 6) (λ_ _=>rfl)))) c_)))
  (eV (fj 11 nd h9)
  (eV (sR (fw gg (eY fM (pv 7) b_) b_ (fv _)) (ja.cons (fj 10 nd (eY iq (pv 10) (gC (gu (a_ b_ (a_ (z_ Ab b_) (a_ (eY o9 b_ b_) c_)))) (eY fM (eY gJ (pv 7) b_) b_)))) (ja.vT (ic.set (i:=11) nd rfl gO (gD.lst (gD.cons (ic.mk (gC (pv 3) (eY jd b_ (pv 4)))) (λ_=>rfl) gD.nil)) rfl (by first|exact .inl rfl|exact .inr rfl)))) fy)
  (eV (sR (fw gg (eY fM (pv 7) b_) b_ (fv _)) (ja.cons (fj 10 nd h9) (ja.vT (ic.set (i:=11) nd rfl gO (gD.lst (gD.cons (ic.mk (gC (pv 3) (eY jd b_ (pv 4)))) (λ_=>rfl) gD.nil)) rfl (by first|exact .inl rfl|exact .inr rfl)))) fy)
  (eV (fA (PW.pt (lb (fw mI (pv 9) h9 (fv _)) (lP (iB (PW.pt (lb (fw qI (pv 10) h9 (fv _)) (lP (fw gg (pv 4) b_ (fv _))))))))) (fc (fj 11 nd (eY iU (gu (a_ (gC (pv 3) (pv 4)) c_)) (pv 9)))) fy)
  (eV (fj 12 nd (pC (kP (gC (pv 3) (pv 4)) (pv 8) (kP (gC (pv 3) (eY jd b_ (pv 4))) (pv 10) pB)) rfl rfl (by simp) (by decide)))
  (eV (sR (fw gg (eY fM (eY gJ (pv 7) b_) b_) b_ (fv _)) (ja.K4 (ic.set (i:=11) nd rfl gO (gD.lst gD.nil) rfl (by first|exact .inl rfl|exact .inr rfl)) (ja.vT (ic.set (i:=12) nd rfl gO (ic.ix uh (gD.lst (gD.cons (ic.mk h9) (λ_=>rfl) (gD.cons (gD.lst gD.nil) (λ_=>rfl) (gD.cons (ic.mk (pC (kP (gC (pv 3) b_) (pv 8) pB) rfl rfl (by simp) (by decide))) (λ_=>rfl) (gD.cons (ic.mk (pC (kP (gC (pv 3) b_) b_ (kP (gC (pv 3) b_) (pv 8) (kP fV b_ pB))) rfl rfl (by simp) (by decide))) (λ_=>rfl) gD.nil))))) (eY fM (eY gJ (pv 7) b_) b_) (λ_ _=>rfl)) rfl (by first|exact .inl rfl|exact .inr rfl)))) fy)
  (fc (fg (gi (a_ (pv 12) (a_ (pv 11) c_)))))))))))))),?_⟩
 ac_rfl
 refine(Zr rfl (Zr rfl ⟨a,b,ns,n,rfl,g,by omega,λm H1 m0 m1 am aH=>?_⟩));have g1:=g.go am aH (by omega);have aX:=g.at_;have av:=hK.mono (am.tu aX);have aA:=am _ _ az a9;have aI:=am _ _ aG hD;have ac:fH H1 ws ms fl:=aV.kt (Kt.sb am) aX aF;refine(Zr rfl (Zr rfl (Zr rfl (Zr rfl ⟨a,b,ns,n+1,pk,pb,key,by_,xs,fs,D,ws,ms,fl,rfl,g1,by omega,av.at_,av.tu,av.fa,hK.W,aI,ac,hM,aF,aG,λt2 w u dR fp aJ H2 ap aY l7 hO aw bd hP a7=>?_⟩))));refine⟨t2,Zr rfl ⟨eX.of l7,rfl,_,Zr rfl ⟨_,Zr rfl ⟨rfl,?_⟩⟩⟩⟩;have sb:=am.trans ap;have aB:=ap _ _ az aA;have aK:=ap _ _ aG aI;have ae:fH H2 ws ms fl:=ac.kt (Kt.sb ap) aH aF;clear g1 aH av aA aI ac;obtain⟨bw,bx⟩:=A3.len ae;have bA:=hM.len;refine(Zr rfl ⟨D,rfl,⟨_,d_.of aK⟩,nB (sy (d_.of aK)) (λi=>((ms.take i).map λm=>jE (keyOf m f)).map V.int) (by omega) (λp hp=>?_) (λi x hx add skip=>?_)⟩)
 case refine_2=>
  have hi:i<ws.length:=(List.getElem?_eq_some_iff.mp hx).1;have ho:=A3.at (a0:=V.non) (b0:=Ds.nil) (c0:=[]) ae i hi;have ex:ws.getD i .non=x:=by rw[Q06,hx];rfl
  rw[ex] at ho;have be:i<ms.length:=by omega
  have hm:ms[i]? =some (ms.getD i .nil):=by rw[Q06,Q02 be];rfl
  have hF:=(hM.ok _ (Q0r hm)).1;generalize ms.getD i .nil=m at *;unfold Own at ho;obtain⟨rr,kvs,fq,rfl,bf,_,bg⟩:=ho
  have gl:gj H2 rr (.str f) (some (.int (jE (keyOf m f)))):=by
   have:=gj.k (k:=Sum.inr f) bf;rw[bg.key hF (vH hK.num),vG hF hK.num] at this;exact this
  refine⟨rfl,yes (fY (Zr rfl (Zr rfl ⟨rr,Zr rfl ⟨gl,add _ ?_⟩⟩)))⟩;rw[Q0q,hm,Q0f,Q0f];rfl
 refine⟨p,Zr rfl ⟨d_.of eW,?_⟩⟩;rw[Q0w (by omega)];have s3:Same H2 (upd H2 p (.lst ((ms.map λm=>jE (keyOf m f)).map V.int))):=Same.new hp;generalize upd H2 p (.lst ((ms.map λm=>jE (keyOf m f)).map V.int))=H3 at s3;have eS:(ms.map λm=>jE (keyOf m f)).sum=sumF f ms:=rfl;rw[eS]
 have bh:H3 b=some (.lst [.int (n+2)]):=by
  have:=s3 _ _ aY
  rwa [show n+1+1=n+2 by omega] at this
 have L:=s3 _ _ aB;have aZ:=hO.same s3
 have a1:∀H',Same H3 H'->jC H' u aJ:=λH' s'=>by
  cases aJ with
  |none=>exact hP
  |some p=>
   obtain⟨l,e,hl⟩:=hP;exact⟨l,e,s' _ _ (s3 _ _ hl)⟩
 have bi:=sb.trans (SB.of s3);generalize a2:sumF f ms=S;clear sb am ap aY aB aK ae hP hO l7 s3 eS hp;dsimp only[gK];refine jN (A:=jT _ _) (λJ H'=>J=[some (.ref a),some (.ref b),some (.ref pk),some (.ref nl),some (.int (jq sp)),some (.str f),some (.ref D),some (.int m),some w,some u,some (j5 (some S)),some .non,none]/\H'=H3) ?_ (λhB=>hB _ _ ⟨rfl,rfl⟩);rintro J H' ⟨rfl,eH⟩;rw[eH];clear eH H';refine jN (A:=ju _ _ _) (λJ H'=>∃o wy,J=[some (.ref a),some (.ref b),some (.ref pk),some (.ref nl),some (.int (jq sp)),some (.str f),some (.ref D),some (.int m),some w,some u,some (j5 o),some wy,none]/\Same H3 H'/\((o=some S/\wy=.non)\/(o≠some S/\∃p,wy=.ref p/\H' p=some (.lst [.str (tN sp x0 x1)])))) ?_ (λhB=>?_);rotate_left
 . refine(Zr rfl ⟨_,Zr rfl ⟨rfl,(by show(0:Int)<3;decide),rfl,Zr rfl (gm (λc=>?_) (λc=>hB _ _ ⟨some S,.non,rfl,Same.refl _,.inl ⟨rfl,rfl⟩⟩))⟩⟩);have hi:0<=m / 3 % 3/\m / 3 % 3<3:=⟨Q0i _ (by decide),Q0k _ (by decide)⟩
   obtain⟨e,he,bj⟩:∃e:Int,gW [V.int 1,.int (-1),.int (10 ^ (30:Int).toNat)] (m / 3 % 3)=some (.int e)/\e≠0:=by
    rcases(by omega:m / 3 % 3=0\/m / 3 % 3=1\/m / 3 % 3=2) with z|z|z <;> rw[z]
    . exact⟨_,gL (j:=0) rfl,by decide⟩
    . exact⟨_,gL (j:=1) rfl,by decide⟩
    . exact⟨_,gL (j:=2) rfl,by decide⟩
   refine(Zr rfl (Zr rfl ⟨_,Zr rfl ⟨rfl,?Le,HH,λI an=>(Zr rfl ⟨_,Zr rfl ⟨rfl,⟨by decide,by decide⟩,_,Zr rfl ⟨rfl,(by show(0:Int)<3;decide),I,_,_,Zr rfl ⟨rfl,d_.of eW,he,S,e,rfl,rfl,?_⟩⟩⟩⟩)⟩⟩))
   case Le=>exact⟨by decide,by decide,by decide⟩
   have s1:Same H3 (upd H3 I (.lst [V.int 1,.int (-1),.int (10 ^ (30:Int).toNat)])):=Same.new an;generalize upd H3 I (.lst [V.int 1,.int (-1),.int (10 ^ (30:Int).toNat)])=H4 at s1;refine(Zr rfl (Zr rfl ⟨_,Zr rfl ⟨rfl,nl,_,_,Zr rfl ⟨rfl,d_.of (s1 _ _ L),qp sp x0 x1,hX,λp2 ao=>?_⟩⟩⟩));exact hB _ _ ⟨some (S+e),.ref p2,rfl,s1.trans (Same.new ao),.inr ⟨λz=>bj (by injection z with z;omega),p2,rfl,eW⟩⟩
 rintro J H4 ⟨o,wy,rfl,s4,hw⟩;refine jN (A:=ju _ _ _) (λJ H'=>∃o wy,J=[some (.ref a),some (.ref b),some (.ref pk),some (.ref nl),some (.int (jq sp)),some (.str f),some (.ref D),some (.int m),some w,some u,some (j5 o),some wy,none]/\Same H3 H'/\((o=some S/\wy=.non)\/(o≠some S/\∃p,wy=.ref p/\H' p=some (.lst [.str (tN sp x0 x1)])))) ?_ (λhB=>?_);rotate_left
 . refine(Zr rfl ⟨_,Zr rfl ⟨rfl,(by show(0:Int)<9;decide),rfl,Zr rfl (gm (λc=>?_) (λc=>hB _ _ ⟨o,wy,rfl,s4,hw⟩))⟩⟩);refine(Zr rfl (Zr rfl ⟨_,Zr rfl ⟨rfl,nl,_,_,Zr rfl ⟨rfl,d_.of (s4 _ _ L),qp sp x0 x1,hX,λp2 ao=>?_⟩⟩⟩));exact hB _ _ ⟨none,.ref p2,rfl,s4.trans (Same.new ao),.inr ⟨λz=>(by cases z),p2,rfl,eW⟩⟩
 clear hw s4 wy o H4;rintro J H4 ⟨o,wy,rfl,s4,hw⟩;have a3:=λm hm=>(hM.ok m hm).1;refine jN (A:=ju _ _ _) (λJ H'=>∃wy r',J=[some (.ref a),some (.ref b),some (.ref pk),some (.ref nl),some (.int (jq sp)),some (.str f),some (.ref D),some (.int m),some w,some u,some (j5 o),some wy,none]/\Same H3 H'/\jC H' wy r'/\oJ 16 key by_ fs f sp x0 x1 (.dct (j6 sp x0 x1 dR (jo o))) ms r'/\∀pl,r'=some pl->pl.length<=101) ?_ (λhB=>?_);rotate_left
 . have one:∀x:Str,∀pl,some [(Sum.inr x:Key)]=some pl->pl.length<=101:=λx pl e=>by cases e;exact(by decide:1<=101)
   have hg:=qj (sp:=sp) (dR:=dR) (dT:=jo o) hN
   cases aJ with
   |none=>
    have bm:u=.non:=a1 H3 (Same.refl _);have a4:dR=.lst (gA ms):=bd rfl;have bb:∀r',jC H4 wy r'->oJ 16 key by_ fs f sp x0 x1 (.dct (j6 sp x0 x1 dR (jo o))) ms r'->(∀pl,r'=some pl->pl.length<=101)->_:=λr' h1 h2 h3=>hB [some (.ref a),some (.ref b),some (.ref pk),some (.ref nl),some (.int (jq sp)),some (.str f),some (.ref D),some (.int m),some w,some u,some (j5 o),some wy,none] H4 ⟨wy,r',rfl,s4,h1,h2,h3⟩;subst bm;refine(Zr rfl ⟨rfl,Zr rfl ?_⟩);rw[decide_eq_true rfl];refine fL ?_;rcases hw with⟨rfl,rfl⟩|⟨ho,p,rfl,hp⟩
    . exact bb none rfl (.inr ⟨_,S,rfl,vY hN aw,by rw[hg.1,a4],hg.2,by omega,a3,.inl ⟨rfl,a2.symm⟩⟩) λpl e=>(by cases e)
    . refine bb (some [Sum.inr (tN sp x0 x1)]) ⟨p,rfl,hp⟩ ?_ (one _)
      cases o with
      |none=>exact .inl (Zr rfl ⟨D_ hN (.inr aw),show 1<=1000 by decide⟩)
      |some z=>exact .inr ⟨_,z,rfl,vY hN aw,by rw[hg.1,a4],hg.2,by omega,a3,.inr ⟨rfl,λe=>ho (by rw[e,a2])⟩⟩
   |some aq=>
    obtain⟨lw,bn,ax⟩:=a1 H4 s4;subst bn;obtain⟨bo,_⟩:=aw;have bv:=a7 aq rfl;refine(Zr rfl ⟨rfl,Zr rfl (fY ?_)⟩);have aC:¬(o=none/\sp=true)->∀I,H4 I=none->∀p2,upd H4 I (.lst [.str (rN sp x0 x1)]) p2=none->_:=λho I h1 p2 h2=>hB [some (.ref a),some (.ref b),some (.ref pk),some (.ref nl),some (.int (jq sp)),some (.str f),some (.ref D),some (.int m),some w,some (.ref lw),some (j5 o),some (.ref p2),none] (upd (upd H4 I (.lst [.str (rN sp x0 x1)])) p2 (.lst ([.str (rN sp x0 x1)]++aq.map kV))) ⟨.ref p2,some (Sum.inr (rN sp x0 x1)::aq),rfl,s4.trans ((Same.new h1).trans (Same.new h2)),⟨p2,rfl,eW⟩,.inl (Zr rfl ⟨K9 hN bo ho,by rw[Q0g];omega⟩),λpl e=>by cases e;rw[Q0g];omega⟩;have hsz:[V.str (rN sp x0 x1)].length+(aq.map kV).length<=sizeLine:=jD (by rw[Q03];show 1+aq.length<=2000;omega)
    cases o with
    |some z=>
     refine(Zr rfl ⟨rfl,Zr rfl (fL (fY ?_))⟩);exact(Zr rfl (Zr rfl ⟨nl,_,_,Zr rfl ⟨rfl,d_.of (s4 _ _ L),qo sp x0 x1,hX,λI an=>(Zr rfl ⟨I,lw,_,Zr rfl ⟨rfl,eW,by rw[eU (ff ax an)];exact ax,hsz,λp2 ao=>aC (λz=>by cases z.1) I an p2 ao⟩⟩)⟩⟩))
    |none=>
     cases sp with
     |false=>
      refine(Zr rfl ⟨rfl,Zr rfl (fY (Zr rfl ⟨rfl,Zr rfl (fY ?_)⟩))⟩);exact(Zr rfl (Zr rfl ⟨nl,_,_,Zr rfl ⟨rfl,d_.of (s4 _ _ L),qo false x0 x1,hX,λI an=>(Zr rfl ⟨I,lw,_,Zr rfl ⟨rfl,eW,by rw[eU (ff ax an)];exact ax,hsz,λp2 ao=>aC (λz=>by cases z.2) I an p2 ao⟩⟩)⟩⟩))
     |true=>
      refine(Zr rfl ⟨rfl,Zr rfl (fY (Zr rfl ⟨rfl,Zr rfl (fL ?_)⟩))⟩);rcases hw with⟨e,_⟩|⟨_,p,rfl,hp⟩
      . cases e
      . exact hB _ _ ⟨.ref p,some [Sum.inr (tN true x0 x1)],rfl,s4,⟨p,rfl,hp⟩,.inl (Zr rfl ⟨D_ hN (.inl rfl),show 1<=1000 by decide⟩),one _⟩
 intro J H5 zq;obtain⟨wy,r',rfl,s5,bp,oP,a8⟩:=zq
 have a5:∀{H1 H2:Hp} {v:V} {r:Option (List Key)},jC H1 v r->Same H1 H2->jC H2 v r:=λ{H1 H2 v r} h s=>by
  cases r with
  |none=>exact h
  |some p=>
   obtain⟨l,e,hl⟩:=h;exact⟨l,e,s _ _ hl⟩
 have fin:∀(H6:Hp) (wS wW:V) (d:Pb.D) (fp:List Addr) (r:Option (List Key)),Same H3 H6->Own H6 wS d fp->oJ 16 key by_ fs f sp x0 x1 d ms r->jC H6 wW r->(∀pl,r=some pl->pl.length<=101)->∀t,H6 t=none->Q (.ref t) (upd H6 t (.tup [wS,wW])):=λH6 wS wW d fp r s6 h1 h2 h3 h4 t ht=>by
  have st:Same H6 (upd H6 t (.tup [wS,wW])):=Same.new ht;exact q t wS wW d fp r _ (bi.trans (SB.of (s6.trans st))) (st _ _ (s6 _ _ bh)) eW (h1.same st) h2 (a5 h3 st) h4
 refine λp hp=>?_;have s6:Same H5 (upd H5 p (.dK [])):=Same.new hp;have g6:=eW (H:=H5) (a:=p) (o:=.dK []);generalize upd H5 p (.dK [])=H6 at s6 g6;have aD:=s6 _ _ (s5 _ _ L);refine(Zr rfl (Zr rfl ⟨nl,_,_,Zr rfl ⟨rfl,d_.of aD,qo sp x0 x1,Zr rfl (Zr rfl (Zr rfl ⟨_,Zr rfl ⟨rfl,nl,_,_,Zr rfl ⟨rfl,d_.of aD,qp sp x0 x1,Zr rfl ⟨g6,[(Sum.inr (rN sp x0 x1),w),(Sum.inr (tN sp x0 x1),j5 o)],rfl,(by show 2<=15;decide),?_⟩⟩⟩⟩))⟩⟩));rw[sM (hN.rt sp)];have s7:Same H5 (upd H6 p (.dK [(Sum.inr (rN sp x0 x1),w),(Sum.inr (tN sp x0 x1),j5 o)])):=λc o e=>by rw[eU (ff e hp)];exact s6 _ _ e
 have g7:=eW (H:=H6) (a:=p) (o:=.dK [(Sum.inr (rN sp x0 x1),w),(Sum.inr (tN sp x0 x1),j5 o)]);generalize upd H6 p (.dK [(Sum.inr (rN sp x0 x1),w),(Sum.inr (tN sp x0 x1),j5 o)])=H7 at s7 g7;have aL:=s5.trans s7;dsimp only[gK];refine(Zr rfl ⟨_,Zr rfl ⟨rfl,⟨by decide,by decide⟩,_,Zr rfl ⟨rfl,(by show(0:Int)<9;decide),rfl,Zr rfl (gm (λc=>?_) (λc=>?_))⟩⟩⟩)
 . refine⟨Q07 _,λpw bq=>?_⟩;have sw:Same H7 (upd H7 pw (.lst [])):=Same.new bq;have gw:=eW (H:=H7) (a:=pw) (o:=.lst []);generalize upd H7 pw (.lst [])=H8 at sw gw;have aM:=aL.trans sw;refine⟨Q07 _,λI h1=>?_⟩;have t1:Same H8 (upd H8 I (.lst [])):=Same.new h1;have g1:=eW (H:=H8) (a:=I) (o:=.lst []);generalize upd H8 I (.lst [])=H9 at t1 g1;refine λp2 h2=>?_;have aP:Same H9 (upd H9 p2 (.dK [])):=Same.new h2;have e2:=eW (H:=H9) (a:=p2) (o:=.dK []);generalize upd H9 p2 (.dK [])=aQ at aP e2;have aW:=aP _ _ (t1 _ _ (aM _ _ L));refine(Zr rfl ⟨nl,_,_,Zr rfl ⟨rfl,d_.of aW,gL (j:=0) rfl,Zr rfl ⟨e2,[(Sum.inr x0,w)],rfl,(by show 1<=15;decide),?_⟩⟩⟩);have t3:Same H9 (upd aQ p2 (.dK [(Sum.inr x0,w)])):=λc o e=>by rw[eU (ff e h2)];exact aP _ _ e
   have g2:=eW (H:=aQ) (a:=p2) (o:=.dK [(Sum.inr x0,w)]);have em:lz [] [((Sum.inr x0:Key),w)]=[(Sum.inr x0,w)]:=rfl;rw[em];generalize upd aQ p2 (.dK [(Sum.inr x0,w)])=ar at t3 g2;refine λp3 h3=>?_;have t4:Same ar (upd ar p3 (.dK [])):=Same.new h3;have e3:=eW (H:=ar) (a:=p3) (o:=.dK []);generalize upd ar p3 (.dK [])=aT at t4 e3;have au:=t4 _ _ (t3 _ _ (t1 _ _ (aM _ _ L)));refine(Zr rfl ⟨nl,_,_,Zr rfl ⟨rfl,d_.of au,gL (j:=0) rfl,Zr rfl ⟨nl,_,_,Zr rfl ⟨rfl,d_.of au,gL (j:=1) rfl,Zr rfl ⟨e3,[(Sum.inr x0,.int 0),(Sum.inr x1,w),(Sum.inr "zyxw",.int 1)],rfl,(by show 3<=15;decide),?_⟩⟩⟩⟩⟩);rw[La hN.ne ba bc];have t5:Same ar (upd aT p3 (.dK [(Sum.inr x0,.int 0),(Sum.inr x1,w),(Sum.inr "zyxw",.int 1)])):=λc o e=>by rw[eU (ff e h3)];exact t4 _ _ e
   have g3:=eW (H:=aT) (a:=p3) (o:=.dK [(Sum.inr x0,.int 0),(Sum.inr x1,w),(Sum.inr "zyxw",.int 1)]);generalize upd aT p3 (.dK [(Sum.inr x0,.int 0),(Sum.inr x1,w),(Sum.inr "zyxw",.int 1)])=ay at t5 g3;refine⟨pV,λp4 h4=>?_⟩;have t6:Same ay (upd ay p4 (.lst [.non,.ref I,.ref p2,.ref p3])):=Same.new h4;have g4:=eW (H:=ay) (a:=p4) (o:=.lst [.non,.ref I,.ref p2,.ref p3]);generalize upd ay p4 (.lst [.non,.ref I,.ref p2,.ref p3])=aU at t6 g4;have u9:=(t3.trans t5).trans t6;have u8:=t1.trans u9;have a6:=aM.trans u8;have aE:=aZ.same a6;have hi:0<=m / 81 % 4/\m / 81 % 4<4:=⟨Q0i _ (by decide),Q0k _ (by decide)⟩;have num:∀z:Int,Own aU (.int z) (.int z) []:=λz=>by unfold Own;exact⟨rfl,rfl⟩
   obtain⟨v,d,fq,br,hv,hd⟩:∃v d fq,gW [V.non,.ref I,.ref p2,.ref p3] (m / 81 % 4)=some v/\Own aU v d fq/\∀m,d=.dct m->m.names.length≠2:=by
    rcases(by omega:m / 81 % 4=0\/m / 81 % 4=1\/m / 81 % 4=2\/m / 81 % 4=3) with z|z|z|z <;> rw[z]
    . exact⟨.non,.non,[],gL (j:=0) rfl,by unfold Own;exact⟨rfl,rfl⟩,λm e=>by cases e⟩
    . refine⟨.ref I,.lst .nil,[I],gL (j:=1) rfl,?_,λm e=>by cases e⟩;unfold Own;exact⟨I,[],[],rfl,u9 _ _ g1,rfl,by unfold fm;exact⟨rfl,rfl⟩⟩
    . obtain⟨g,hg⟩:=fe.dct (t6 _ _ (t5 _ _ g2)) (fe.cons (x:=x0) aE fe.no);exact⟨.ref p2,_,g,gL (j:=2) rfl,hg,λm e=>by cases e;exact(by decide:1≠2)⟩
    . obtain⟨g,hg⟩:=fe.dct (t6 _ _ g3) (fe.cons (x:=x0) (num 0) (fe.cons (x:=x1) aE (fe.cons (x:="zyxw") (num 1) fe.no)));exact⟨.ref p3,_,g,gL (j:=3) rfl,hg,λm e=>by cases e;exact(by decide:3≠2)⟩
   refine(Zr rfl ⟨_,Zr rfl ⟨rfl,⟨by decide,by decide⟩,_,Zr rfl ⟨rfl,(by show(0:Int)<4;decide),p4,_,_,Zr rfl ⟨rfl,d_.of g4,br,?_⟩⟩⟩⟩);exact(Zr rfl (Zr rfl ⟨gE,λt ht=>fin aU v (.ref pw) d fq (some []) a6 hv (.inl (Zr rfl (K_ hd))) ⟨pw,rfl,u8 _ _ gw⟩ (λpl e=>by cases e;exact Q07 _) t ht⟩))
 . obtain⟨bt,bu⟩:=vW g7 (aZ.same aL) (vV o);exact(Zr rfl (Zr rfl ⟨gE,λt ht=>fin H7 (.ref p) wy _ bt r' aL bu oP (a5 bp s7) a8 t ht⟩))
end Pb
namespace L2
open Spec PyProof.Rows
theorem Lf {X:Cx}:g8 X (compareOp .IsNot) (λx y H Q=>x=.bl false/\y=.bl false/\Q (.bl false) H):=by
 intro pins s σ H x y v u Q I J L h;obtain⟨rfl,rfl,q⟩:=h
 cases J
 cases L
 have e:compareOp .IsNot (.bool false) (.bool false)=(pure (.bool false):Sem Value):=by
  unfold compareOp isSame;rfl
 show wpAny _ _ (compareOp .IsNot (Value.bool false) (Value.bool false)) _ _ _;rw[e];exact Q0d ⟨.bl false,H,I,rfl,q⟩
end L2
namespace Pb
open L2 PyProof.Rows
structure Fr (Pt Ps Pf Pn:Addr):Prop where
 ts:Pt≠Ps
 tf:Pt≠Pf
 tn:Pt≠Pn
 sf:Ps≠Pf
 sn:Ps≠Pn
 fn:Pf≠Pn
structure RW (K:W.Frag) (Pt Ps Pf Pn a b:Addr) (ns:List Int) (n:Int) (H:Hp):Prop where
 g:G0 K H a b ns n
 v:fi Pt iD iE H
 s:fi Ps nu nv H
 f:fi Pf i2 i3 H
 n:fi Pn oM oN H
section
variable {K:W.Frag}{Pt Ps Pf Pn a b:Addr}{ns:List Int}{n n':Int}{H H':Hp}
theorem RW.same (h:RW K Pt Ps Pf Pn a b ns n H)(s:Same H H'):RW K Pt Ps Pf Pn a b ns n H':=⟨h.g.go (SB.of s) (s _ _ h.g.at_) (Q2i _),h.v.same s,h.s.same s,h.f.same s,h.n.same s⟩
theorem RW.sb (h:RW K Pt Ps Pf Pn a b ns n H)(s:SB b H H')(I:H' b=some (.lst [.int n']))(J:n<=n'):RW K Pt Ps Pf Pn a b ns n' H':=⟨h.g.go s I J,h.v.sb h.g.at_ s,h.s.sb h.g.at_ s,h.f.sb h.g.at_ s,h.n.sb h.g.at_ s⟩
theorem RW.f7 (F:Fr Pt Ps Pf Pn)(h:RW K Pt Ps Pf Pn a b ns n H)(x:fQ b Pt H H')(I:H' b=some (.lst [.int n']))(J:n<=n')(hT:fi Pt iD iE H'):RW K Pt Ps Pf Pn a b ns n' H':=
 ⟨fQ.g0 x h.g h.v I J,hT,h.s.kp x h.g.at_ h.v F.ts,h.f.kp x h.g.at_ h.v F.tf,h.n.kp x h.g.at_ h.v F.tn⟩
theorem RW.Lg (F:Fr Pt Ps Pf Pn)(h:RW K Pt Ps Pf Pn a b ns n H)(x:fQ b Pn H H')(I:H' b=some (.lst [.int n']))(J:n<=n')(hT:fi Pn oM oN H'):RW K Pt Ps Pf Pn a b ns n' H':=
 ⟨fQ.g0 x h.g h.n I J,h.v.kp x h.g.at_ h.n (Ne.symm F.tn),h.s.kp x h.g.at_ h.n (Ne.symm F.sn),h.f.kp x h.g.at_ h.n (Ne.symm F.fn),hT⟩
theorem _root_.L2.fi.i_ {P I J c:Addr}{lp L U:Pos}{ql Y aa:Str}{l:List V}(h:fi P lp ql H)(x:kE c I J H H')(hc:H c=some (.lst l))(h1:fi I L Y H)(h2:fi J U aa H)(n1:I≠P)(n2:J≠P):fi P lp ql H':=by
 obtain⟨p1,e1⟩:=h1.tab;obtain⟨p2,e2⟩:=h2.tab;have k:∀d o,d≠I->d≠J->(∀xs,o≠ .lst xs)->H d=some o->H' d=some o:=λd o a b ho e=>x d o (λz=>z.elim (λz=>by rw[z,hc] at e;cases e;exact ho _ rfl) λz=>z.elim a b) e;rcases h with e|⟨d,e,f⟩
 . exact .inl (k _ _ (Ne.symm n1) (Ne.symm n2) (by intro xs z;cases z) e)
 . exact .inr ⟨d,k _ _ (Ne.symm n1) (Ne.symm n2) (by intro xs z;cases z) e,k _ _ (gN f e1 (by intro z;cases z)) (gN f e2 (by intro z;cases z)) (by intro xs z;cases z) f⟩
theorem kE.kt {c:Addr}(x:kE c Pt Ps H H')(h1:fi Pt iD iE H)(h2:fi Ps nu nv H):Kt c H H':=λd o hc I e=>by
 obtain⟨J,L⟩:=h1.tab;obtain⟨p2,U⟩:=h2.tab;exact x d o (λz=>z.elim hc λz=>z.elim (gN e L (I J)) (gN e U (I p2))) e
theorem RW.i_ (F:Fr Pt Ps Pf Pn)(h:RW K Pt Ps Pf Pn a b ns n H)(x:kE b Pt Ps H H')(I:H' b=some (.lst [.int n']))(L:n<=n')(hT:fi Pt iD iE H')(J:fi Ps nu nv H'):RW K Pt Ps Pf Pn a b ns n' H':=by
 have k:=kE.kt x h.v h.s;refine⟨⟨?_,h.g.len,I,by have:=h.g.pos;omega⟩,hT,J,h.f.i_ x h.g.at_ h.v h.s F.tf F.sf,h.n.i_ x h.g.at_ h.v h.s F.tn F.sn⟩;rcases h.g.jA with⟨o,e⟩|e
 . exact .inl ⟨o,k a _ (gN e h.g.at_ (by intro z;cases z)) (by intro ps z;cases z) e⟩
 . exact .inr e
theorem RW.oth (F:Fr Pt Ps Pf Pn){J:Addr}{l:List V}(h:RW K Pt Ps Pf Pn a b ns n H)(x:kE J Pt Ps H H')(I:H J=some (.lst l))(L:b≠J)(hT:fi Pt iD iE H')(U:fi Ps nu nv H'):RW K Pt Ps Pf Pn a b ns n H':=by
 have k:=kE.kt x h.v h.s;refine⟨⟨?_,h.g.len,k.lst L h.g.at_,h.g.pos⟩,hT,U,h.f.i_ x I h.v h.s F.tf F.sf,h.n.i_ x I h.v h.s F.tn F.sn⟩;rcases h.g.jA with⟨o,e⟩|e
 . exact .inl ⟨o,k a _ (gN e I (by intro z;cases z)) (by intro ps z;cases z) e⟩
 . exact .inr e
theorem RW.kf (F:Fr Pt Ps Pf Pn)(h:RW K Pt Ps Pf Pn a b ns n H)(x:iZ Pf H H')(hT:fi Pf i2 i3 H'):RW K Pt Ps Pf Pn a b ns n H':=by
 obtain⟨ps,I⟩:=h.f.tab;have k:=Kn.k7 x h.f;refine⟨⟨?_,h.g.len,k.lst h.g.at_,h.g.pos⟩,h.v.k7 x I (Ne.symm F.tf),h.s.k7 x I (Ne.symm F.sf),hT,h.n.k7 x I F.fn⟩;rcases h.g.jA with⟨o,e⟩|e
 . exact .inl ⟨o,k a _ (by intro ps z;cases z) e⟩
 . exact .inr e
end
structure Rr (key by_:Str) (fs:Fs) (ms:List Ds):Prop where
 ok:∀m∈ms,nq fs m
 kn:(ms.map λm=>keyOf m key).Nodup
 len:ms.length<=30
 mf:ms.Pairwise (ji key by_)
theorem Rr.of {key by_:Str}{fs:Fs}{room:Nat}{ps:List Key}{n:Int}{q:List Ds × Int}(h:oF fs key room ps n q)(L:ps.Nodup)(Y:ps.length<=30):Rr key by_ fs (iC key by_ q.1):=by
 have J:=kX key by_ q.1;have kn:=h.keys.nodup L;have I:((iC key by_ q.1).map λm=>keyOf m key).Nodup:=(J.map _).nodup_iff.mpr kn;refine⟨λm U=>h.ok m (J.mem_iff.mp U),I,?_,rf (rd key by_ q.1) I⟩;have:=h.keys.length_le;rw[Q03] at this;rw[J.length_eq];omega
theorem Rr.ms {key by_:Str}{fs:Fs}{ms:List Ds}(h:Rr key by_ fs ms)(J:fs.dB<=12):k8 (12+1) key by_ fs ms:=
 ⟨λm I=>by
   have:=h.ok m I;have s:=this.2.2;unfold D.Sm at s;exact⟨this.1,by have:=this.2.1;omega,s.2⟩,h.mf,h.kn,h.len⟩
theorem k8.rs {N:Nat}{key y:Str}{fs:Fs}{ms:List Ds}(I:k8 (N+1) key y fs ms)(L:fs.names.length<=12):Rs (N+3) (.rows key y fs) (.lst (gA ms)) none:=by
 have U:=I.len;refine⟨?_,?_,?_⟩
 . show fC _ _;unfold fC;exact⟨ms,rfl,λm J=>(I.ok m J).1,I.mf,I.kn⟩
 . have:=rn (l:=ms) (n:=N+1) λm J=>(I.ok m J).2.1;simp only[D.dep];omega
 . unfold D.Sm;refine⟨by rw[qa];omega,r8 λm J=>?_⟩;unfold D.Sm;exact⟨by rw[<-ni,(I.ok m J).1.names];omega,(I.ok m J).2.2⟩
structure RV (b:Addr) (H:Hp) (D:Addr) (vs:List V) (ms:List Ds) (fl:List (List Addr)):Prop where
 at_:H D=some (.lst vs)
 r:fH H vs ms fl
 nb:∀c∈D::fl.flatten,c≠b
theorem RV.kt {b D:Addr}{H H':Hp}{l vs:List V}{ms:List Ds}{I:List (List Addr)}(h:RV b H D vs ms I)(k:Kt b H H')(J:H b=some (.lst l)):RV b H' D vs ms I:=
 ⟨k.lst (h.nb D Q04) h.at_,h.r.kt k J λz=>h.nb b (Q0e _ z) rfl,h.nb⟩
structure RS (K:W.Frag) (Pt Ps Pf Pn a b:Addr) (ns:List Int) (n:Int) (C v dx pk pb sh nl:Addr) (key by_ f:Str) (sp:Bool) (x0 x1:Str) (xs:List V) (fs:Fs) (D1:Addr) (v1:List V) (ms1:List Ds) (f1:List (List Addr)) (D2:Addr) (v2:List V) (f2:List (List Addr)) (D3:Addr) (v3:List V) (i4:List Ds) (f3:List (List Addr)) (H:Hp):Prop where
 w:RW K Pt Ps Pf Pn a b ns n H
 v1:RV b H D1 v1 ms1 f1
 v2:RV b H D2 v2 ms1 f2
 v3:RV b H D3 v3 i4 f3
 v:nF H C v dx f (rN sp x0 x1) (tN sp x0 x1)
 k:kF H pk pb key by_ f xs fs
 sh:j4 H sp x0 x1 pk sh
 na:H nl=some (.lst [.str x0,.str x1])
 vZ:nl≠b
section
variable {K:W.Frag}{Pt Ps Pf Pn a b:Addr}{ns:List Int}{n n':Int}{C v dx pk pb sh nl:Addr}{key by_ f:Str}{sp:Bool}{x0 x1:Str}{xs:List V}{fs:Fs}{D1:Addr}{v1:List V}{ms1:List Ds}{f1:List (List Addr)}{D2:Addr}{v2:List V}{f2:List (List Addr)}{D3:Addr}{v3:List V}{i4:List Ds}{f3:List (List Addr)}{H H':Hp}
theorem RS.mv (h:RS K Pt Ps Pf Pn a b ns n C v dx pk pb sh nl key by_ f sp x0 x1 xs fs D1 v1 ms1 f1 D2 v2 f2 D3 v3 i4 f3 H)(x:Kt b H H')(w:RW K Pt Ps Pf Pn a b ns n' H'):RS K Pt Ps Pf Pn a b ns n' C v dx pk pb sh nl key by_ f sp x0 x1 xs fs D1 v1 ms1 f1 D2 v2 f2 D3 v3 i4 f3 H':=
 have I:=h.w.g.at_;have tu:=x.tu I
 ⟨w,h.v1.kt x I,h.v2.kt x I,h.v3.kt x I,x _ _ (gN h.v I (by intro z;cases z)) (by intro ps z;cases z) h.v,h.k.mono tu,h.sh.mono tu,x.lst h.vZ h.na,h.vZ⟩
theorem RS.same (h:RS K Pt Ps Pf Pn a b ns n C v dx pk pb sh nl key by_ f sp x0 x1 xs fs D1 v1 ms1 f1 D2 v2 f2 D3 v3 i4 f3 H)(s:Same H H'):RS K Pt Ps Pf Pn a b ns n C v dx pk pb sh nl key by_ f sp x0 x1 xs fs D1 v1 ms1 f1 D2 v2 f2 D3 v3 i4 f3 H':=h.mv (Kt.of s) (h.w.same s)
theorem RS.kf (h:RS K Pt Ps Pf Pn a b ns n C v dx pk pb sh nl key by_ f sp x0 x1 xs fs D1 v1 ms1 f1 D2 v2 f2 D3 v3 i4 f3 H)(F:Fr Pt Ps Pf Pn)(x:iZ Pf H H')(hT:fi Pf i2 i3 H'):RS K Pt Ps Pf Pn a b ns n C v dx pk pb sh nl key by_ f sp x0 x1 xs fs D1 v1 ms1 f1 D2 v2 f2 D3 v3 i4 f3 H':=h.mv (Kn.k7 x h.w.f).kt (h.w.kf F x hT)
theorem RS.sb (h:RS K Pt Ps Pf Pn a b ns n C v dx pk pb sh nl key by_ f sp x0 x1 xs fs D1 v1 ms1 f1 D2 v2 f2 D3 v3 i4 f3 H)(s:SB b H H')(I:H' b=some (.lst [.int n']))(J:n<=n'):RS K Pt Ps Pf Pn a b ns n' C v dx pk pb sh nl key by_ f sp x0 x1 xs fs D1 v1 ms1 f1 D2 v2 f2 D3 v3 i4 f3 H':=h.mv (Kt.sb s) (h.w.sb s I J)
end
def Eb (K:W.Frag) (Pt Ps Pf Pn:Addr):Sp:=λvs H Q _=>∃a b ns n,vs=[.ref a,.ref b]/\RW K Pt Ps Pf Pn a b ns n H/\n<=10000000000/\∀n' H',RW K Pt Ps Pf Pn a b ns n' H'->n'<=n+10000000->Q (.bl true) H'
def qq (H:Hp) (td D:Addr) (r:Option (List Key)):Prop:=match r with
 |none=>H td=some (.tup [.str "done",.ref D])
 |some pl=>∃p,H td=some (.tup [.str "refused",.ref p])/\H p=some (.lst (pl.map kV))/\pl.length<=101
theorem qq.kn {H H':Hp}{td D:Addr}{r:Option (List Key)}(h:qq H td D r)(k:Kn H H'):qq H' td D r:=by
 cases r with
 |none=>exact k.tu _ _ h
 |some pl=>
  obtain⟨p,h1,h2,I⟩:=h;exact⟨p,k.tu _ _ h1,k.lst h2,I⟩
section
variable {P:Program}{w:World}{K:W.Frag}{mg:Str->Option Value}{base:Heap}
variable {C Pt Ps Pf Pn:Addr}
theorem Lh:f_ XA XD (fo (top 46)):=gz
theorem Li (F:Fr Pt Ps Pf Pn)(T:Tb mg)(OF:me K mg C J L ai b3 bB aj Y)(aQ:Dn K mg "_law_round" fJ (top 46) aT aU)(a8:Dn K mg "_law_next" fJ (top 25) a9 ba)(bb:eZ P w K mg base e_ (1) a9 ba fJ (kB K))(ak:Dn K mg "_law_number_kind" iP (top 44) al am)(an:eZ P w K mg base e_ (8) al am iP (D4 K Pn))(bc:Dn K mg "_law_pool" rJ (top 39) bd be)(bf:eZ P w K mg base e_ (130) bd be rJ (De K Pt 60))(af:Dn K mg "_law_some" pX (top 40) bg bh)(ag:eZ P w K mg base e_ (130) bg bh pX (CM K Pt Ps 60))(aV:Dn K mg "_law_names" kz (top 28) aW aX)(aY:eZ P w K mg base e_ (2) aW aX kz (p7 K))(ao:Dm K "__init__" "Beside.__init__" rM (fF 23 0) J ap)(aq:eZ P w K mg base e_ (1) J ap rM (DO C))
 (av:Dm K "behind" "Beside.behind" ow (fF 23 1) L aw) (ax:eZ P w K mg base e_ (10) L aw ow (vM Pf C)) (aI:Dm K "grade" "View.grade" ["self"] (fF 21 3) aj aJ) (aK:eZ P w K mg base e_ (1) aj aJ ["self"] (DF)) (ay:Dm K "keeps" "Beside.keeps" rO (fF 23 5) Y az) (aA:eZ P w K mg base e_ (1) Y az rO (DP)) (aL:Dm K "see" "Beside.see" rP (fF 23 2) ai aM) (aP:eZ P w K mg base e_ (2) ai aM rP (DQ C)) (ar:Dn K mg "_law_alike" jL (top 36) aZ a6) (au:eZ P w K mg base e_ (17) aZ a6 jL (oG 16)) (aa:Dn K mg "_law_same_end" jL (top 43) aB aC) (ab:eZ P w K mg base e_ (18) aB aC jL (DM 16)) (aE:Dn K mg "_law_put" rR (top 42) bp bq) (aF:eZ P w K mg base e_ (130) bp bq rR (DT 16 Pf C)) (bi:Dn K mg "_law_seen" rV (top 45) bj bm) (bn:eZ P w K mg base e_ (3) bj bm rV (Ea K)):eZ P w K mg base e_ (132) aT aU fJ (Eb K Pt Ps Pf Pn):=by
 have CT:=OF.ct;have bx:=OF.Kg;have bG:=OF.m;have bz:=OF.b;have cE:=OF.s;have bH:=OF.g;have bI:=OF.k;refine aQ.F.ok Lh λvs H Q E h=>?_;obtain⟨a,b,ns,n,rfl,W,hn,q⟩:=h;refine⟨rfl,λeM A outer s nd hr hu=>?_⟩;have eg:=Q1h (Q2d (by decide:4<=64) _) hr.units
 refine⟨_,(eV (fj 2 nd (fx bb hr a8 (a_ (pv 0) (a_ (pv 1) c_))))
  (eV (fj 3 nd (eY iq b_ (eY fM (pv 2) b_)))
  (eV (fj 4 nd b_)
  (eV (fA (fw gg (eY fM (eY gJ (pv 2) b_) b_) b_ (fv _)) (eV (fj 3 nd b_)
  (fc (fj 4 nd b_))) fy)
  (eV (fj 5 nd (fx an hr ak (a_ (pv 0) (a_ (pv 1) (a_ (pv 4) c_)))))
  (eV (fj 6 nd (fx bf hr bc (a_ (pv 0) (a_ (pv 1) (a_ (pv 5) (a_ (pv 3) c_))))))
  (eV (fj 7 nd (gu (a_ (gC (pv 1) b_) c_)))
  (eV (fj 8 nd (fx ag hr af (a_ (pv 0) (a_ (pv 1) (a_ (pv 5) (a_ (pv 6) (a_ b_ c_)))))))
  (eV (fj 9 nd (fx ag hr af (a_ (pv 0) (a_ (pv 7) (a_ (pv 5) (a_ (pv 6) (a_ b_ c_)))))))
  (eV (fj 10 nd (fx ag hr af (a_ (pv 0) (a_ (pv 1) (a_ (pv 5) (a_ (pv 6) (a_ b_ c_)))))))
  (eV (qT (i:=11) nd rfl gO (g:=(gK 0)) (tt:=(kK (gI (q_ K 0) (gI (iO K) (gf 0) (tC (.int 1))) (mK (g9 (tC (.str "number")) iS))))) (te:=(gI (iO K) (gf 0) (tC (.int 0)))) (own:=["_law_pair"]) rfl (jj (N:=XA) (sc:=fo (top 46))) (kJ (fh (pv 5) b_)) (λ_ _ _ _ _=>(gq (i:=0) (show(["_law_pair","_law_script","_law_at","_law_m","_law_many","_law_deep","_law_kind_here","_law_pool_here","_law_begin","_law_source","_law_twin","_law_other","_law_numbers","_law_field","_law_names_here","_law_spot","_law_view","_law_parts","_law_shown","_law_told","_law_seen_here","_law_way_here","_law_due","_law_old"]:List Str).Nodup by decide +kernel) rfl (Or.inl rfl) (.inr rfl))) (λ_ _ _ _ _=>(pH (fw (uK (n:=0) hu) (fh (pv 0) b_) (gi (a_ fV c_)) (fv _)))) (λ_ _ _ _ _=>(fh (pv 0) b_)))
  (eV (HG 12 nd (gC (pv 11) (eY fM (eY gJ (pv 2) b_) (fZ iu (by rfl) T.ib PySem.boot_len (a_ (pv 11) c_)))))
  (eV (fj 13 nd (fx aY hr aV (a_ (pv 0) (a_ (pv 1) (a_ b_ c_)))))
  (eV (fj 14 nd (eY fM (eY gJ (pv 2) b_) b_))
  (eV (fj 15 nd (FK bx aq (hr.mono (by decide)) rfl bG ao.b .nil km (a_ (pv 12) (a_ (gC (pv 13) (pv 14)) (a_ (gC (pv 13) (eY jd b_ (pv 14))) c_)))))
  (eV (fj 16 nd (gu (a_ (gi (a_ fV c_)) (a_ (gi (a_ fV c_)) c_))))
  (eV (o7 (pv 5) (z7 (pv 16) (pv 14) set_list))
  (eV (fj 17 nd (gi (a_ fV (a_ (gi (a_ (gi (a_ (gC (pv 13) b_) (a_ (gC (pv 16) b_) c_))) (a_ (gi (a_ (gC (pv 13) b_) (a_ (gC (pv 16) b_) c_))) c_))) c_))))
  (eV (fA (PW.pt (jb (fw (Hc (n:=3) eg) (nS (pv 15) CT bz ax (hr.mono (by decide)) av.b .nil km (a_ (pv 5) c_)) (pv 17) (fv _)) (jb (fw jV (FI (pv 15) CT bH aK (hr.mono (by decide)) aI.b .nil km) fV (fv _)) (jt (fw Lf (nS (pv 15) CT bI aA (hr.mono (by decide)) ay.b .nil km (a_ (gC (pv 13) b_) c_)) iw (fv _)))))) (fc (fg iw)) fy)
  (eV (fj 18 nd (nS (pv 15) CT cE aP (hr.mono (by decide)) aL.b .nil km (a_ (pv 5) (a_ (pv 8) c_))))
  (eV (fA (iB (iy (fx au hr ar (a_ (pv 17) (a_ (pv 18) (a_ (pC (kP (gC (pv 13) (pv 14)) (pv 9) (kP (gC (pv 13) (eY jd b_ (pv 14))) (fZ (vD rfl) (by rfl) T.uY boot_sum (a_ (kr (g:=(gK 0)) (tt:=jX) (te:=(qP (gf 0) (gf 13))) (own:=["_law_row"]) rfl (jj (N:=XA) (sc:=fo (top 46))) (mE (pv 9)) (λ_ _ _ _ _=>(gq (i:=0) (show(["_law_row","_law_script","_law_at","_law_m","_law_many","_law_deep","_law_kind_here","_law_pool_here","_law_begin","_law_source","_law_twin","_law_other","_law_numbers","_law_field","_law_names_here","_law_spot","_law_view","_law_parts","_law_shown","_law_told","_law_seen_here","_law_way_here","_law_due","_law_old"]:List Str).Nodup by decide +kernel) rfl (Or.inl rfl) (.inr rfl))) (λ_ _ _ _ _=>kT) (λ_ _ _ _ _=>(iF hu (pv 0) (pv 13) (λ_ _=>rfl)))) c_)) pB)) rfl rfl (by simp) (by decide)) c_)))))) (fc (fg iw)) fy)
  (eV (fA (iB (iy (fx ab hr aa (a_ (pv 5) (a_ (fx aF hr aE (a_ (pv 15) (a_ (pv 5) (a_ (pv 8) (a_ (pv 18) c_))))) (a_ (gi (a_ fV (a_ (pv 9) c_))) c_)))))) (fc (fg iw)) fy)
  (eV (o7 (fx bn hr bi (a_ (pv 0) (a_ (pv 1) (a_ (pv 5) (a_ (pv 13) (a_ (pv 14) (a_ (pv 12) (a_ (pv 10) c_)))))))) (jS rfl (ik (gq (i:=19) nd rfl gO) (ik (gq (i:=20) nd rfl gO) jR))))
  (eV (fj 21 nd (gi (a_ fV (a_ (pv 20) c_))))
  (eV (fA (fw qI (pv 20) h9 (fv _)) (fc (fj 21 nd (gi (a_ fV (a_ (pv 10) c_))))) fy)
  (eV (jc PassesOwn.never rfl (mE (gu (a_ (pv 8) (a_ (gu c_) c_)))) (gq (i:=22) nd rfl gO) (fc (fA (iB (iy (fx ab hr aa (a_ (pv 5) (a_ (fx aF hr aE (a_ (pv 15) (a_ (pv 5) (a_ (pv 22) (a_ (pv 19) c_))))) (a_ (pv 21) c_)))))) (fc (fg iw)) fy)))
  (fc (fg (fx au hr ar (a_ (pv 5) (a_ (pv 8) (a_ (pv 9) c_)))))))))))))))))))))))))))))))),?_⟩
 ac_rfl
 refine(Zr rfl (Zr rfl ⟨a,b,ns,n,rfl,W.g,by omega,λm H1 m0 m1 c8 c9=>?_⟩));have W1:=W.sb c8 c9 (by omega);have eI:=W.g.pos;clear c8 c9 W;refine(Zr rfl ⟨_,Zr rfl ⟨rfl,(by show(0:Int)<_;decide),_,Zr rfl ⟨rfl,?_⟩⟩⟩);obtain⟨b4,da⟩:∃b4:Nat,1+m % 5=(b4:Int):=⟨(1+m % 5).toNat,by omega⟩;dsimp only[gK];refine jN (A:=jT _ _) (λI H'=>I=[some (.ref a),some (.ref b),some (.int m),some (.int (1+m % 5)),some (.int 1),none,none,none,none,none,none,none,none,none,none,none,none,none,none,none,none,none,none]/\H'=H1) ?_ (λhB=>hB _ _ ⟨rfl,rfl⟩);rintro I H' ⟨rfl,rfl⟩;refine jN (A:=ju _ _ _) (λI H2=>∃mn d:Nat,I=[some (.ref a),some (.ref b),some (.int m),some (.int mn),some (.int d),none,none,none,none,none,none,none,none,none,none,none,none,none,none,none,none,none,none]/\H2=H'/\mn<=30/\(d=0\/d=1)) ?_ (λhB=>?_);rotate_left
 . refine(Zr rfl ⟨_,Zr rfl ⟨rfl,⟨by decide,by decide⟩,_,Zr rfl ⟨rfl,(by show(0:Int)<11;decide),rfl,Zr rfl (gm (λc=>hB _ _ ⟨30,0,rfl,rfl,by decide,.inl rfl⟩) (λc=>hB _ _ ⟨b4,1,by rw[<-da];rfl,rfl,by omega,.inr rfl⟩))⟩⟩⟩)
 clear da b4;intro I H1 zq;obtain⟨mn,d,rfl,rfl,eh,hd⟩:=zq;refine(Zr rfl (Zr rfl (Zr rfl ⟨a,b,ns,n+1,d,rfl,hd,W1.g,by omega,W1.n,λpk pb xs key by_ fs n2 H3 i_ db dc w1 w2 ac U ae hW d8 cF=>?_⟩)));have W3:=W1.Lg F i_ dc w1 db;have ei:n2<=n+200:=by omega
 clear i_ dc db W1 w1 w2;have dd:=hW;unfold Kd.W at dd;obtain⟨ej,b5,ek,eJ,eN⟩:=dd;have cM:fs.dB<=12:=by have:=pQ fs;omega
 have el:(fs.cB:Int)<=14400:=by
  have h1:=pP fs 1 ek d8;have h2:CB 1=1200:=rfl;have h3:fs.names.length * CB 1<=12 * CB 1:=Q14 _ b5;omega
 have b6:mu (.fT fs) 2<=60:=by have:=u6 (.fT fs) 2;simp only[Kd.dep] at this;omega
 refine(Zr rfl (Zr rfl (Zr rfl (Zr rfl ⟨a,b,ns,n2,pk,pb,xs,key,by_,fs,mn,rfl,W3.g,W3.v,ac,U,ae,hW,eh,by omega,by decide,λDp ps n3 H4 cN de w1 w2 df em cO aH bC d9 bJ=>?_⟩))));have W4:=W3.f7 F cN de w1 df;have b7:Tu H3 H4:=cN.tu W3.g.at_ W3.v;replace ac:=b7 _ _ ac;replace U:=b7 _ _ U;replace ae:=FA.mono b7 fs ae;clear cN de df em W3 b7;have bD:ps.length<=30:=by omega
 have ea:(ps.length:Int) * ((fs.cB:Int)+1)<=30 * 14401:=Q3i (by omega) (by omega) (by omega) (by omega)
 have so:∀n,oF fs key 2 ps n (ij ns key by_ fs 2 ps n):=λn=>by
  have:=vn (ns:=ns) (n:=n) (room:=2) (by_:=by_) hW (by decide) bJ ps.length
  rwa [Q0z] at this
 refine(Zr rfl ⟨b,_,_,Zr rfl ⟨rfl,d_.of W4.g.at_,rfl,hX,λb2 b8=>?_⟩⟩);have s5:Same H4 (upd H4 b2 (.lst [.int n3])):=Same.new b8;have bU:=eW (H:=H4) (a:=b2) (o:=.lst [.int n3]);have dg:b≠b2:=ff W4.g.at_ b8;have cG:Dp≠b2:=ff aH b8;have W5:=W4.same s5;replace ac:=s5 _ _ ac;replace U:=s5 _ _ U;replace ae:=FA.mono (Tu.of s5) fs ae;replace aH:=s5 _ _ aH;generalize upd H4 b2 (.lst [.int n3])=H5 at *;clear W4 s5 b8;refine(Zr rfl (Zr rfl (Zr rfl (Zr rfl ⟨a,b,ns,n3,pk,pb,xs,key,by_,fs,Dp,ps,2,rfl,W5.g,W5.v,W5.s,F.ts,ac,U,ae,hW,aH,cO,bD,bJ,bC,by decide,b6,by omega,λD1 v1 f1 H6 cP dh di dj dk dm cQ=>?_⟩))));have p3:=W5.g.pos;have b9:=so n3;have R1:Rr key by_ fs (iC key by_ (ij ns key by_ fs 2 ps n3).1):=Rr.of b9 bC bD;have lo1:=b9.lo;have en:=b9.hi;have ca:=kE.kt cP W5.v W5.s;have W6:=W5.i_ F cP dh lo1 di dj;have cb:=ca.tu W5.g.at_;have V1:RV b2 H6 D1 v1 (iC key by_ (ij ns key by_ fs 2 ps n3).1) f1:=⟨dk,dm,λc hc z=>by have:=cQ c hc;rw[z,bU] at this;cases this⟩;have N1:∀c∈D1::f1.flatten,c≠b:=λc hc z=>by have:=cQ c hc;rw[z,W5.g.at_] at this;cases this
 replace ac:=cb _ _ ac;replace U:=cb _ _ U;replace ae:=FA.mono cb fs ae;replace aH:=ca.lst cO aH;have bo:=ca.lst (Ne.symm dg) bU;clear cP dh di dj dk dm cQ W5 ca cb bU;refine(Zr rfl (Zr rfl (Zr rfl (Zr rfl ⟨a,b2,ns,n3,pk,pb,xs,key,by_,fs,Dp,ps,2,rfl,⟨W6.g.jA,W6.g.len,bo,by omega⟩,W6.v,W6.s,F.ts,ac,U,ae,hW,aH,cG,bD,bJ,bC,by decide,b6,by omega,λD2 v2 f2 H7 cR eo dn dp dq dt du=>?_⟩))));have cd:=kE.kt cR W6.v W6.s;have W7:=W6.oth F cR bo dg dn dp;have ce:=cd.tu bo
 replace V1:RV b H7 D1 v1 (iC key by_ (ij ns key by_ fs 2 ps n3).1) f1:=by
  have:=V1.kt cd bo;exact⟨this.at_,this.r,N1⟩
 have V2:RV b H7 D2 v2 (iC key by_ (ij ns key by_ fs 2 ps n3).1) f2:=⟨dq,dt,λc hc z=>by have:=du c hc;rw[z,W6.g.at_] at this;cases this⟩;replace ac:=ce _ _ ac;replace U:=ce _ _ U;replace ae:=FA.mono ce fs ae;replace aH:=cd.lst cG aH;clear cR eo dn dp dq dt du W6 cd ce bo N1;refine(Zr rfl (Zr rfl (Zr rfl (Zr rfl ⟨a,b,ns,_,pk,pb,xs,key,by_,fs,Dp,ps,2,rfl,W7.g,W7.v,W7.s,F.ts,ac,U,ae,hW,aH,cO,bD,bJ,bC,by decide,b6,by omega,λD3 v3 f3 H8 cS dv dw dy dz dA dC=>?_⟩))));have cf:=so (ij ns key by_ fs 2 ps n3).2;have R3:Rr key by_ fs (iC key by_ (ij ns key by_ fs 2 ps (ij ns key by_ fs 2 ps n3).2).1):=Rr.of cf bC bD;have dD:=cf.lo;have ep:=cf.hi;have cg:=kE.kt cS W7.v W7.s;have W8:=W7.i_ F cS dv dD dw dy;have ci:=cg.tu W7.g.at_;replace V1:=V1.kt cg W7.g.at_;replace V2:=V2.kt cg W7.g.at_;have V3:RV b H8 D3 v3 (iC key by_ (ij ns key by_ fs 2 ps (ij ns key by_ fs 2 ps n3).2).1) f3:=⟨dz,dA,λc hc z=>by have:=dC c hc;rw[z,W7.g.at_] at this;cases this⟩;replace ac:=ci _ _ ac;replace U:=ci _ _ U;replace ae:=FA.mono ci fs ae;clear cS dv dw dy dz dA dC W7 cg ci aH so b9 cf bJ bC d9 b6;generalize ij ns key by_ fs 2 ps (ij ns key by_ fs 2 ps n3).2=q3 at *;generalize ij ns key by_ fs 2 ps n3=q1 at *;generalize iC key by_ q3.1=i4 at *;generalize iC key by_ q1.1=ms1 at *;have eO:q3.2<=n+900000:=by omega
 generalize q3.2=n8 at *;clear lo1 en dD ep w1 w2 ei ea el;obtain⟨zs,eq,et,hZ⟩:=vE ae;subst eq et;have cH:(gc zs).Nodup:=by rw[<-md];exact ej
 have dE:(gh zs).length<=1000:=by rw[md,ma] at b5;rw[j3];omega
 dsimp only[gK];refine jN (A:=jT _ _) (λI H'=>∃Dr,I=[some (.ref a),some (.ref b),some (.int m),some (.int mn),some (.int d),some (.ref pk),some (.ref Dp),some (.ref b2),some (.ref D1),some (.ref D2),some (.ref D3),some (.ref Dr),none,none,none,none,none,none,none,none,none,none,none]/\Same H8 H'/\H' Dr=some (.lst ((gc (iI zs)).map V.str))) ?_ (λhB=>?_);rotate_left
 . refine(Zr rfl ⟨pk,_,_,Zr rfl ⟨rfl,eX.of ac,rfl,pb,rfl,⟨_,eX.of U⟩,DJ (λH' s=>qf (eX.of (s _ _ U))) (λi=>(gc (iI (zs.take i))).map V.str) dE (λH' s p hp=>?_) (λi x H' s hx dF hl=>?_)⟩⟩)
   . rw[j3,Q0z];exact hB _ _ ⟨p,rfl,s.trans (Same.new hp),eW⟩
   . obtain⟨z,hz,rfl⟩:=Option.map_eq_some_iff.mp ((Q0j (f:=λz:Zd=>z.1)).symm.trans hx);obtain⟨cz,u,ec,hc,hk⟩:=hZ z (Q0r hz);rw[ec];refine⟨rfl,Zr rfl ⟨cz,_,_,Zr rfl ⟨rfl,eX.of (s _ _ hc),rfl,hX,λt1 eu=>?_⟩⟩⟩;have s1:=s.trans (Same.new (o:=.tup [.str "number"]) eu);refine vC (KA.mono (Tu.of s1) _ hk) eW (Zr rfl (gm (λcc=>?_) (λcc=>?_)))
     . refine(Zr rfl ⟨cz,_,_,Zr rfl ⟨rfl,eX.of (s1 _ _ hc),rfl,CS.add dF hl s1 ?_⟩⟩);show(gc (iI (zs.take (i+1)))).map V.str=(gc (iI (zs.take i))).map V.str++[.str z.2.1];unfold iI gc;rw[vv hz cc,Q0f];rfl
     . refine CS.skip dF hl s1 ?_;show(gc (iI (zs.take (i+1)))).map V.str=(gc (iI (zs.take i))).map V.str;unfold iI gc;rw[vw hz cc]
 rintro I H9 ⟨Dr,rfl,s9,cT⟩
 have ev:0<(gc (iI zs)).length:=by
  obtain⟨f0,ew⟩:=cF;obtain⟨z,h1,h2⟩:=vN ew;rw[ma];refine Q2n (a:=z) (List.mem_filter.mpr ⟨h1,?_⟩);rw[h2];rfl
 have dG:∀x∈gc (iI zs),(iA zs).get x=some .num:=λx hx=>by
  obtain⟨z,h1,rfl⟩:=List.mem_map.mp hx;obtain⟨h2,h3⟩:=List.mem_filter.mp h1;rw[qg cH h2,D0 h3]
 generalize gc (iI zs)=nz at *;have W9:=W8.same s9;replace V1:=V1.kt (Kt.of s9) W8.g.at_;replace V2:=V2.kt (Kt.of s9) W8.g.at_;replace V3:=V3.kt (Kt.of s9) W8.g.at_;replace ac:=s9 _ _ ac;replace U:=s9 _ _ U;replace ae:=FA.mono (Tu.of s9) _ ae;clear s9 W8 hZ cF dE cH;have w0:0<=m / 55 % (((nz.map V.str).length:Nat):Int):=Q0i _ (by rw[Q03];omega)
 have w1:m / 55 % (((nz.map V.str).length:Nat):Int)<nz.length:=by
  have:=Q0k (m / 55) (show(0:Int)<(((nz.map V.str).length:Nat):Int) by rw[Q03];omega)
  rwa [Q03] at this ⊢
 obtain⟨f,dH,dI⟩:=p9 (ss:=nz) w0 w1;have ey:=dG f (Q0r dI);clear dG dI w0 w1;refine jN (A:=jT _ _) (λI H'=>I=[some (.ref a),some (.ref b),some (.int m),some (.int mn),some (.int d),some (.ref pk),some (.ref Dp),some (.ref b2),some (.ref D1),some (.ref D2),some (.ref D3),some (.ref Dr),some (.str f),none,none,none,none,none,none,none,none,none,none]/\H'=H9) ?_ (λhB=>?_);rotate_left
 . exact(Zr rfl (Zr rfl ⟨_,Zr rfl ⟨rfl,⟨by decide,by decide⟩,Zr rfl ⟨Dr,Zr rfl ⟨.inl (d_.of cT),_,Zr rfl ⟨rfl,by rw[Q03];omega,Dr,_,_,Zr rfl ⟨rfl,d_.of cT,dH,hB _ _ ⟨rfl,rfl⟩⟩⟩⟩⟩⟩⟩))
 rintro I H' ⟨rfl,eH⟩;rw[eH];clear eH H' cT dH ev nz;refine(Zr rfl (Zr rfl ⟨a,b,ns,n8,2,rfl,by decide,W9.g,by omega,λnl ss bK bV cI eb br dJ dL cU cj=>?_⟩));obtain⟨x0,x1,rfl⟩:∃x0 x1,ss=[x0,x1]:=match ss,dJ with|[x0,x1],_=>⟨x0,x1,rfl⟩
 have hN:jn x0 x1:=by
  refine⟨?_,cU _ Q04,cU _ (Q0e _ Q04)⟩;rcases rG ((List.pairwise_cons.mp cj.1).1 x1 Q04) with z|z
  . exact z
  . exact absurd z λz=>(List.nodup_cons.mp dL).1 (by rw[z];exact Q04)
 have ez:=cj.2 _ Q04;have eA:=cj.2 x1 (Q0e _ Q04);have br:bK nl=some (.lst [.str x0,.str x1]):=br;have bL:Kt b H9 bK:=Kt.sb bV;have bM:=W9.sb bV cI (by omega);have bA:=bL.tu W9.g.at_;replace V1:=V1.kt bL W9.g.at_;replace V2:=V2.kt bL W9.g.at_;replace V3:=V3.kt bL W9.g.at_;have hK:kF bK pk pb key by_ f (gh zs) (iA zs):=⟨bA _ _ ac,bA _ _ U,FA.mono bA _ ae,hW,ey⟩;clear bV cI bL bA W9 ac U ae dJ dL cU cj;generalize gh zs=xs at *;generalize iA zs=fs at *
 obtain⟨sp,dM⟩:∃sp:Bool,m / 660 % 2=jq sp:=by
  rcases(by omega:m / 660 % 2=0\/m / 660 % 2=1) with z|z
  . exact⟨false,z⟩
  . exact⟨true,z⟩
 dsimp only[gK];refine jN (A:=jT _ _) (λI H'=>I=[some (.ref a),some (.ref b),some (.int m),some (.int mn),some (.int d),some (.ref pk),some (.ref Dp),some (.ref b2),some (.ref D1),some (.ref D2),some (.ref D3),some (.ref Dr),some (.str f),some (.ref nl),some (.int (jq sp)),none,none,none,none,none,none,none,none]/\H'=bK) ?_ (λhB=>?_);rotate_left
 . exact(Zr rfl ⟨_,Zr rfl ⟨rfl,⟨by decide,by decide⟩,_,Zr rfl ⟨rfl,(by show(0:Int)<2;decide),hB _ _ ⟨by rw[<-dM];rfl,rfl⟩⟩⟩⟩)
 rintro I H' ⟨rfl,eH⟩;rw[eH];clear eH H' dM;refine(Zr rfl (Zr rfl (Zr rfl ⟨nl,_,_,Zr rfl ⟨rfl,d_.of br,qo sp x0 x1,Zr rfl (Zr rfl ⟨_,Zr rfl ⟨rfl,nl,_,_,Zr rfl ⟨rfl,d_.of br,qp sp x0 x1,?_⟩⟩⟩)⟩⟩)));intro v dx hv dN _;refine⟨v,dx,f,rN sp x0 x1,tN sp x0 x1,rfl,eW,λbN keep hV=>⟨rfl,?_⟩⟩;have dO:Same bK bN:=λc o e=>keep c o (ff e hv) (by rw[eU (ff e hv),eU (ff e dN)];exact e);clear keep hv dN;refine⟨hX,λk0 dP=>⟨hX,λk1 cV=>⟨gE,λpp bO=>?_⟩⟩⟩;have a1:=eW (H:=bN) (a:=k0) (o:=.tup [.str "number"]);have t1:Same bN (upd bN k0 (.tup [.str "number"])):=Same.new dP;generalize upd bN k0 (.tup [.str "number"])=cm at a1 t1 cV bO;have a2:=eW (H:=cm) (a:=k1) (o:=.tup [.str "number"]);have t2:Same cm (upd cm k1 (.tup [.str "number"])):=Same.new cV;generalize upd cm k1 (.tup [.str "number"])=cn at a2 t2 bO;have hj:ke 2 (jq sp)=some (if sp then 1 else 0):=by cases sp <;> rfl
 refine(Zr rfl (Zr rfl (Zr rfl ⟨pp,_,_,Zr rfl ⟨rfl,eW,hj,?_⟩⟩)));have e3:[V.ref k0,.ref k1].set (if sp then 1 else 0) (.ref pk)=[.ref (if sp then k0 else pk),.ref (if sp then pk else k1)]:=by cases sp <;> rfl
 rw[e3];have t3:Same cn (upd (upd cn pp (.lst [.ref k0,.ref k1])) pp (.lst [.ref (if sp then k0 else pk),.ref (if sp then pk else k1)])):=λc o e=>by rw[eU (ff e bO),eU (ff e bO)];exact e
 have a3:=eW (H:=upd cn pp (.lst [.ref k0,.ref k1])) (a:=pp) (o:=.lst [.ref (if sp then k0 else pk),.ref (if sp then pk else k1)]);generalize upd (upd cn pp (.lst [.ref k0,.ref k1])) pp (.lst [.ref (if sp then k0 else pk),.ref (if sp then pk else k1)])=bP at t3 a3
 obtain⟨nk,dQ,e0,e1⟩:∃nk,bP nk=some (.tup [.str "number"])/\(if sp then k0 else pk)=(if sp then nk else pk)/\(if sp then pk else k1)=(if sp then pk else nk):=by
  cases sp
  . exact⟨k1,t3 _ _ a2,rfl,rfl⟩
  . exact⟨k0,t3 _ _ (t2 _ _ a1),rfl,rfl⟩
 rw[e0,e1] at a3;have cW:=((dO.trans t1).trans t2).trans t3;replace hV:=t3 _ _ (t2 _ _ (t1 _ _ hV));clear hj e3 e0 e1 t1 t2 t3 a1 a2 dP cV bO dO;have bW:=cW _ _ br;refine(Zr rfl ⟨nl,_,_,Zr rfl ⟨rfl,d_.of bW,gL (j:=0) rfl,Zr rfl ⟨pp,_,_,Zr rfl ⟨rfl,d_.of a3,gL (j:=0) rfl,gE,λc0 dU=>?_⟩⟩⟩⟩);have t1:Same bP (upd bP c0 (.tup [.str x0,.ref (if sp then nk else pk)])):=Same.new dU;have a1:=eW (H:=bP) (a:=c0) (o:=.tup [.str x0,.ref (if sp then nk else pk)]);generalize upd bP c0 (.tup [.str x0,.ref (if sp then nk else pk)])=co at t1 a1;refine(Zr rfl ⟨nl,_,_,Zr rfl ⟨rfl,d_.of (t1 _ _ bW),gL (j:=1) rfl,Zr rfl ⟨pp,_,_,Zr rfl ⟨rfl,d_.of (t1 _ _ a3),gL (j:=1) rfl,gE,λc1 dV=>⟨gE,λtt cX=>⟨gE,λsh cp=>?_⟩⟩⟩⟩⟩⟩);have t2:Same co (upd co c1 (.tup [.str x1,.ref (if sp then pk else nk)])):=Same.new dV;have a2:=eW (H:=co) (a:=c1) (o:=.tup [.str x1,.ref (if sp then pk else nk)]);generalize upd co c1 (.tup [.str x1,.ref (if sp then pk else nk)])=cq at t2 a2 cX cp;have t4:Same cq (upd cq tt (.tup [.ref c0,.ref c1])):=Same.new cX;have a4:=eW (H:=cq) (a:=tt) (o:=.tup [.ref c0,.ref c1]);generalize upd cq tt (.tup [.ref c0,.ref c1])=cr at t4 a4 cp;have t5:Same cr (upd cr sh (.tup [.str "record",.ref tt])):=Same.new cp;have a5:=eW (H:=cr) (a:=sh) (o:=.tup [.str "record",.ref tt]);generalize upd cr sh (.tup [.str "record",.ref tt])=dW at t5 a5;have cs:=((t1.trans t2).trans t4).trans t5;have bt:=cW.trans cs;have dX:j4 dW sp x0 x1 pk sh:=⟨tt,c0,c1,nk,a5,t5 _ _ a4,t5 _ _ (t4 _ _ (t2 _ _ a1)),t5 _ _ (t4 _ _ a2),cs _ _ dQ⟩;have X:RS K Pt Ps Pf Pn a b ns (n8+1) C v dx pk pb sh nl key by_ f sp x0 x1 xs fs D1 v1 ms1 f1 D2 v2 f2 D3 v3 i4 f3 dW:=⟨bM.same bt,V1.kt (Kt.of bt) bM.g.at_,V2.kt (Kt.of bt) bM.g.at_,V3.kt (Kt.of bt) bM.g.at_,cs _ _ hV,hK.mono (Tu.of bt),dX,bt _ _ br,eb⟩;clear cW cs bt dX t1 t2 t4 t5 a1 a2 a3 a4 a5 dQ bW dU dV cX cp bM V1 V2 V3 hK hV br;dsimp only[gK];refine jN (A:=ju _ _ _) (λI H'=>I=[some (.ref a),some (.ref b),some (.int m),some (.int mn),some (.int d),some (.ref pk),some (.ref Dp),some (.ref b2),some (.ref D1),some (.ref D2),some (.ref D3),some (.ref Dr),some (.str f),some (.ref nl),some (.int (jq sp)),some (.ref v),some (.ref pp),some (.ref sh),none,none,none,none,none]/\RS K Pt Ps Pf Pn a b ns (n8+1) C v dx pk pb sh nl key by_ f sp x0 x1 xs fs D1 v1 ms1 f1 D2 v2 f2 D3 v3 i4 f3 H') ?_ (λhB=>?_);rotate_left
 . refine(Zr rfl ⟨v,dx,Zr rfl ⟨X.v,rfl,Zr rfl ⟨v,dx,pk,pb,key,by_,f,xs,fs,sp,x0,x1,rfl,X.v,X.k,hN,X.w.f,λeP eB ed ee ef=>?_⟩⟩⟩);replace X:=X.kf F ed ee;refine(Zr rfl (j4.ne ef X.sh (Zr rfl (fL ?_))));refine(Zr rfl ⟨v,dx,Zr rfl ⟨X.v,rfl,.ref v,rfl,rfl,Zr rfl (kq rfl ?_)⟩⟩);exact(Zr rfl ⟨v,dx,Zr rfl ⟨X.v,rfl,Zr rfl ⟨nl,_,_,Zr rfl ⟨rfl,d_.of X.na,gL (j:=0) rfl,.ref v,.str x0,rfl,rfl,rfl,Zr rfl (fL (hB _ _ ⟨rfl,X⟩))⟩⟩⟩⟩)
 clear X;rintro I eB ⟨rfl,X⟩;have bX:=λm hm=>(R1.ok m hm).1;have l1:v1.length<64:=by rw[(A3.len X.v1.r).1];have:=R1.len;omega
 have bu:Rs 15 (.rows key by_ fs) (.lst (gA ms1)) none:=k8.rs (N:=12) (R1.ms cM) b5;have bQ:Rs 16 (.fT (jm sp x0 x1 (.rows key by_ fs))) (.dct (j6 sp x0 x1 (.lst (gA ms1)) (jo (some (sumF f ms1))))) none:=vY (n:=14) hN bu;refine(Zr rfl ⟨v,dx,Zr rfl ⟨X.v,rfl,Zr rfl (Zr rfl ⟨v,dx,f,_,_,.ref pk,D1,v1,ms1,f1,fs,rfl,X.v,hN.rt sp,X.v1.at_,X.v1.r,l1,bX,X.k.num,λtd bR dY _ cu=>?_⟩)⟩⟩);replace X:=X.same dY;clear dY;refine(Zr rfl (Zr rfl (λp hp=>?_)));have t1:Same bR (upd bR p (.dK [])):=Same.new hp;have a1:=eW (H:=bR) (a:=p) (o:=.dK []);generalize upd bR p (.dK [])=cw at t1 a1;have X1:=X.same t1;obtain⟨eK,eL⟩:=A3.len X1.v2.r;have bD:=R1.len;refine(Zr rfl (Zr rfl ⟨nl,_,_,Zr rfl ⟨rfl,d_.of X1.na,qo sp x0 x1,Zr rfl (Zr rfl (Zr rfl ⟨_,Zr rfl ⟨rfl,nl,_,_,Zr rfl ⟨rfl,d_.of X1.na,qp sp x0 x1,?_⟩⟩⟩))⟩⟩));refine(Zr rfl ⟨D2,rfl,⟨_,d_.of X1.v2.at_⟩,nB (sy (d_.of X1.v2.at_)) (λi=>((ms1.take i).map λm=>jE (keyOf m f)).map V.int) (by omega) (λpl dZ=>?_) (λi x hx add skip=>?_)⟩)
 case refine_2=>
  have hi:i<v2.length:=(List.getElem?_eq_some_iff.mp hx).1;have ho:=A3.at (a0:=V.non) (b0:=Ds.nil) (c0:=[]) X1.v2.r i hi;have ex:v2.getD i .non=x:=by rw[Q06,hx];rfl
  rw[ex] at ho;have eC:i<ms1.length:=by omega
  have hm:ms1[i]? =some (ms1.getD i .nil):=by rw[Q06,Q02 eC];rfl
  have hF:=bX _ (Q0r hm);generalize ms1.getD i .nil=m at *;unfold Own at ho;obtain⟨rr,kvs,fq,rfl,eD,_,eE⟩:=ho
  have gl:gj cw rr (.str f) (some (.int (jE (keyOf m f)))):=by
   have:=gj.k (k:=Sum.inr f) eD;rw[eE.key hF (vH X.k.num),vG hF X.k.num] at this;exact this
  refine⟨rfl,yes (fY (Zr rfl (Zr rfl ⟨rr,Zr rfl ⟨gl,add _ ?_⟩⟩)))⟩;rw[Q0q,hm,Q0f,Q0f];rfl
 rw[Q0w (by omega)];refine⟨pl,Zr rfl ⟨d_.of eW,?_⟩⟩;have t2:Same cw (upd cw pl (.lst ((ms1.map λm=>jE (keyOf m f)).map V.int))):=Same.new dZ;have eS:(ms1.map λm=>jE (keyOf m f)).sum=sumF f ms1:=rfl;rw[eS];generalize upd cw pl (.lst ((ms1.map λm=>jE (keyOf m f)).map V.int))=cY at t2;refine⟨t2 _ _ a1,[(Sum.inr (rN sp x0 x1),.ref D2),(Sum.inr (tN sp x0 x1),.int (sumF f ms1))],rfl,(by show 2<=15;decide),?_⟩;rw[sM (hN.rt sp)];have cx:Same bR (upd cY p (.dK [(Sum.inr (rN sp x0 x1),.ref D2),(Sum.inr (tN sp x0 x1),.int (sumF f ms1))])):=λc o e=>by rw[eU (ff e hp)];exact t2 _ _ (t1 _ _ e)
 have a3:=eW (H:=cY) (a:=p) (o:=.dK [(Sum.inr (rN sp x0 x1),.ref D2),(Sum.inr (tN sp x0 x1),.int (sumF f ms1))]);generalize upd cY p (.dK [(Sum.inr (rN sp x0 x1),.ref D2),(Sum.inr (tN sp x0 x1),.int (sumF f ms1))])=eQ at cx a3;replace X:=X.same cx;replace cu:=cx _ _ cu;clear cx t1 t2 a1 X1 hp dZ eS;obtain⟨d0,bS⟩:=vW cu (nE X.v1.at_ X.v1.r) (vV (some (sumF f ms1)));obtain⟨eF,d1⟩:=vW a3 (nE X.v2.at_ X.v2.r) (vV (some (sumF f ms1)));refine⟨.ref sh,.ref td,.ref p,.fT (jm sp x0 x1 (.rows key by_ fs)),_,d0,eF,rfl,X.sh.ka X.k.ka,DN hN hW,bS,d1,bQ.1,bQ.2.1,bQ.2.2,λeR cZ=>⟨true,rfl,fL ?_⟩⟩;replace X:=X.same cZ;replace bS:=bS.same cZ;clear d1 a3 cu cZ;have c2:=qj (sp:=sp) (dR:=.lst (gA ms1)) (dT:=jo (some (sumF f ms1))) hN;refine(Zr rfl (Zr rfl (Zr rfl (Zr rfl (Zr rfl ⟨v,dx,pk,pb,key,by_,f,xs,fs,sp,x0,x1,.ref D1,.ref td,_,d0,ms1,none,rfl,X.v,X.k,hN,X.w.f,bS,.inr ⟨_,Zr rfl ⟨bQ,c2.1,c2.2,by omega,bX,.inl ⟨rfl,rfl⟩⟩⟩,λ_ u g tq bE aD a7 cy bF=>?_,λpl e=>by cases e⟩)))));replace X:=X.kf F aD a7;clear aD a7 bS;refine(Zr rfl ⟨gE,λtz cA=>?_⟩);have bv:Same bE (upd bE tz (.tup [.str "done",.ref D2])):=Same.new cA;have bY:=eW (H:=bE) (a:=tz) (o:=.tup [.str "done",.ref D2]);generalize upd bE tz (.tup [.str "done",.ref D2])=d2 at bv bY;replace X:=X.same bv;have up:∀{d:Pb.D},d.dep<=15->d.dep<=16:=λh=>Q3d h;have d3:∀{ms:List Ds},Rs 15 (.rows key by_ fs) (.lst (gA ms)) none->fC (.rows key by_ fs) (.lst (gA ms)):=λh=>h.1;refine⟨.ref pk,.ref tq,.ref tz,.rows key by_ fs,rfl,X.k.ka,hW,⟨tq,tz,rfl,rfl,.inr ⟨u,.ref D2,_,_,_,bv _ _ bF,bY,cy.same bv,nE X.v2.at_ X.v2.r,d3 bu,up bu.2.1,bu.2.2⟩⟩,λd4 aG=>⟨true,rfl,fL ?_⟩⟩;replace X:=X.same aG;clear bv aG bY cA bF cy c2 bQ;refine(Zr rfl (Zr rfl (Zr rfl (Zr rfl (Zr rfl (Zr rfl (Zr rfl ⟨a,b,ns,n8+1,pk,pb,key,by_,f,xs,fs,sp,x0,x1,nl,D3,v3,i4,f3,rfl,X.w.g,by omega,X.k,X.na,X.vZ,hN,ez,eA,X.v3.at_,X.v3.r,R3.ms cM,λz=>X.v3.nb b (Q0e _ z) rfl,X.v3.nb D3 Q04,λt wS wW dS d5 r cC cJ cK ht hO oP hP cL=>?_⟩)))))));replace X:=X.sb cJ cK (by omega);refine⟨t,Zr rfl ⟨eX.of ht,rfl,_,Zr rfl ⟨_,Zr rfl ⟨rfl,?_⟩⟩⟩⟩;clear cJ cK ht;have c3:Rs 15 (.rows key by_ fs) (.lst (gA i4)) none:=k8.rs (N:=12) (R3.ms cM) b5;refine(Zr rfl ⟨gE,λtw d6=>?_⟩);have bT:Same cC (upd cC tw (.tup [.str "refused",wW])):=Same.new d6;have bZ:=eW (H:=cC) (a:=tw) (o:=.tup [.str "refused",wW]);generalize upd cC tw (.tup [.str "refused",wW])=eG at bT bZ;replace X:=X.same bT;replace hO:=hO.same bT;dsimp only[gK];refine jN (A:=ju _ _ _) (λI H'=>∃tw,I=[some (.ref a),some (.ref b),some (.int m),some (.int mn),some (.int d),some (.ref pk),some (.ref Dp),some (.ref b2),some (.ref D1),some (.ref D2),some (.ref D3),some (.ref Dr),some (.str f),some (.ref nl),some (.int (jq sp)),some (.ref v),some (.ref pp),some (.ref sh),some (.ref td),some wS,some wW,some (.ref tw),none]/\Same eG H'/\qq H' tw D3 r) ?_ (λhB=>?_);rotate_left
 . cases r with
   |none=>
    have hP:wW=.non:=hP;subst hP;exact(Zr rfl ⟨rfl,Zr rfl (fY (Zr rfl ⟨gE,λtz cA=>hB _ _ ⟨tz,rfl,Same.new cA,eW⟩⟩))⟩)
   |some pl=>
    obtain⟨l,rfl,hl⟩:=hP;exact(Zr rfl ⟨rfl,Zr rfl (fL (hB _ _ ⟨tw,rfl,Same.refl _,l,bZ,bT _ _ hl,cL pl rfl⟩))⟩)
 clear hP cL bT bZ d6 tw;rintro I c4 ⟨tw,rfl,c5,ah⟩;replace X:=X.same c5;replace hO:=hO.same c5;clear c5;refine(Zr rfl ⟨Q07 _,λl0 d7=>⟨gE,λll c6=>?_⟩⟩);have c7:Same c4 (upd c4 l0 (.lst [])):=Same.new d7;generalize upd c4 l0 (.lst [])=cD at c7 c6;have bw:Same cD (upd cD ll (.lst [.ref D1,.ref l0])):=Same.new c6;have b1:=eW (H:=cD) (a:=ll) (o:=.lst [.ref D1,.ref l0]);generalize upd cD ll (.lst [.ref D1,.ref l0])=eT at bw b1;replace bw:=c7.trans bw;replace X:=X.same bw;replace hO:=hO.same bw;replace ah:=ah.kn (Kn.of bw);clear c7 bw d7 c6;refine⟨ll,rfl,⟨_,d_.of b1⟩,z9 (xs:=[.ref D1,.ref l0]) (λi I H'=>∃y,I=[some (.ref a),some (.ref b),some (.int m),some (.int mn),some (.int d),some (.ref pk),some (.ref Dp),some (.ref b2),some (.ref D1),some (.ref D2),some (.ref D3),some (.ref Dr),some (.str f),some (.ref nl),some (.int (jq sp)),some (.ref v),some (.ref pp),some (.ref sh),some (.ref td),some wS,some wW,some (.ref tw),y]/\RS K Pt Ps Pf Pn a b ns (n8+1+2) C v dx pk pb sh nl key by_ f sp x0 x1 xs fs D1 v1 ms1 f1 D2 v2 f2 D3 v3 i4 f3 H'/\Own H' wS dS d5/\qq H' tw D3 r/\H' ll=some (.lst [.ref D1,.ref l0])) ?_ ?_ ?_ ?_⟩
 . exact(Zr rfl ⟨X,hO,ah,b1⟩)
 . intro i I H' _ zq;obtain⟨y,rfl,_,_,_,hl⟩:=zq;exact d_.of hl
 . intro i x I H' hx zq;obtain⟨y,rfl,X,hO,ah,hl⟩:=zq;refine(Zr rfl (Zr rfl (Zr rfl (Zr rfl (Zr rfl ⟨v,dx,pk,pb,key,by_,f,xs,fs,sp,x0,x1,x,wS,dS,d5,i4,r,rfl,X.v,X.k,hN,X.w.f,hO,oP,λer u g tq bE aD a7 cy bF=>?_,λpl er p tq bE aD a7 hp bF=>?_⟩)))))
   . have kn:=Kn.k7 aD X.w.f;replace X:=X.kf F aD a7;replace ah:=ah.kn kn;have hD:=ah;rw[er] at hD;refine(Zr rfl ⟨.ref pk,.ref tq,.ref tw,.rows key by_ fs,rfl,X.k.ka,hW,⟨tq,tw,rfl,rfl,.inr ⟨u,.ref D3,_,_,_,bF,hD,cy,nE X.v3.at_ X.v3.r,d3 c3,up c3.2.1,c3.2.2⟩⟩,λd4 aG=>⟨true,rfl,fL ?_⟩⟩);exact(Zr rfl ⟨X.same aG,(hO.kn kn).same aG,ah.kn (Kn.of aG),aG _ _ (kn.lst hl)⟩)
   . have kn:=Kn.k7 aD X.w.f;replace X:=X.kf F aD a7;replace ah:=ah.kn kn;have hD:=ah;rw[er] at hD;obtain⟨p2,h1,h2,h3⟩:=hD;refine(Zr rfl ⟨.ref pk,.ref tq,.ref tw,.rows key by_ fs,rfl,X.k.ka,hW,⟨tq,tw,rfl,rfl,.inl ⟨p,p2,pl,bF,h1,hp,h2,h3⟩⟩,λd4 aG=>⟨true,rfl,fL ?_⟩⟩);exact(Zr rfl ⟨X.same aG,(hO.kn kn).same aG,ah.kn (Kn.of aG),aG _ _ (kn.lst hl)⟩)
 . rintro I H' ⟨y,rfl,X,_⟩;exact(Zr rfl (Zr rfl (Zr rfl ⟨.ref pk,.ref D1,.ref D2,.rows key by_ fs,.lst (gA ms1),_,Zr rfl ⟨X.k.ka,hW,nE X.v1.at_ X.v1.r,nE X.v2.at_ X.v2.r,bu.1,up bu.2.1,bu.2.2,λd2 bv=>q _ d2 (X.same bv).w (by omega)⟩⟩)))
end
theorem jz.Lj {K:W.Frag}{H H':Hp}{a:Addr}{ns:List Int}(h:jz K H a ns)(s:Same H H'):jz K H' a ns:=by
 rcases h with⟨o,h⟩|h
 . exact .inl ⟨o,s _ _ h⟩
 . exact .inr h
def v5 (K:W.Frag) (Pt Ps Pf Pn:Addr):Sp:=λvs H Q _=>∃(a:Addr) (ns:List Int),vs=[.ref a]/\jz K H a ns/\ns.length<=63/\fi Pt iD iE H/\fi Ps nu nv H/\fi Pf i2 i3 H/\fi Pn oM oN H/\∀H',Q (.bl true) H'
section
variable {P:Program}{w:World}{K:W.Frag}{mg:Str->Option Value}{base:Heap}
variable {Pt Ps Pf Pn:Addr}
theorem Lk:f_ ["_law_script","_law_at","_law_k"] ["_law_script"] (fo (top 47)):=gz
theorem Ll (T:Tb mg)(Y:Dn K mg "law" ["_law_script"] (top 47) aa ab)(I:Dn K mg "_law_round" fJ (top 46) J L)(U:eZ P w K mg base e_ (132) J L fJ (Eb K Pt Ps Pf Pn)):eZ P w K mg base e_ (133) aa ab ["_law_script"] (v5 K Pt Ps Pf Pn):=by
 refine Y.F.ok Lk λvs H Q E h=>?_;obtain⟨a,ns,rfl,hS,ae,h1,h2,h3,h4,q⟩:=h;refine⟨rfl,λag A outer s nd hr hu=>?_⟩
 refine⟨_,(eV (fj 1 nd (gu (a_ b_ c_)))
  (eV (jc PassesOwn.never rfl (mF rfl T.lZ (a_ (eY iq b_ (eY gJ (fZ iu (by rfl) T.ib PySem.boot_len (a_ (jJ kg (pv 0) jH (jI b_)) c_)) b_)) c_)) (gq (i:=2) nd rfl gO) (fc (fA (iB (iy (fx U hr I (a_ (pv 0) (a_ (pv 1) c_))))) (fc (fg iw)) fy)))
  (fc (fg iw)))),?_⟩
 ac_rfl
 refine⟨hX,λb hb=>?_⟩;have s0:Same H (upd H b (.lst [.int 0])):=Same.new hb;have W0:RW K Pt Ps Pf Pn a b ns 0 (upd H b (.lst [.int 0])):=⟨⟨jz.Lj hS s0,ae,eW,by decide⟩,h1.same s0,h2.same s0,h3.same s0,h4.same s0⟩;refine(Zr rfl (Zr rfl ⟨a,Zr rfl ⟨W0.g.jA.sq,λp hp=>?_⟩⟩));have ac:=Ax (ns.map V.int) none (some 60);rw[Q03] at ac;refine⟨p,Zr rfl ⟨.inl (d_.of eW),_,Zr rfl ⟨rfl,⟨by decide,by decide⟩,_,Zr rfl ⟨rfl,Zr rfl ⟨?_,?_,?_⟩⟩⟩⟩⟩
 . omega
 . omega
 have W1:=W0.same (Same.new hp (o:=.lst (kL (ns.map V.int) none (some 60))));generalize hc:(1+((kL (ns.map V.int) none (some 60)).length:Int) / 40).toNat=cnt;have af:cnt<=3:=by omega
 refine lQ (n:=cnt) (λi σ H'=>∃(x:Option V) (n:Int),σ=[some (.ref a),some (.ref b),x]/\RW K Pt Ps Pf Pn a b ns n H'/\n<=10000000 * i) ?_ ?_ ?_
 . exact⟨_,0,rfl,W1,by omega⟩
 . rintro i σ H' hi ⟨x,n,rfl,W,hn⟩;exact(Zr rfl (Zr rfl ⟨a,b,ns,n,rfl,W,by omega,λn' H2 W2 ah=>⟨true,rfl,fL ⟨_,n',rfl,W2,by omega⟩⟩⟩))
 . rintro σ H' ⟨x,n,rfl,_⟩;exact q _
end
end Pb
namespace Pb
open L2
abbrev Ec (K:W.Frag) (x U:Str) (st:Stmt) (f:Addr):Prop:=∃(Y:Value) (od:Option Addr) (kV J pm:Value) (an:Option Addr) (I ct:Value) (L:Array (Option Value)),K.lookup f=some ⟨Y,od,.func (W.fnOf x U (iJ st) (h8 st) (fo st) .none kV J pm an I ct),L⟩/\W.codeIn K I U=true/\W.keepIn K (.ref f)=true
abbrev gQ (K:W.Frag) (x:Str) (st:Stmt):Prop:=∃f,W.nsIn K mainGlobals x=some (some (.ref f))/\Ec K x x st f
abbrev HB (x L:Str) (ps:List Str) (st:Stmt):Prop:=∀(kV I U:Value) (Y:Option Addr) (J ct:Value) (us:List Value),us.length=ps.length->bindArgs (W.fnOf x L (iJ st) (h8 st) (fo st) .none kV I U Y J ct) ⟨us,[]⟩=pure (ps.zip us)
theorem gX {K:W.Frag}{mg:Str->Option Value}{h:Heap}{x:Str}{ps:List Str}{st:Stmt}(X:K.In h)(G:h.Ns mainGlobals mg)(a:gQ K x st)(L:HB x x ps st):∃f d,Dn K mg x ps st f d/\∀us:List Value,us.length=ps.length->bindArgs d ⟨us,[]⟩=pure (ps.zip us):=by
 obtain⟨f,a,oc,od,kV,I,U,Y,J,ct,aa,l,c,k⟩:=a;have F:=pE (st:=st) l c k;exact⟨f,_,⟨F,F.binds L,W.mg_of X G a⟩,L kV I U Y J ct⟩
abbrev iQ (K:W.Frag) (C ns:Addr) (x I:Str) (st:Stmt) (f:Addr):Prop:=W.nsIn K ns x=some (some (.ref f))/\Ec K x I st f/\W.isFn K (.ref f)=true/\W.findIn K (.ref C) x=some (some (.ref f))
theorem mh {K:W.Frag}{C ns:Addr}{x I:Str}{ps:List Str}{st:Stmt}{f:Addr}(a:iQ K C ns x I st f)(Y:HB x I ps st):∃d,Dm K x I ps st f d:=by
 obtain⟨_,⟨oc,od,kV,J,pm,an,L,ct,U,l,c,k⟩,_,_⟩:=a;have F:ko K x I st f _:=⟨⟨oc,od,kV,J,pm,an,L,ct,U,rfl,l,c⟩,k⟩;exact⟨_,F,F.binds Y⟩
theorem Ln {K:W.Frag}{x:Str}{st:Stmt}{f:Addr}{U:Value}{Y an:Option Addr}{kV J pm I ct:Value}{L:Array (Option Value)}(a:W.nsIn K mainGlobals x=some (some (.ref f)))(l:K.lookup f=some ⟨U,Y,.func (W.fnOf x x (iJ st) (h8 st) (fo st) .none kV J pm an I ct),L⟩)(c:W.codeIn K I x=true)(k:W.keepIn K (.ref f)=true):gQ K x st:=⟨f,a,U,Y,kV,J,pm,an,I,ct,L,l,c,k⟩
theorem Lp {K:W.Frag}{C ns:Addr}{x U:Str}{st:Stmt}{f:Addr}{Y:Value}{od an:Option Addr}{kV J pm I ct:Value}{L:Array (Option Value)}(a:W.nsIn K ns x=some (some (.ref f)))(l:K.lookup f=some ⟨Y,od,.func (W.fnOf x U (iJ st) (h8 st) (fo st) .none kV J pm an I ct),L⟩)(c:W.codeIn K I U=true)(k:W.keepIn K (.ref f)=true)(h:W.isFn K (.ref f)=true)(g:W.findIn K (.ref C) x=some (some (.ref f))):iQ K C ns x U st f:=⟨a,⟨Y,od,kV,J,pm,an,I,ct,L,l,c,k⟩,h,g⟩
theorem iQ.meth {K:W.Frag}{C ns:Addr}{x I:Str}{st:Stmt}{f:Addr}(a:iQ K C ns x I st f):Meth K C x f:=by
 obtain⟨_,⟨_,_,_,_,_,_,_,_,_,_,_,k⟩,h1,h2⟩:=a;exact⟨h2,h1,k⟩
abbrev Lq (K:W.Frag) (C:Addr):Prop:=W.plainGet K C Str.empty=true/\W.hasDictIn K C=true/\W.plainOver K C=true/\W.findIn K (.ref C) "__setattr__"=some (some (.builtin "object.__setattr__"))/\W.makesIn K C=true/\W.keepIn K (.ref C)=true
theorem len1 {α:Type}{l:List α}(h:l.length=1):∃a,l=[a]:=match l,h with|[a],_=>⟨a,rfl⟩
theorem len2 {α:Type}{l:List α}(h:l.length=2):∃a b,l=[a,b]:=match l,h with|[a,b],_=>⟨a,b,rfl⟩
theorem nG {α:Type}{l:List α}(h:l.length=3):∃a b c,l=[a,b,c]:=match l,h with|[a,b,c],_=>⟨a,b,c,rfl⟩
theorem lJ {α:Type}{l:List α}(h:l.length=4):∃a b c d,l=[a,b,c,d]:=match l,h with|[a,b,c,d],_=>⟨a,b,c,d,rfl⟩
theorem Lr {α:Type}{l:List α}(h:l.length=5):∃a b c d e,l=[a,b,c,d,e]:=match l,h with|[a,b,c,d,e],_=>⟨a,b,c,d,e,rfl⟩
theorem Ls {α:Type}{l:List α}(h:l.length=7):∃a b c d e f g,l=[a,b,c,d,e,f,g]:=match l,h with|[a,b,c,d,e,f,g],_=>⟨a,b,c,d,e,f,g,rfl⟩
theorem Lu {K:W.Frag}{h:Heap}{f:Addr}(X:K.In h)(e:W.isFn K (.ref f)=true):∃o,h.get? f=some o/\o.cls=.type "function":=by
 have e:W.typeIn K (.ref f)=some (.type "function"):=beq_iff_eq.mp e;obtain⟨o,I,hc⟩:=Option.map_eq_some_iff.mp (show(K.lookup f).map (·.cls)=_ from e);exact⟨o,X _ _ I,hc⟩
open W in
theorem Lv {K:Frag}{h:Heap}{N:Addr}{n:Str}{v:Value}(X:K.In h)(ok:nsOkIn K N=true)(e:nsIn K N n=some (some v)):h.nsMap N n=some v:=by
 obtain⟨o,es,ep,I,J,_,L⟩:h.Ns N (h.nsMap N):=.of_isNs (isNs_of_in X ok);unfold nsIn at e;split at e
 . rename_i c d Y n' sl q;have:=X _ _ q;rw[I] at this
   cases this
   cases J;split at e
   . rename_i e' U
     cases e;rw[<-L];unfold nsFind findBy;rw[<-Q2t,U];rfl
   . split at e <;> cases e
 . cases e
open W in
noncomputable def v7 (K:Frag) (C fI:Addr) (L:List Value) (I:String):Bool:=match K.lookup C with
 |some ⟨.type "type",_,.cls J,U⟩=>(match J.mro,U.toList with
  | .ref Y::bm,[_,_,_,_,some (.builtin n),_]=>Y == C && n == I && !J.hasDel && tailIn K L bm && nsOkIn K J.ns && nsIn K J.ns "__init__" == some (some (.ref fI))
  |_,_=>false)
 |_=>false
theorem Lw {K:W.Frag}{h:Heap}{C fI:Addr}{jl:List Value}{nid:String}(X:K.In h)(q:v7 K C fI jl nid=true)(hf:W.isFn K (.ref fI)=true):l8 h C fI jl nid:=by
 unfold v7 at q;split at q
 next dct U ae look=>
  split at q
  next D tl s0 s1 s2 s3 nm s5 L Y=>
   obtain⟨q,J⟩:=Bool.and_eq_true_iff.mp q;obtain⟨q,ac⟩:=Bool.and_eq_true_iff.mp q;obtain⟨q,ab⟩:=Bool.and_eq_true_iff.mp q;obtain⟨q,I⟩:=Bool.and_eq_true_iff.mp q;obtain⟨hC,aa⟩:=Bool.and_eq_true_iff.mp q;have hC:=beq_iff_eq.mp hC;have aa:=beq_iff_eq.mp aa;have J:=beq_iff_eq.mp J
   have I:U.hasDel=false:=by
    cases e:U.hasDel with
    |false=>rfl
    |true=>rw[e] at I;cases I
   subst hC;subst aa;obtain⟨c1,c2,c3,c4,c5,c6,c7,c8,c9,af,ag⟩:=U;have L:c3=_:=L;have I:ag=false:=I;subst L;subst I;obtain⟨sl⟩:=ae;have Y:sl=_:=Y;subst Y;obtain⟨oI,hI,ah⟩:=Lu X hf;exact⟨tl,c4,c1,c5,c2,c6,c7,c8,c9,af,dct,s0,s1,s2,s3,s5,_,oI,X _ _ look,.of_isNs (W.isNs_of_in X ac),Lv X ac J,W.tail_of_in X ab,hI,ah⟩
  next=>cases q
 next=>cases q
abbrev Ed (K:W.Frag) (C f:Addr) (J:Str):Prop:=v7 K C f DB "ValueError.__new__"=true/\W.keepIn K (.ref C)=true/\W.findIn K (.ref C) "__setattr__"=some (some (.builtin "object.__setattr__"))/\W.findIn K (.ref C) J=some none/\W.mroIn K C (.type "object")=some true/\((W.clsIn K C).any λI=>sE I.mro && I.hasDict)=true/\W.findIn K (.ref C) "__getattribute__"=some (some (.builtin "BaseException.__getattribute__"))/\W.findIn K (.ref C) "__getattr__"=some none/\W.findIn K (.ref C) "__class__"=some (some (.builtin "object.__class__"))/\W.mroIn K C (.type "BaseException")=some true/\(W.clsIn K C).isSome=true/\W.typeIn K (.ref C)=some (.type "type")/\W.subIn K (.ref C) (.type "BaseException")=some true/\W.subIn K (.ref C) (.ref C)=some true
theorem Lx {K:W.Frag}{mg:Str->Option Value}{h base:Heap}{x:Str}{C f:Addr}(X:K.In h)(G:h.Ns mainGlobals mg)(X1:K.In base)(a:W.nsIn K mainGlobals x=some (some (.ref C)))(hf:W.isFn K (.ref f)=true)(e:Ed K C f "way"):DC K mg base x C f:=by
 obtain⟨e1,e2,e3,e4,e5,e6,e7,e8,e9,J,I,L,U,Y⟩:=e;exact⟨Lw X1 e1 hf,e2,W.mg_of X G a,⟨e3,e4,e5,e6⟩,⟨e7,e8,e9,e5,J,I⟩,L,I,U,Y⟩
theorem all_mk {l:W.OpenLaw}{w:World}{K:W.Frag}{h:Heap}{mg:Str->Option Value}{fa:Addr}(X:K.In h)(G:h.Ns mainGlobals mg)(cb:mg "law"=some (.ref fa))
 (v8:gQ K "kind_at" (top 6))
 (v9:gQ K "record_of" (top 8))
 (v_:gQ K "misfit" (top 10))
 (wa:gQ K "record_misfit" (top 11))
 (wb:gQ K "has_just" (top 12))
 (wc:gQ K "rows_misfit" (top 13))
 (we:gQ K "is_pair" (top 14))
 (wg:gQ K "tree_misfit" (top 15))
 (wj:gQ K "either_misfit" (top 16))
 (wm:gQ K "rank" (top 17))
 (wo:gQ K "ask_fit" (top 19))
 (wq:gQ K "ask_stands" (top 20))
 (wu:gQ K "_law_next" (top 25))
 (wx:gQ K "_law_number" (top 26))
 (wz:gQ K "_law_word" (top 27))
 (wA:gQ K "_law_names" (top 28))
 (wB:gQ K "_law_plain" (top 29))
 (wC:gQ K "_law_fields" (top 30))
 (wD:gQ K "_law_rows_kind" (top 31))
 (wF:gQ K "_law_kind" (top 32))
 (wG:gQ K "_law_rank" (top 33))
 (wH:gQ K "_law_value" (top 35))
 (wI:gQ K "_law_alike" (top 36))
 (wJ:gQ K "_law_way" (top 37))
 (wK:gQ K "_law_stranger" (top 38))
 (wM:gQ K "_law_pool" (top 39))
 (wN:gQ K "_law_spoilt" (top 41))
 (wO:gQ K "_law_put" (top 42))
 (wQ:gQ K "_law_same_end" (top 43))
 (wR:gQ K "_law_seen" (top 45))
 (wU:gQ K "_law_round" (top 46))
 (wV:gQ K "law" (top 47))
 {fR:Addr} {cc:Value} {cd bx:Option Addr} {bz bA bB bt bC:Value} {ce:Array (Option Value)} (aR:W.nsIn K mainGlobals "_law_rows"=some (some (.ref fR))) (lR:K.lookup fR=some ⟨cc,cd,.func (W.fnOf "_law_rows" "_law_rows" (iJ (top 34)) (h8 (top 34)) (fo (top 34)) .none bz bA bB bx bt bC),ce⟩) (wX:W.codeIn K bt "_law_rows"=true) (kR:W.keepIn K (.ref fR)=true)
 {fS:Addr} {cf:Value} {cg bD:Option Addr} {bE bF bG bu bH:Value} {ci:Array (Option Value)} (aS:W.nsIn K mainGlobals "_law_some"=some (some (.ref fS))) (lS:K.lookup fS=some ⟨cf,cg,.func (W.fnOf "_law_some" "_law_some" (iJ (top 40)) (h8 (top 40)) (fo (top 40)) .none bE bF bG bD bu bH),ci⟩) (wY:W.codeIn K bu "_law_some"=true) (kS:W.keepIn K (.ref fS)=true)
 {fN:Addr} {cj:Value} {cm bI:Option Addr} {bJ bK bL bv bM:Value} {cn:Array (Option Value)} (aN:W.nsIn K mainGlobals "sorted_fields"=some (some (.ref fN))) (lN:K.lookup fN=some ⟨cj,cm,.func (W.fnOf "sorted_fields" "sorted_fields" (iJ (top 7)) (h8 (top 7)) (fo (top 7)) .none bJ bK bL bI bv bM),cn⟩) (wZ:W.codeIn K bv "sorted_fields"=true) (kN:W.keepIn K (.ref fN)=true)
 {fO:Addr} {co:Value} {cp bN:Option Addr} {bO bP bQ bw bR:Value} {cq:Array (Option Value)} (aO:W.nsIn K mainGlobals "_law_number_kind"=some (some (.ref fO))) (lO:K.lookup fO=some ⟨co,cp,.func (W.fnOf "_law_number_kind" "_law_number_kind" (iJ (top 44)) (h8 (top 44)) (fo (top 44)) .none bO bP bQ bN bw bR),cq⟩) (w5:W.codeIn K bw "_law_number_kind"=true) (kO:W.keepIn K (.ref fO)=true)
 (zz:∀x∈(["len","isinstance","sorted","all","range","enumerate","zip","int","bool","str","list","tuple","dict","min","sum"]:List Str),W.nsIn K mainGlobals x=some none)
 {J aa:Addr} {bc:Value} {bd:Option Addr} {be:Array (Option Value)} {aV:ClassData}
 (w6:W.nsIn K mainGlobals "Beside"=some (some (.ref J))) (Ee:K.lookup J=some ⟨bc,bd,.cls aV,be⟩) (Ef:aV.ns=aa)
 {a3 a6:Addr} {bh:Value} {bi:Option Addr} {bj:Array (Option Value)} {a7:ClassData}
 (Eg:W.nsIn K mainGlobals "View"=some (some (.ref a3))) (Eh:K.lookup a3=some ⟨bh,bi,.cls a7,bj⟩) (Ej:a7.ns=a6)
 {au aP:Addr} {a8:Value} {a9:Option Addr} {ba:Array (Option Value)} {aQ:ClassData}
 (w_:W.nsIn K mainGlobals "CantPut"=some (some (.ref au))) (El:K.lookup au=some ⟨a8,a9,.cls aQ,ba⟩) (Em:aQ.ns=aP)
 {aj:Addr} (sT:iQ K J aa "__init__" "Beside.__init__" (fF 23 0) aj)
 {am:Addr} (sU:iQ K J aa "behind" "Beside.behind" (fF 23 1) am)
 {aC:Addr} (sW:iQ K J aa "see" "Beside.see" (fF 23 2) aC)
 {aD:Addr} (sX:iQ K J aa "put" "Beside.put" (fF 23 3) aD)
 {an:Addr} (sY:iQ K J aa "sum_of" "Beside.sum_of" (fF 23 4) an)
 {ax:Addr} (sZ:iQ K J aa "keeps" "Beside.keeps" (fF 23 5) ax)
 {ae:Addr} (s_:iQ K a3 a6 "grade" "View.grade" (fF 21 3) ae)
 {ag:Addr} (ti:iQ K au aP "__init__" "CantPut.__init__" (fF 4 0) ag)
 (xa:W.findIn K (.ref J) "field"=some none)
 (xb:W.findIn K (.ref J) "rows"=some none)
 (xc:W.findIn K (.ref J) "total"=some none)
 (xf:W.findIn K (.ref J) "grade"=some (some (.ref ae)))
 (xg:Lq K J) (xh:Ed K au ag "way")
 {cR PR:Addr} {bU:Value} {bV:Option Addr} {bo:Array Value} {bW:Array (Option Value)} (xj:bt=.ref cR) (En:K.lookup cR=some ⟨bU,bV,.fields bo,bW⟩) (oP:bo[11]? =some (.ref PR)) (xl:W.codeHdIn K cR PR=true)
 {cS PS:Addr} {bX:Value} {bY:Option Addr} {bp:Array Value} {bZ:Array (Option Value)} (xm:bu=.ref cS) (Eo:K.lookup cS=some ⟨bX,bY,.fields bp,bZ⟩) (Ep:bp[11]? =some (.ref PS)) (xn:W.codeHdIn K cS PS=true)
 {cN PN:Addr} {b1:Value} {b2:Option Addr} {bq:Array Value} {b3:Array (Option Value)} (xo:bv=.ref cN) (Er:K.lookup cN=some ⟨b1,b2,.fields bq,b3⟩) (Es:bq[11]? =some (.ref PN)) (xp:W.codeHdIn K cN PN=true)
 {cO PO:Addr} {b4:Value} {b5:Option Addr} {br:Array Value} {b6:Array (Option Value)} (xq:bw=.ref cO) (Et:K.lookup cO=some ⟨b4,b5,.fields br,b6⟩) (Eu:br[11]? =some (.ref PO)) (xr:W.codeHdIn K cO PO=true)
 (xt:Fr PR PS PN PO)
 :∃fd:FuncData,(∀(s:Shared) (v:Value),BindsTo s fd ⟨[v],[]⟩ [("_law_script",v)])/\∀base:Heap,K.In base->base.Ns mainGlobals mg->BM mg base->eZ l.prog w K mg base e_ 133 fa fd ["_law_script"] (v5 K PR PS PN PO):=by
 have zz:=λx hx=>W.mg_none_of X G (zz x hx);have T:Tb mg:=⟨zz _ (by simp),zz _ (by simp),zz _ (by simp),zz _ (by simp),zz _ (by simp),zz _ (by simp),zz _ (by simp),zz _ (by simp),zz _ (by simp),zz _ (by simp),zz _ (by simp),zz _ (by simp),zz _ (by simp),zz _ (by simp),zz _ (by simp)⟩;obtain⟨_,_,aG,_⟩:=gX (ps:=["fields","name"]) X G v8 (λ_ _ _ _ _ _ _ h=>by obtain⟨_,_,rfl⟩:=len2 h;rfl);obtain⟨_,_,aH,_⟩:=gX (ps:=["pairs"]) X G v9 (λ_ _ _ _ _ _ _ h=>by obtain⟨_,rfl⟩:=len1 h;rfl);obtain⟨_,_,a2,_⟩:=gX (ps:=["kind","value"]) X G v_ (λ_ _ _ _ _ _ _ h=>by obtain⟨_,_,rfl⟩:=len2 h;rfl);obtain⟨_,_,aL,_⟩:=gX (ps:=XR) X G wa (λ_ _ _ _ _ _ _ h=>by obtain⟨_,_,rfl⟩:=len2 h;rfl);obtain⟨_,_,bb,_⟩:=gX (ps:=XR) X G wb (λ_ _ _ _ _ _ _ h=>by obtain⟨_,_,rfl⟩:=len2 h;rfl);obtain⟨_,_,aX,_⟩:=gX (ps:=["kind","rows"]) X G wc (λ_ _ _ _ _ _ _ h=>by obtain⟨_,_,rfl⟩:=len2 h;rfl);obtain⟨_,_,bf,_⟩:=gX (ps:=["value"]) X G we (λ_ _ _ _ _ _ _ h=>by obtain⟨_,rfl⟩:=len1 h;rfl);obtain⟨_,_,aY,_⟩:=gX (ps:=["kind","tree"]) X G wg (λ_ _ _ _ _ _ _ h=>by obtain⟨_,_,rfl⟩:=len2 h;rfl);obtain⟨_,_,aM,_⟩:=gX (ps:=["fields","value"]) X G wj (λ_ _ _ _ _ _ _ h=>by obtain⟨_,_,rfl⟩:=len2 h;rfl);obtain⟨_,_,bn,_⟩:=gX (ps:=["kind","row"]) X G wm (λ_ _ _ _ _ _ _ h=>by obtain⟨_,_,rfl⟩:=len2 h;rfl);obtain⟨_,_,aW,_⟩:=gX (ps:=["kind","seen"]) X G wo (λ_ _ _ _ _ _ _ h=>by obtain⟨_,_,rfl⟩:=len2 h;rfl);obtain⟨_,_,aE,_⟩:=gX (ps:=["stands"]) X G wq (λ_ _ _ _ _ _ _ h=>by obtain⟨_,rfl⟩:=len1 h;rfl);obtain⟨_,_,I,_⟩:=gX (ps:=XD) X G wu (λ_ _ _ _ _ _ _ h=>by obtain⟨_,_,rfl⟩:=len2 h;rfl);obtain⟨_,_,aZ,_⟩:=gX (ps:=XD) X G wx (λ_ _ _ _ _ _ _ h=>by obtain⟨_,_,rfl⟩:=len2 h;rfl);obtain⟨_,_,a4,_⟩:=gX (ps:=XD) X G wz (λ_ _ _ _ _ _ _ h=>by obtain⟨_,_,rfl⟩:=len2 h;rfl);obtain⟨_,_,Y,_⟩:=gX (ps:=Xd) X G wA (λ_ _ _ _ _ _ _ h=>by obtain⟨_,_,_,rfl⟩:=nG h;rfl);obtain⟨_,_,af,_⟩:=gX (ps:=XD) X G wB (λ_ _ _ _ _ _ _ h=>by obtain⟨_,_,rfl⟩:=len2 h;rfl);obtain⟨_,_,a1,_⟩:=gX (ps:=XH) X G wC (λ_ _ _ _ _ _ _ h=>by obtain⟨_,_,_,_,rfl⟩:=lJ h;rfl);obtain⟨_,_,L,_⟩:=gX (ps:=XH) X G wD (λ_ _ _ _ _ _ _ h=>by obtain⟨_,_,_,_,rfl⟩:=lJ h;rfl);obtain⟨_,_,av,_⟩:=gX (ps:=XU) X G wF (λ_ _ _ _ _ _ _ h=>by obtain⟨_,_,_,rfl⟩:=nG h;rfl);obtain⟨_,_,aw,_⟩:=gX (ps:=Xb) X G wG (λ_ _ _ _ _ _ _ h=>by obtain⟨_,_,rfl⟩:=len2 h;rfl);obtain⟨_,_,ak,_⟩:=gX (ps:=XM) X G wH (λ_ _ _ _ _ _ _ h=>by obtain⟨_,_,_,_,rfl⟩:=lJ h;rfl);obtain⟨_,_,al,_⟩:=gX (ps:=XF) X G wI (λ_ _ _ _ _ _ _ h=>by obtain⟨_,_,_,rfl⟩:=nG h;rfl);obtain⟨_,_,aT,_⟩:=gX (ps:=XY) X G wJ (λ_ _ _ _ _ _ _ h=>by obtain⟨_,_,rfl⟩:=len2 h;rfl);obtain⟨_,_,ao,_⟩:=gX (ps:=Xc) X G wK (λ_ _ _ _ _ _ _ h=>by obtain⟨_,_,_,rfl⟩:=nG h;rfl);obtain⟨_,_,aI,_⟩:=gX (ps:=XV) X G wM (λ_ _ _ _ _ _ _ h=>by obtain⟨_,_,_,_,rfl⟩:=lJ h;rfl);obtain⟨_,_,ay,_⟩:=gX (ps:=XQ) X G wN (λ_ _ _ _ _ _ _ h=>by obtain⟨_,_,_,_,rfl⟩:=lJ h;rfl);obtain⟨_,_,aU,_⟩:=gX (ps:=XN) X G wO (λ_ _ _ _ _ _ _ h=>by obtain⟨_,_,_,_,rfl⟩:=lJ h;rfl);obtain⟨_,_,ap,_⟩:=gX (ps:=XF) X G wQ (λ_ _ _ _ _ _ _ h=>by obtain⟨_,_,_,rfl⟩:=nG h;rfl);obtain⟨_,_,aJ,_⟩:=gX (ps:=XI) X G wR (λ_ _ _ _ _ _ _ h=>by obtain⟨_,_,_,_,_,_,_,rfl⟩:=Ls h;rfl);obtain⟨_,_,aF,_⟩:=gX (ps:=XD) X G wU (λ_ _ _ _ _ _ _ h=>by obtain⟨_,_,rfl⟩:=len2 h;rfl);obtain⟨_,_,bg,hB⟩:=gX (ps:=["_law_script"]) X G wV (λ_ _ _ _ _ _ _ h=>by obtain⟨_,rfl⟩:=len1 h;rfl);subst xj
 have a5:Dn K mg "_law_rows" iL (top 34) fR (W.fnOf "_law_rows" "_law_rows" (iJ (top 34)) (h8 (top 34)) (fo (top 34)) .none bz bA bB bx (.ref cR) bC):=by
  have F:=pE (st:=(top 34)) lR wX kR;exact⟨F,F.binds (λ_ _ _ _ _ _ _ h=>by obtain⟨_,_,_,_,rfl⟩:=lJ h;rfl),W.mg_of X G aR⟩
 subst xm
 have aK:Dn K mg "_law_some" pX (top 40) fS (W.fnOf "_law_some" "_law_some" (iJ (top 40)) (h8 (top 40)) (fo (top 40)) .none bE bF bG bD (.ref cS) bH):=by
  have F:=pE (st:=(top 40)) lS wY kS;exact⟨F,F.binds (λ_ _ _ _ _ _ _ h=>by obtain⟨_,_,_,_,_,rfl⟩:=Lr h;rfl),W.mg_of X G aS⟩
 subst xo
 have aq:Dn K mg "sorted_fields" lG (top 7) fN (W.fnOf "sorted_fields" "sorted_fields" (iJ (top 7)) (h8 (top 7)) (fo (top 7)) .none bJ bK bL bI (.ref cN) bM):=by
  have F:=pE (st:=(top 7)) lN wZ kN;exact⟨F,F.binds (λ_ _ _ _ _ _ _ h=>by obtain⟨_,rfl⟩:=len1 h;rfl),W.mg_of X G aN⟩
 subst xq
 have ah:Dn K mg "_law_number_kind" iP (top 44) fO (W.fnOf "_law_number_kind" "_law_number_kind" (iJ (top 44)) (h8 (top 44)) (fo (top 44)) .none bO bP bQ bN (.ref cO) bR):=by
  have F:=pE (st:=(top 44)) lO w5 kO;exact⟨F,F.binds (λ_ _ _ _ _ _ _ h=>by obtain⟨_,_,_,rfl⟩:=nG h;rfl),W.mg_of X G aO⟩
 obtain⟨_,ai⟩:=mh (ps:=XZ) sT (λ_ _ _ _ _ _ _ h=>by obtain⟨_,_,_,_,rfl⟩:=lJ h;rfl);obtain⟨_,ab⟩:=mh (ps:=Xk) sU (λ_ _ _ _ _ _ _ h=>by obtain⟨_,_,rfl⟩:=len2 h;rfl);obtain⟨_,az⟩:=mh (ps:=Xe) sW (λ_ _ _ _ _ _ _ h=>by obtain⟨_,_,_,rfl⟩:=nG h;rfl);obtain⟨_,aA⟩:=mh (ps:=Xa) sX (λ_ _ _ _ _ _ _ h=>by obtain⟨_,_,_,_,rfl⟩:=lJ h;rfl);obtain⟨_,ac⟩:=mh (ps:=Xi) sY (λ_ _ _ _ _ _ _ h=>by obtain⟨_,_,rfl⟩:=len2 h;rfl);obtain⟨_,ar⟩:=mh (ps:=Xl) sZ (λ_ _ _ _ _ _ _ h=>by obtain⟨_,_,rfl⟩:=len2 h;rfl);obtain⟨_,aB⟩:=mh (ps:=["self"]) s_ (λ_ _ _ _ _ _ _ h=>by obtain⟨_,rfl⟩:=len1 h;rfl);obtain⟨_,U⟩:=mh (ps:=["self","way"]) ti (λ_ _ _ _ _ _ _ h=>by obtain⟨_,_,rfl⟩:=len2 h;rfl);have e:=cb.symm.trans bg.m
 cases e;refine⟨_,λs v=>.of_eq (hB [v] rfl),λbase X1 _ bm=>?_⟩;have b7:=W.codeHd_of_K X1 xl;have b8:=W.codeHd_of_K X1 xn;have b9:=W.codeHd_of_K X1 xp;have ca:=W.codeHd_of_K X1 xr;obtain⟨t1,t2,t3,t4,t5,t6⟩:=xg
 have MG:Meth K J "grade" ae:=by
  obtain⟨_,⟨_,_,_,_,_,_,_,_,_,_,_,k⟩,h1,_⟩:=s_;exact⟨xf,h1,k⟩
 have MI:=iQ.meth sT;have OF:me K mg J aj am aC aD an ae ax:=⟨⟨t1,t2,t3,t4⟩,xa,xb,xc,⟨t5,MI.1,MI.2,t6⟩,W.mg_of X G w6,iQ.meth sU,iQ.meth sW,iQ.meth sX,iQ.meth sY,MG,iQ.meth sZ⟩;have XC:=Lx X G X1 w_ ti.2.2.1 xh;have N0:=p8 (P:=l.prog) (w:=w) (base:=base) T I;have N:=rW N0;have Nm:=Cc T Y I N;have Pl:=uZ T af I N;have bS:=λd=>kind_all (P:=l.prog) (w:=w) (base:=base) T av I af Y a1 L d;have cr:=u3 0 T L Y Nm I N af Pl av (bS 0);have cs:=u3 1 T L Y Nm I N af Pl av (bS 1);have cu:eZ l.prog w K mg base e_ 7 _ _ _ (vP K):=(cr.mono (by decide)).or cs;have V_:=Ct (P:=l.prog) (w:=w) T ak a5 rfl b7 bm I aZ a4 aw 60;have M:=Df (P:=l.prog) (w:=w) (base:=base) T a2 aL bb aX bn aY bf aM aG;have AA:=C9 (P:=l.prog) (w:=w) (base:=base) T al 16;have Ka:=C2 (P:=l.prog) (w:=w) (base:=base) T aG;have cw:=Cp (P:=l.prog) (w:=w) (base:=base) T aw;have SO:=IC 60 T aK rfl b8 bm I N0 aw cw ak V_;have PO:=Jr 60 T aI ak V_;have ST:=KR T ao I N;have NK:=KU T ah rfl ca bm I N L cu ao ST;have SF:=JZ (P:=l.prog) (w:=w) T aq rfl b9 bm;have cx:=J1 T aH aq SF;have AS:=JU (P:=l.prog) (w:=w) (base:=base) T aE;have BI:=Kk (P:=l.prog) (w:=w) (base:=base) T OF ai;have GR:=J5 (P:=l.prog) (w:=w) (base:=base) T aB;have BK:=Km (P:=l.prog) (w:=w) (base:=base) T ar;have SU:=Kq (P:=l.prog) (w:=w) (base:=base) T OF ac;have BB:=Ks T OF ab aE AS aG Ka aH cx;have BS:=Kv T OF az ac SU;have bT:=J7 (P:=l.prog) (w:=w) T XC U;have AF:=J8 16 64 T XC aW a2 (M 16).1 U bT;have BP:=Kw 16 64 T OF XC aA aW AF ab BB ac SU U bT (by decide);have LP:=Ky 16 64 T OF XC aU aA BP;have WY:=Kc (P:=l.prog) (w:=w) (base:=base) T aT;have SE:=Kf 16 T ap aT WY al AA;have SP:=K7 12 T ay I N0;have SN:=Ld T aJ I N ay SP;have RO:=Li xt T OF aF I N ah NK aI (PO.mono (by decide)) aK (SO.mono (by decide)) Y Nm ai BI ab BB aB GR ar BK az BS al AA ap SE aU (LP.mono (by decide)) aJ SN;exact Ll T bg aF RO
theorem Ly {K:W.Frag}{x:Str}{f c P:Addr}{Y J:Value}{od L:Option Addr}{fd:FuncData}{sl U:Array (Option Value)}{I:Array Value}(a:W.nsIn K mainGlobals x=some (some (.ref f)))(l:K.lookup f=some ⟨Y,od,.func fd,sl⟩)(hc:fd.code=.ref c)
 (lc:K.lookup c=some ⟨J,L,.fields I,U⟩) (hP:I[11]? =some (.ref P)):W.tabIn K x=some (c,P):=by
 unfold W.tabIn;rw[a];dsimp only;rw[l];dsimp only;rw[hc];dsimp only;rw[lc];dsimp only;rw[hP]
def Lz (K:W.Frag) (I:List (Addr × Addr)):Sp:=λvs H Q _=>∃(a:Addr) (ns:List Int),vs=[.ref a]/\jz K H a ns/\ns.length<=63/\(∀q∈I,H q.2=some (.gS #[]))/\∀H',Q (.bl true) H'
theorem jz.ofT {K:W.Frag}{H:Hp}{a:Addr}{ns:List Int}{I:List Addr}(o:rb I H)(h:d_ K H a (ns.map V.int)):jz K H a ns:=by
 rcases h with(h|h)|h
 . rcases o a with z|⟨J,xs,z⟩|⟨_,z⟩ <;> rw[h] at z <;> cases z
 . exact .inl h
 . exact .inr h
theorem walk {l:W.OpenLaw}{q:Program}{loose:List Str}{XP:(Str->Option Value)->Heap->Prop}{YP:World->Heap->Prop}{d:DefRec}{K:Params->W.Frag}(hn:l.most=some 63)(aa:d.params.defaults=[])
 (hY:∀(w:World) (h:Heap),YP w h->(K w.params).In h) (ab:∀w:World,W.noTabs (K w.params)=true) (U:∀y∈(Xj:List Str),∃d',(PyProof.Rows.recsOf q).find? (λe=>e.name == y)=some d')
 (F:∀w:World,∃c Pt Y J c3 P3 c4 L:Addr,W.tabIn (K w.params) "_law_rows"=some (c,Pt)/\W.tabIn (K w.params) "_law_some"=some (Y,J)/\W.tabIn (K w.params) "sorted_fields"=some (c3,P3)/\W.tabIn (K w.params) "_law_number_kind"=some (c4,L)/\∀(mg:Str->Option Value) (fa:Addr) (h:Heap),(K w.params).In h->h.Ns mainGlobals mg->mg d.name=some (.ref fa)->
   ∃fd:FuncData,(∀(s:Shared) (u:Value),BindsTo s fd ⟨[u],[]⟩ [("_law_script",u)])/\∀base:Heap,(K w.params).In base->base.Ns mainGlobals mg->BM mg base->eZ l.prog w (K w.params) mg base e_ 133 fa fd ["_law_script"] (v5 (K w.params) Pt J P3 L)):
 W.WalkO q loose XP YP l.row.toRowW d [] (λf vs=>PySem.call f vs):=
 L2.Hj (n:=63) (k:=133) (x:="_law_script") (names:=Xj) (sp:=λw I=>Lz (K w.params) I) hn (by decide) aa ⟨rfl,by decide,by decide⟩ hY ab (λw=>by
   obtain⟨c,Pt,Y,J,c3,P3,c4,L,ht,l7,p_,xu,F⟩:=F w;refine⟨[(c,Pt),(Y,J),(c3,P3),(c4,L)],λq' hq=>?_,λmg fa h X G hm=>?_⟩
   . simp only[Q2q,Q2r,or_false] at hq;rcases hq with e|e|e|e
     . exact⟨"_law_rows",by simp,by rw[e];exact ht⟩
     . exact⟨"_law_some",by simp,by rw[e];exact l7⟩
     . exact⟨"sorted_fields",by simp,by rw[e];exact p_⟩
     . exact⟨"_law_number_kind",by simp,by rw[e];exact xu⟩
   obtain⟨fd,hb,hF⟩:=F mg fa h X G hm;exact⟨fd,hb,λbase X1 G1 B=>(hF base X1 G1 B).imp λvs H Q E ⟨a,ns,e,hS,hl,hT,q⟩=>⟨a,ns,e,hS,hl,.inl (hT (c,Pt) (by simp)),.inl (hT (Y,J) (by simp)),.inl (hT (c3,P3) (by simp)),.inl (hT (c4,L) (by simp)),q⟩⟩)
   U λw I H a ns hl hO ac ae=>⟨a,ns,rfl,jz.ofT hO ae,hl,ac,λ_=>rfl⟩
end Pb
open W PyProof.Rows
set_option maxRecDepth 100000 in
set_option maxHeartbeats 0 in
theorem PySem.Challenge.cw_putback_k45_beside_holds : PySem.Challenge.rw_putback_k45_beside.Holds := by
 w_on
 refine holds_law Pb.said λsaid=>?_;refine holds_open (q:=Pb.qv) (loose:=[]) (Xt:=λs=>xlAt Pb.qv [] s && recOk (RowW.records (PySem.W.OpenRow.toRowW (PySem.W.OpenLaw.row PySem.Challenge.rw_putback_k45_beside))) s) (XP:=XL Pb.qv []) (Yf:=Hook.obs (PySem.W.kmHook Pb.KK Pb.lL Pb.mr [86,330,405])) (Ya:=Hook.val (PySem.W.kmHook Pb.KK Pb.lL Pb.mr [86,330,405])) (YP:=Hook.says (PySem.W.kmHook Pb.KK Pb.lL Pb.mr [86,330,405])) (N:=11013) ?hl (Hook.of (PySem.W.kmHook Pb.KK Pb.lL Pb.mr [86,330,405])) (Hook.keeps (PySem.W.kmHook Pb.KK Pb.lL Pb.mr [86,330,405])) (λs e=>xl_of s (Bool.and_eq_true_iff.mp e).1) XL.keeps (by rfl) (by rfl) (by rfl) (λs e=>recFacts_of (Bool.and_eq_true_iff.mp e).2) (by rfl) (by first|assumption|decide +kernel) (by decide +kernel) ⟨rfl,rfl,rfl,rfl,rfl,by decide +kernel⟩ ?hw ?hc
 case hl=>exact Pb.Ex (by rfl) (by rfl) (λs=>rfl) (by rfl) (Q3s 21 Pb.tF).symm (λP=>by kernel_rfl) Pb.EF (Pb.Ey Pb.EG (Pb.Ez Pb.EH Pb.EI Pb.EJ))
 (case hw=>w_witness2)
 k_fill
 refine Pb.walk (l:=PySem.Challenge.rw_putback_k45_beside) rfl rfl (λw h Y=>PySem.W.km_in_of Y) (λw=>by kernel_rfl) ?HR ?F
 case HR=>intro y hy;simp only[Q2q,Q2r,or_false] at hy;rcases hy with rfl|rfl|rfl|rfl <;> exact⟨_,rfl⟩
 case F=>
  intro w
  refine' ⟨_,_,_,_,_,_,_,_,?ht,?l7,?p_,?xu,?GG⟩
  case ht|l7|p_|xu=>
   refine' Pb.Ly ?ta ?tl ?tc ?LA ?tP
   (case ta=>k_is);(case tl=>k_is);(case tc=>rfl);(case LA=>k_is);(case tP=>rfl)
  case GG=>
   intro mg fa h KX G hmg
   refine' Pb.all_mk KX G hmg ?v8 ?v9 ?v_ ?wa ?wb ?wc ?we ?wg ?wj ?wm ?wo ?wq ?wu ?wx ?wz ?wA ?wB ?wC ?wD ?wF ?wG ?wH ?wI ?wJ ?wK ?wM ?wN ?wO ?wQ ?wR ?wU ?wV ?aR ?lR ?wX ?kR ?aS ?lS ?wY ?kS ?aN ?lN ?wZ ?kN ?aO ?lO ?w5 ?kO ?zz ?w6 ?Ee ?Ef ?Eg ?Eh ?Ej ?w_ ?El ?Em ?sT ?sU ?sW ?sX ?sY ?sZ ?s_ ?ti ?xa ?xb ?xc ?xf ?xg ?xh ?xj ?En ?oP ?xl ?xm ?Eo ?Ep ?xn ?xo ?Er ?Es ?xp ?xq ?Et ?Eu ?xr ?xt
   case v8|v9|v_|wa|wb|wc|we|wg|wj|wm|wo|wq|wu|wx|wz|wA|wB|wC|wD|wF|wG|wH|wI|wJ|wK|wM|wN|wO|wQ|wR|wU|wV=>
    refine' Pb.Ln ?a ?l ?c ?k
    (case a=>k_is);(case l=>k_is);(case c=>k_is);(case k=>k_is)
   (case aR=>k_is);(case lR=>k_is);(case wX=>k_is);(case kR=>k_is)
   (case aS=>k_is);(case lS=>k_is);(case wY=>k_is);(case kS=>k_is)
   (case aN=>k_is);(case lN=>k_is);(case wZ=>k_is);(case kN=>k_is)
   (case aO=>k_is);(case lO=>k_is);(case w5=>k_is);(case kO=>k_is)
   case zz=>intro x hx;simp only[Q2q,Q2r,or_false] at hx;rcases hx with rfl|rfl|rfl|rfl|rfl|rfl|rfl|rfl|rfl|rfl|rfl|rfl|rfl|rfl|rfl <;> k_is
   (case w6=>k_is);(case Ee=>k_is);(case Ef=>rfl)
   (case Eg=>k_is);(case Eh=>k_is);(case Ej=>rfl)
   (case w_=>k_is);(case El=>k_is);(case Em=>rfl)
   case sT|sU|sW|sX|sY|sZ|s_|ti=>
    refine' Pb.Lp ?a ?l ?c ?k ?f ?g
    (case a=>k_is);(case l=>k_is);(case c=>k_is);(case k=>k_is);(case f=>kernel_rfl);(case g=>kernel_rfl)
   case xa|xb|xc|xf=>kernel_rfl
   case xg=>refine⟨?_,?_,?_,?_,?_,?_⟩ <;> kernel_rfl
   case xh=>refine⟨?_,?_,?_,?_,?_,?_,?_,?_,?_,?_,?_,?_,?_,?_⟩ <;> kernel_rfl
   (case xj=>rfl);(case En=>k_is);(case oP=>rfl);(case xl=>kernel_rfl)
   (case xm=>rfl);(case Eo=>k_is);(case Ep=>rfl);(case xn=>kernel_rfl)
   (case xo=>rfl);(case Er=>k_is);(case Es=>rfl);(case xp=>kernel_rfl)
   (case xq=>rfl);(case Et=>k_is);(case Eu=>rfl);(case xr=>kernel_rfl)
   (case xt=>exact⟨by decide,by decide,by decide,by decide,by decide,by decide⟩)
