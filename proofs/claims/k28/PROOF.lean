import PyProof.Rows.All
import Wide.All
import OpenK.AllK
import Wide.FinOn
import Lean
import PyProof.EqAt
import PyProof.EqKinds
import PyProof.TupleCall
import KE.KSortAsk
import PyProof.NeKinds
import PyProof.StationsW
import PyProof.ExcClass3
import PyProof.Rows.Own
import PyProof.NsDelKeeps
import KE.KIsAll
import PyProof.ExcAttrAll.ValueError
import PyProof.IsiH_list
import PyProof.Rows.FStr
import PyProof.FString4
import PyProof.StrLawsRepr
import PyProof.Rows.StrMeet
import PyProof.ExcInit
import PyProof.InstStoreFacts
import PyProof.Rows.SetFrom
import PyProof.Draws
import KE.KDictOf
import PyProof.DictUpdate
import PyProof.DictWalks
import PyProof.ExcBaseAll.ValueError
import PySem.Challenge.RW_putback_k28_unnest
abbrev XA:List PySem.Str:=["_law_a","_law_b","_law_kind_here","_law_found","_law_due","_law_name","_law_inner"]
abbrev XB:List PySem.Str:=["_law_script","_law_at","_law_fields_here","_law_inside","_law_into","_law_kind_here","_law_flat","_law_view","_law_source","_law_begin","_law_other","_law_kept","_law_shown","_law_name","_law_inner","_law_told","_law_back"]
abbrev XD:List PySem.Str:=["_law_script","_law_at","_law_k","_law_m","_law_many","_law_both","_law_cut","_law_turned_round","_law_inside","_law_fields_here","_law_into"]
abbrev XE:List PySem.Str:=["_law_kind_here","_law_found","_law_due","_law_name","_law_inner"]
abbrev XF:List PySem.Str:=["_law_script","_law_at"]
abbrev XG:List PySem.Str:=["_law_script","_law_at","_law_many","_law_deep"]
abbrev XH:List PySem.Str:=["_law_script","_law_at","_law_kind_here","_law_room"]
abbrev XI:List PySem.Str:=["fields","names"]
abbrev XJ:List PySem.Str:=["self","kind","source"]
abbrev XM:List PySem.Str:=["_law_view","_law_kind_here","_law_source","_law_shown","_law_inside"]
abbrev XO:List PySem.Str:=["_law_fields_here","_law_inside","_law_into"]
abbrev XQ:List PySem.Str:=["self","kind","source","seen"]
abbrev XR:List PySem.Str:=["_law_fields_here","_law_inside","_law_into","_law_pairs"]
abbrev XS:List PySem.Str:=["fields","record"]
abbrev XT:List PySem.Str:=["_law_script","_law_at","_law_kind_here","_law_room","_law_made","_law_name","_law_inner","_law_top","_law_many"]
abbrev XU:List PySem.Str:=["_law_view","_law_kind_here","_law_source","_law_seen"]
abbrev XV:List PySem.Str:=["record","names"]
abbrev XW:List PySem.Str:=["_law_script","_law_at","_law_kind_here","_law_room","_law_rows_here","_law_seen","_law_k","_law_row"]
abbrev XX:List PySem.Str:=["_law_kind_here","_law_row"]
abbrev XY:List PySem.Str:=["_law_kind_here","_law_found","_law_due"]
abbrev XZ:List PySem.Str:=["self","way"]
abbrev Xa:List PySem.Str:=["_law_fields_here","_law_inside","_law_into","_law_view","_law_more","_law_found"]
abbrev Xb:List PySem.Str:=["_law_pair","_law_kind_here","_law_found","_law_due","_law_name","_law_inner"]
abbrev Xc:List PySem.Str:=["self","kind"]
abbrev Xd:List PySem.Str:=["record","names","into"]
abbrev Xe:List PySem.Str:=["_law_script","_law_at","_law_deep"]
abbrev Xf:List PySem.Str:=["_law_script","_law_at","_law_many"]
abbrev Xg:List PySem.Str:=["_law_script","_law_at","_law_fields_here","_law_inside","_law_into"]
abbrev Xh:List PySem.Str:=["self","names","into"]
abbrev Xi:List PySem.Str:=["_law_script","_law_at","_law_many","_law_deep","_law_names_here"]
abbrev Xj:List PySem.Str:=["kind","names"]
abbrev Xk:List PySem.Str:=["_law_view","_law_kind_here"]
abbrev Xl:List PySem.Str:=["_law_rows","sorted_fields","_law_kinds","_law_case","law"]
abbrev Xm:List PySem.Str:=["_law_a","_law_b"]
abbrev Xn:List PySem.Str:=["_law_names_here","_law_m"]
abbrev Xo:List PySem.Str:=["record","name","value"]
abbrev Xp:List PySem.Str:=["_law_found","_law_due"]
abbrev Xq:List PySem.Str:=["self","field"]
abbrev Xr:List PySem.Str:=["kind","name"]
abbrev Xs:List PySem.Str:=["self","name"]
theorem zzx {α:Sort _}{β:α->Sort _}{γ:∀a,β a->Sort _}{δ:∀a b,γ a b->Sort _}{p:∀a b c,δ a b c->Prop}{G:Prop}(h:∃a b c d,p a b c d)(k:∀a b c d,p a b c d->G):G:=let⟨a,b,c,d,e⟩:=h;k a b c d e
theorem zza {A B C D E G:Prop}(h:A/\B/\C/\D/\E)(k:A->B->C->D->E->G):G:=k h.1 h.2.1 h.2.2.1 h.2.2.2.1 h.2.2.2.2
local macro_rules|`(tactic|obtain⟨$s,*⟩:=$t)=>do
 let a:=s.getElems;if a.size<6 then Lean.Macro.throwUnsupported
 let b:=a.extract 4 a.size;let q←(a.extract 0 4).mapM λp=>`(rintroPat|($p:rcasesPatLo));let c←match t with|`($x:ident)=>`(tactic|try clear $x)|_=>`(tactic|skip)
 `(tactic|((first|refine zzx $t ?_|refine zza $t ?_);$c;rintro $q* e;obtain⟨$b,*⟩:=e))
open PySem renaming wpAny_bind→Q0,wpAny_pure→Q02,wpAny_mono→Q0l
open Nat renaming le_refl→Q00,ne_of_lt→Q08,le_trans→Q0b,lt_of_lt_of_le→Q0c,zero_le→Q0g,le_of_lt→Q0k,lt_irrefl→Q0p,ne_of_gt→Q0u,le_succ→Q1,lt_succ_self→Q12,mul_le_mul_right→Q19,le_of_not_lt→Q1d,lt_of_le_of_lt→Q1h,le_add_right→Q1o,succ_mul→Q1q,le_of_eq→Q1s,add_le_add_left→Q1v,le_max_left→Q1x,le_max_right→Q1y,sub_succ_lt_self→Q2b,le_antisymm→Q2c,lt_succ_of_lt→Q2l,not_lt_zero→Q34,mul_left_comm→Q3c,add_le_add_right→Q3i,mul_le_mul_left→Q3l,le_mul_of_pos_right→Q3n,succ_le_succ→Q3o,min_eq_left→Q3v
open PySem.Heap renaming lt_size→Q01,get?_push_of_some→Q06,get?_push_size→Q0h,size_push→Q11,get?_update_other→Q14,get?_update_self→Q1l,get?_none_of_le→Q27,size_update→Q2k,get?_update_ne→Q2m,get?_push_at→Q2r,get?_push_ne→Q37
open List renaming getElem?_eq_getElem→Q03,length_map→Q04,mem_cons_self→Q05,size_toArray→Q07,mem_append_right→Q09,length_append→Q0a,mem_cons_of_mem→Q0d,getD_eq_getElem?_getD→Q0e,getElem?_map→Q0f,map_append→Q0i,length_cons→Q0j,length_filter_le→Q0o,map_cons→Q0q,length_take→Q0r,mem_of_getElem?→Q0s,mem_append_left→Q0t,append_nil→Q0v,take_length→Q0w,mem_cons→Q0x,take_succ→Q0y,map_map→Q0z,getElem_of_mem→Q10,length_drop→Q13,length_singleton→Q15,lookup_cons→Q16,pairwise_map→Q17,nodup_nil→Q18,append_assoc→Q1a,take_of_length_le→Q1b,length_replicate→Q1e,any_cons→Q1f,find?_cons→Q1g,map_congr_left→Q1i,all_eq_true→Q1j,of_mem_zip→Q1k,getElem_mem→Q1m,length_range→Q1p,not_mem_nil→Q1r,getElem?_append_right→Q1t,pairwise_singleton→Q1w,foldl_cons→Q1z,mem_nil_iff→Q2,mem_singleton→Q20,getElem_take→Q22,filter_append→Q23,filter_cons→Q24,filterMap_cons→Q26,getElem_inj→Q28,getElem?_set_self→Q29,getElem?_set_ne→Q2a,getElem?_append_left→Q2d,all_cons→Q2f,length_nil→Q2g,getElem_map→Q2i,ext_getElem→Q2j,zip_cons_cons→Q2n,mem_append→Q2o,any_map→Q2q,mem_erase_of_ne→Q2s,mem_filter→Q2t,filter_congr→Q2u,perm_append_singleton→Q2v,filter_map→Q2w,take_append_drop→Q2x,getElem?_replicate→Q3,cons_append→Q31,forIn_cons→Q32,lt_irrefl→Q39,mem_map_of_mem→Q3a,perm_cons→Q3b,replicate_succ→Q3d,nodup_range→Q3e,range_succ→Q3h,flatten_append→Q3m,getElem?_zip_eq_some→Q3p,length_zip→Q3q,length_erase_of_mem→Q3r,length_pos_of_mem→Q3s,nil_append→Q3t,drop_zero→Q3u,map_drop→Q3w,map_take→Q3x,mem_of_mem_take→Q3y
open Int renaming emod_nonneg→Q0m,emod_lt_of_pos→Q0n,mul_le_mul_of_nonneg_right→Q21,toNat_natCast→Q2e,add_mul→Q2p,lt_of_lt_of_le→Q3g,natCast_add→Q3j,toNat_of_nonneg→Q3k
open Array renaming length_toList→Q1c,getD_eq_getD_getElem?→Q1n,append_empty→Q25,empty_append→Q2y,find?_toList→Q2z,getElem?_eq_getElem→Q35,size_append→Q36,forIn_toList→Q38,toList_append→Q3f
open Option renaming map_some→Q1u,isSome_map→Q2h,getD_none→Q30,getD_some→Q33
set_option genSizeOf false
set_option Elab.async false
set_option linter.all false
set_option maxRecDepth 100000
set_option maxHeartbeats 4000000
open PySem
theorem zp:2<=PySem.sizeLine:=by decide
namespace L2
open Spec PyProof.Rows
noncomputable def jy (s:Stmt):Arguments:=match s with
 | .FunctionDef _ a _ _ _ _ _ _ _ _=>a
 |_=>{ posonlyargs:=[],args:=[],vararg:=none,kwonlyargs:=[],kw_defaults:=[],kwarg:=none,defaults:=[] }
noncomputable def i3 (s:Stmt):List Stmt:=match s with
 | .FunctionDef _ _ b _ _ _ _ _ _ _=>b
 |_=>[]
noncomputable def gn (s:Stmt):Scope:=match s with
 | .FunctionDef _ _ _ _ _ _ sc _ _ _=>sc
 |_=>{ kind:=.function,names:=[],isGenerator:=false,isCoroutine:=false }
end L2
namespace Pb
open L2
noncomputable def top (i:Nat):Stmt:=PySem.Challenge.pw_putback_k28_unnest.main.body.getD i (.Pass ⟨0,0,0,0⟩)
noncomputable def gB (i j:Nat):Stmt:=match top i with
 | .ClassDef _ _ _ body _ _ _ _ _ _ _=>body.getD j (.Pass ⟨0,0,0,0⟩)
 |_=>.Pass ⟨0,0,0,0⟩
end Pb
namespace Pb
open W
noncomputable def treeOf:List Obj->Nat->BT->Option BT
 |[],_,t=>some t
 |o::l,n,t=>match((t.ins n o).get n).isSome with
  |true=>treeOf l (n+1) (t.ins n o)
  |false=>none
theorem zq {life:Life}:∀(l:List Obj) (n:Nat) (t t':BT),treeOf l n t=some t'->absHeap t' (n+l.length) life=⟨(absHeap t n life).objs++l.toArray,life⟩
 |[],n,t,t',h=>by
  cases h;show absHeap t n life=_;have:(absHeap t n life).objs++#[]=(absHeap t n life).objs:=Q25;rw[this];rfl
 |o::l,n,t,t',h=>by
  unfold treeOf at h
  cases e:((t.ins n o).get n).isSome with
  |false=>rw[e] at h;cases h
  |true=>
   rw[e] at h;have:=zq (life:=life) l (n+1) _ t' h;rw[absHeap_ins e] at this;have z:n+(o::l).length=n+1+l.length:=by rw[Q0j];omega
   rw[z,this];show Heap.mk ((absHeap t n life).objs.push o++l.toArray) life=_;congr 1;apply Array.ext';simp
noncomputable def qJ (tb:String->Option Builtin) (p:Program) (w:World) (z:Nat) (J:Option Value):Nat->SharedT->Thread->Option SharedT
 |0,_,_=>none
 |n+1,s,t=>match through t with
  |true=>some s
  |false=>match stepOk z J t with
   |false=>none
   |true=>match stepT (denote tb) p w s t with
    |some (s',t')=>qJ tb p w z J n s' t'
    |none=>none
theorem zr {tb:String->Option Builtin}{p:Program}{w:World}{z:Nat}{J:Option Value}:∀{n:Nat}{s s':SharedT}{t:Thread},qJ tb p w z J n s t=some s'->topRun tb p w z J n s.abs t=some s'.abs
 |0,_,_,_,h=>by cases h
 |n+1,s,s',t,h=>by
  unfold qJ at h;unfold topRun
  cases U:through t with
  |true=>rw[U] at h;cases h;rfl
  |false=>
   rw[U] at h
   cases hk:stepOk z J t with
   |false=>rw[hk] at h;cases h
   |true=>
    rw[hk] at h
    cases L:stepT (denote tb) p w s t with
    |none=>rw[L] at h;cases h
    |some r=>obtain⟨Y,aa⟩:=r;rw[L] at h;rw[stepT_spec L];exact zr h
noncomputable abbrev ow:=@W.Fast.tw10156331382660048174
noncomputable abbrev lY:=@W.Fast.tw11892475500146522536
noncomputable abbrev lZ:=@W.Fast.tw14364793385576792824
noncomputable abbrev qK:=@W.Fast.tw6613529449190102663
noncomputable abbrev seenQ:=@W.Fast.tw4187177175401517315
noncomputable def oy (p:Program) (w:World) (z:Nat) (J:Option Value):Nat->SharedT->Thread->Option SharedT
 |0,_,_=>none
 |n+1,s,t=>match through t with
  |true=>some s
  |false=>match qK z J t with
   |false=>none
   |true=>match ow (lY lZ) p w s t with
    |some (s',t')=>oy p w z J n s' t'
    |none=>none
theorem zt {p:Program}{w:World}{z:Nat}{J:Option Value}:∀(n:Nat) (s:SharedT) (t:Thread),oy p w z J n s t=qJ treeTable p w z J n s t
 |0,_,_=>rfl
 |n+1,s,t=>by
  unfold oy qJ;have L:qK z J t=stepOk z J t:=congrFun (congrFun (congrFun W.Fast.te6613529449190102663.symm _) _) _;have U:ow (lY lZ) p w s t=stepT (denote treeTable) p w s t:=by rw[show @ow=@stepT from W.Fast.te10156331382660048174.symm,show @lY=@denote from W.Fast.te11892475500146522536.symm,show @lZ=@treeTable from W.Fast.te14364793385576792824.symm]
  rw[L,U];simp only[zt n]
noncomputable def looksAt (p q:Program) (loose:List Str) (Xt:Shared->Bool) {α:Type}(Yf:Shared->α) (g0:Bool) (h₀:Heap) (s:Shared):=
 ((staticsOk (importedModules p.main.body) h₀ s.heap && namesBound p s.heap && gensDone s && laidKept h₀ s.heap),seenQ q loose (importedModules p.main.body) Xt g0 s,Yf s)
noncomputable def zu:List (Nat × Obj)->BT->BT
 |[],t=>t
 |(a,o)::l,t=>zu l (t.ins a o)
noncomputable def vd:Nat->List Obj->BT->BT
 |_,[],t=>t
 |n,o::l,t=>vd (n+1) l (t.ins n o)
noncomputable def qL (p:Program) (w:World) (z:Nat) (J:Option Value):Nat->SharedT->Thread->Option (Flow × SharedT × Code × Pos)
 |0,_,_=>none
 |n+1,s,t=>match endAt 1 t with
  |some f=>some (f,s,t.code,t.pos)
  |none=>match qK z J t with
   |false=>none
   |true=>match ow (lY lZ) p w s t with
    |some (s',t')=>qL p w z J n s' t'
    |none=>none
theorem zv (z:Nat)(J:Option Value)(t:Thread):qK z J t=stepOk z J t:=congrFun (congrFun (congrFun W.Fast.te6613529449190102663.symm _) _) _
theorem zw:@lY lZ=denote treeTable:=by rw[show @lY=@denote from W.Fast.te11892475500146522536.symm,show @lZ=@treeTable from W.Fast.te14364793385576792824.symm]
theorem zx (p:Program)(w:World)(s:SharedT)(t:Thread):ow (lY lZ) p w s t=stepT (denote treeTable) p w s t:=by rw[show @ow=@stepT from W.Fast.te10156331382660048174.symm,zw]
theorem zy {p:Program}{w:World}{z:Nat}{J:Option Value}:∀(n:Nat) (s:SharedT) (t:Thread),qL p w z J n s t=segRunT treeTable p w z J 1 n s t
 |0,_,_=>rfl
 |n+1,s,t=>by
  unfold qL segRunT;rw[zv,zx]
  cases endAt 1 t with
  |some f=>rfl
  |none=>
   cases stepOk z J t with
   |false=>rfl
   |true=>
    cases stepT (denote treeTable) p w s t with
    |none=>rfl
    |some r=>obtain⟨s',t'⟩:=r;exact zy n s' t'
noncomputable def qM (tb:String->Option Builtin) (p:Program) (w:World) (z:Nat) (J:Option Value):Nat->SharedT->Thread->Option (SharedT × Thread)
 |0,s,t=>some (s,t)
 |n+1,s,t=>match through t with
  |true=>none
  |false=>match stepOk z J t with
   |false=>none
   |true=>match stepT (denote tb) p w s t with
    |some (s',t')=>qM tb p w z J n s' t'
    |none=>none
theorem zA {tb:String->Option Builtin}{p:Program}{w:World}{z:Nat}{J:Option Value}:∀{n:Nat}{s s':SharedT}{t t':Thread},qM tb p w z J n s t=some (s',t')->topGo tb p w z J n s.abs t=some (s'.abs,t')
 |0,s,s',t,t',h=>by
  have h:some (s,t)=some (s',t'):=h
  cases h;rfl
 |n+1,s,s',t,t',h=>by
  unfold qM at h;unfold topGo
  cases U:through t with
  |true=>rw[U] at h;cases h
  |false=>
   rw[U] at h
   cases hk:stepOk z J t with
   |false=>rw[hk] at h;cases h
   |true=>
    rw[hk] at h
    cases L:stepT (denote tb) p w s t with
    |none=>rw[L] at h;cases h
    |some r=>obtain⟨Y,aa⟩:=r;rw[L] at h;rw[stepT_spec L];exact zA h
noncomputable def sI (p:Program) (w:World) (z:Nat) (J:Option Value):Nat->SharedT->Thread->Option (SharedT × Thread)
 |0,s,t=>some (s,t)
 |n+1,s,t=>match through t with
  |true=>none
  |false=>match qK z J t with
   |false=>none
   |true=>match ow (lY lZ) p w s t with
    |some (s',t')=>sI p w z J n s' t'
    |none=>none
theorem zB {p:Program}{w:World}{z:Nat}{J:Option Value}:∀(n:Nat) (s:SharedT) (t:Thread),sI p w z J n s t=qM treeTable p w z J n s t
 |0,_,_=>rfl
 |n+1,s,t=>by
  unfold sI qM;rw[zv,zx];simp only[zB n]
noncomputable def sJ (p:Program) (w:World) (z:Nat) (J:Option Value) (env:Env) (c:Code) (q0:Pos) (l:List Stmt) (U Y k3:Nat) (s:SharedT):Option (Thread × Code × Code × SharedT × Pos):=
 match sI p w z J U s (topStub p) with
 |none=>none
 |some (s1,L)=>match qL p w z J Y s1 (blockOf (behindTheImports p) env c L.pos [topFrame q0]) with
  |some (.next,s2,c2,p2)=>(match qL p w z J k3 s2 (piecesOf l env c p2 [topFrame q0]) with
   |some (.next,s3,c3,p3)=>some (L,c2,c3,s3,p3)
   |_=>none)
  |_=>none
theorem Hv {p:Program}{w:World}{z:Nat}{J:Option Value}{env:Env}{c:Code}{q0 L U:Pos}{l rest:List Stmt}{Y k2 k3 N:Nat}{s s3:SharedT}{r:Shared}(hb:behindTheImports p=l++rest)
 (h:sJ p w z J env c q0 l Y k2 k3 s=some (⟨lY lZ (.body (behindTheImports p) env),c,L,[topFrame q0]⟩,c,c,s3,U))
 (k:topRun treeTable p w z J N s3.abs (restOf rest env c U [topFrame q0])=some r):topRun treeTable p w z J (Y+(k2+(k3+N))) s.abs (topStub p)=some r:=by
 unfold sJ at h;split at h
 . cases h
 next s1 t1 e1=>
  split at h
  next s2 c2 p2 e2=>
   split at h
   next aa c3 ab e3=>
    cases h;rw[zB] at e1;rw[zy] at e2 e3;have g1:=zA e1;rw[zw] at g1;have g3:=piece_app (rest:=rest) (segRun_of e3) k;rw[<-hb] at g3;exact go_top g1 (piece_block (segRun_of e2) g3)
   . cases h
  . cases h
noncomputable def ve (P:Params):BT:=(treeOf (boot_heap P).objs.toList 0 .nil).getD .nil
noncomputable def sM (w:World) (os:OsState):SharedT:=⟨ve w.params,(boot_heap w.params).objs.size,(boot_heap w.params).life,#[],boot_drawn,boot_toks,os⟩
theorem Hw {p q:Program}{loose:List Str}{Xt:Shared->Bool}{α:Type}{Yf:Shared->α}{Ya:World->α}{N:Nat}{g0:Bool}{env:Env}{c:Code}{q0 U p3:Pos}{l rest:List Stmt}{k1 k2 k3 N4 J:Nat}{L:Option Value}{S3:World->OsState->SharedT}
 (e:opening p=plainProg p.main.scope.names) (hN:Nat.ble 600 N=true) (f:∀s,fenceModules? p s=some s) (ab:N=k1+(k2+(k3+N4))) (hb:behindTheImports p=l++rest)
 (b0:∀P:Params,((boot_heap P).isNs mainGlobals,(treeOf (boot_heap P).objs.toList 0 .nil).isSome,(boot_heap P).objs.size,(boot_heap P).nsMap mainGlobals "__annotations__")=(true,true,J,L))
 (Y:∀w os,sJ p w J L env c q0 l k1 k2 k3 (sM w os)=some (⟨lY lZ (.body (behindTheImports p) env),c,U,[topFrame q0]⟩,c,c,S3 w os,p3))
 (aa:∀w os,((oy p w J L N4 (S3 w os) (restOf rest env c p3 [topFrame q0])).map λ(s:SharedT)=>looksAt p q loose Xt Yf g0 (boot_heap w.params) s.abs)=some (true,openGood q loose,Ya w)):LeftO p q loose Xt Yf Ya N g0:=λw=>by
 obtain⟨⟨h,gs,d,k,os⟩,e1,e'⟩:=Option.map_eq_some_iff.mp (boot_open e hN f w);obtain⟨rfl,rfl,rfl,rfl⟩:h=boot_heap w.params/\gs=Array.mk []/\d=boot_drawn/\k=boot_toks:=by simpa using e'
 have ac:=b0 w.params;obtain⟨z,y0,hsz,ae⟩:_/\_/\_/\_:=by simpa only[Prod.mk.injEq] using ac
 obtain⟨T,y⟩:=Option.isSome_iff_exists.mp y0;obtain⟨s,r1,r2⟩:=Option.map_eq_some_iff.mp (aa w os);rw[zt] at r1;have r3:=Hv hb (Y w os) (zr r1);rw[<-ab] at r3;have hT:=zq (life:=(boot_heap w.params).life) _ _ _ _ y
 have hS:SharedT.abs (sM w os)=⟨boot_heap w.params,#[],boot_drawn,boot_toks,os⟩:=by
  unfold SharedT.abs sM ve;dsimp only;rw[y];dsimp only[Option.getD];rw[Nat.zero_add,Q1c] at hT;rw[hT];have e0:(absHeap BT.nil 0 (boot_heap w.params).life).objs=#[]:=rfl;rw[e0,Q2y,Array.toArray_toList]
 rw[hS] at r3
 have t:topFrom treeTable p w N ⟨boot_heap w.params,#[],boot_drawn,boot_toks,os⟩=some s.abs:=by
  unfold topFrom;dsimp only;rw[z,hsz,ae,r3];have l1:=congrArg (λz=>z.1) r2;dsimp only[looksAt] at l1;show(match staticsOk (importedModules p.main.body) (boot_heap w.params) s.abs.heap && namesBound p s.abs.heap && gensDone s.abs && laidKept (boot_heap w.params) s.abs.heap with|true=>_|false=>_)=_;rw[l1]
 unfold openEnds;rw[e1];show(topFrom treeTable p w N _).map _=_;rw[t];have l2:=congrArg (λz=>z.2) r2;dsimp only[looksAt] at l2;rw[show @seenQ=@openSeen from W.Fast.te4187177175401517315.symm] at l2;exact congrArg some l2
theorem Hx {p q:Program}{loose:List Str}{Xt:Shared->Bool}{α:Type}{Yf:Shared->α}{Ya:World->α}{g0:Bool}{L z:Nat}{J:Option Value}{U Y:World->OsState->SharedT}{t:Thread}
 (b:∀w os,oy p w z J L (U w os) t=some (Y w os)) (l:∀w os,looksAt p q loose Xt Yf g0 (boot_heap w.params) (Y w os).abs=(true,openGood q loose,Ya w)):
 ∀w os,((oy p w z J L (U w os) t).map λ(s:SharedT)=>looksAt p q loose Xt Yf g0 (boot_heap w.params) s.abs)=some (true,openGood q loose,Ya w):=λw os=>by
 rw[b];exact congrArg some (l w os)
theorem Hy {p q:Program}{loose:List Str}{Xt:Shared->Bool}{α:Type}{Yf:Shared->α}{Ya:World->α}{g0:Bool}{z:World->OsState->SharedT}
 (J:∀w os,(staticsOk (importedModules p.main.body) (boot_heap w.params) (z w os).abs.heap && namesBound p (z w os).abs.heap && gensDone (z w os).abs && laidKept (boot_heap w.params) (z w os).abs.heap)=true)
 (L:∀w os,seenQ q loose (importedModules p.main.body) Xt g0 (z w os).abs=openGood q loose) (U:∀w os,Yf (z w os).abs=Ya w):
 ∀w os,looksAt p q loose Xt Yf g0 (boot_heap w.params) (z w os).abs=(true,openGood q loose,Ya w):=λw os=>Prod.ext (J w os) (Prod.ext (L w os) (U w os))
end Pb
namespace Pb
open L2
noncomputable section
noncomputable def hF (x q:Str) (s:Stmt) (m:Str) (n c:Nat):Obj:=.mk (.type "function") none (.func (.mk x q (jy s) (.stmts (i3 s)) (gn s) 3 [] .none .none .none (.str m n) none (.ref c) .none 0)) #[]
noncomputable def hR (x q:Str) (s:Stmt):Obj:=.mk .none none (.func (.mk x q (jy s) (.stmts (i3 s)) (gn s) 0 [] .none .none .none .none none .none .none 0)) #[]
noncomputable def hC (x q:Str) (a l n k r e:Nat):Obj:=.mk (.type "code") none (.fields #[.str x a,.str q (a+1),.str (.ofString "/claim/cut.py") (a+2),.int l 0,.int n 0,.int 0 0,.int 0 0,.int k 0,.ref r,.bool true,.int 181 0,.ref (r+1),.none,.ref (r+2),.ref (r+3),.ref (r+4),.int e 0,.int l 0,.str (.ofString "/claim/cut.py") (e+1)]) #[]
noncomputable def Hz (x q:Str) (a l n k r e:Nat):Obj:=.mk (.type "code") none (.fields #[.str x a,.str q (a+1),.str (.ofString "/claim/cut.py") (a+2),.int l 0,.int n 0,.int 0 0,.int 0 0,.int k 0,.ref r,.bool true,.int 181 0,.ref (r+1),.none,.none,.none,.ref (r+2),.int e 0,.int l 0,.str (.ofString "/claim/cut.py") (e+1)]) #[]
noncomputable def hK (x:Str) (a l r e:Nat):Obj:=.mk (.type "code") none (.fields #[.str x a,.str x (a+1),.str (.ofString "/claim/cut.py") (a+2),.int l 0,.int 0 0,.int 0 0,.int 0 0,.int 0 0,.ref r,.bool false,.int 181 0,.ref (r+1),.none,.none,.none,.none,.int e 0,.int l 0,.str (.ofString "/claim/cut.py") (e+1)]) #[]
noncomputable def h_ (x:Str) (s:Stmt) (m:Str) (n c:Nat):Obj:=hF x x s m n c
noncomputable def g_ (x:Str) (s:Stmt):Obj:=hR x x s
noncomputable def iV (x:Str) (a l n k r e:Nat):Obj:=hC x x a l n k r e
noncomputable def kU (x:Str) (a l n k r e:Nat):Obj:=Hz x x a l n k r e
noncomputable def tS:Nat->List Str->List Value
 |_,[]=>[]
 |n,x::r=>.str x n::tS (n+1) r
noncomputable def hT (n:Nat) (l:List Str):Obj:=.mk (.type "tuple") none (.seq (tS n l).toArray) #[]
noncomputable def tI:List (Nat × Nat × Nat)->List Value
 |[]=>[]
 |(a,b,c)::r=>.int a 0:: .int b 0:: .ref c::tI r
noncomputable def hI (l:List (Nat × Nat × Nat)):Obj:=.mk .none none (.fields (tI l).toArray) #[]
noncomputable def hE (P:Params) (x:Str) (a:Nat) (v:Value):DictEntry:=.mk (PyData.keyHash P x) (.str x a) v
def hT0:Obj:=hT 0 []
noncomputable def gJ:Obj:=.mk .none none (.fields #[]) #[]
noncomputable def nI (a b:Nat) (m:String) (n:Nat):Obj:=.mk (.type "frame") none .plain #[some (.ref a),some (.ref 3),some (.ref b),none,some (.str (.ofString m) n),none,some (.ref 0)]
noncomputable def oz (r:Nat):Obj:=.mk (.type "super") none (.fields #[.ref r,.ref r,.ref r]) #[]
noncomputable def hIs (r:Nat):Obj:=.mk (.type "builtin_function_or_method") none (.fields #[.builtin "object.__init_subclass__",.ref r]) #[]
noncomputable def mS:Obj:=.mk (.type "builtin_function_or_method") none (.fields #[.builtin "type.__prepare__",.type "type"]) #[]
noncomputable def oA (r:Nat):Obj:=.mk (.type "tuple") none (.seq #[.ref r]) #[]
noncomputable def zC:Str:="putback.errors"
noncomputable def vf:Str:="putback.kinds"
noncomputable def nJ:Str:="putback.values"
noncomputable def oB:Str:="putback.views"
noncomputable def jJ:Str:="putback.fields"
noncomputable def jC:Str:="law_putback_k28_unnest"
noncomputable def O4 (x q:Str) (s:Stmt) (m:Value) (c:Nat):Obj:=.mk (.type "function") none (.func (.mk x q (jy s) (.stmts (i3 s)) (gn s) 3 [] .none .none .none m none (.ref c) .none 0)) #[]
noncomputable def O5 (x q:Str) (a l n k r f b e:Nat):Obj:=.mk (.type "code") none (.fields #[.str x a,.str q (a+1),.str (.ofString "/claim/cut.py") (a+2),.int l 0,.int n 0,.int 0 0,.int 0 0,.int k 0,.ref r,.bool true,.int f 0,.ref (r+1),.none,.ref (r+2),.ref (r+3),.ref (r+4),.int b 0,.int l 0,.str (.ofString "/claim/cut.py") e]) #[]
noncomputable def O6 (P:Params) (x:Str) (a:Nat) (v:Value):DictEntry:=.mk (PyData.keyHash P x) (.str x a) v
noncomputable def HD:Obj:=.mk .none none (.dict #[]) #[]
noncomputable def zD (P:Params):Obj:=.mk (.type "dict") none (.dict #[hE P "__name__" 165 (.str (.ofString "law_putback_k28_unnest") 662),hE P "__doc__" 166 .none,hE P "__package__" 167 .none,hE P "__loader__" 168 (.builtin "__main__.__loader__#opaque"),hE P "__spec__" 169 .none,hE P "__annotations__" 170 (.ref 6),hE P "__builtins__" 171 (.ref 4),hE P "__file__" 173 (.str (.ofString "/claim/cut.py") 172),hE P "__cached__" 174 .none,hE P "ViewError" 206 (.ref 24),hE P "NoKind" 222 (.ref 37),hE P "NoView" 247 (.ref 56),hE P "CantPut" 272 (.ref 75),hE P "kind_at" 283 (.ref 84),hE P "sorted_fields" 293 (.ref 91),hE P "record_of" 300 (.ref 98),hE P "misfit" 311 (.ref 105),hE P "record_misfit" 322 (.ref 112),hE P "has_just" 328 (.ref 117),hE P "rows_misfit" 340 (.ref 124),hE P "is_pair" 347 (.ref 131),hE P "tree_misfit" 358 (.ref 138),hE P "either_misfit" 368 (.ref 145),hE P "rank" 378 (.ref 152),hE P "ask_fit" 389 (.ref 159),hE P "ask_stands" 396 (.ref 166),hE P "View" 458 (.ref 211),hE P "field_kind" 468 (.ref 222),hE P "has_each_once" 474 (.ref 227),hE P "fields_among" 480 (.ref 232),hE P "fields_but" 486 (.ref 237),hE P "names_of" 492 (.ref 242),hE P "part_of" 502 (.ref 249),hE P "rest_of" 508 (.ref 254),hE P "with_field" 518 (.ref 261),hE P "nested" 527 (.ref 268),hE P "unnested" 536 (.ref 275),hE P "Nest" 599 (.ref 320),hE P "Unnest" 661 (.ref 367),hE P "_law_next" 673 (.ref 376),hE P "_law_number" 683 (.ref 383),hE P "_law_word" 697 (.ref 390),hE P "_law_names" 714 (.ref 397),hE P "_law_plain" 722 (.ref 404),hE P "_law_fields" 728 (.ref 409),hE P "_law_rows_kind" 746 (.ref 416),hE P "_law_kind" 756 (.ref 423),hE P "_law_rank" 764 (.ref 430),hE P "_law_rows" 779 (.ref 437),hE P "_law_value" 785 (.ref 442),hE P "_law_alike" 791 (.ref 447),hE P "_law_put" 803 (.ref 454),hE P "_law_fresh" 814 (.ref 461),hE P "_law_place" 824 (.ref 468),hE P "_law_kinds" 830 (.ref 473),hE P "_law_stands" 840 (.ref 480),hE P "_law_refused" 854 (.ref 487),hE P "_law_case" 860 (.ref 492),hE P "_law_clash" 866 (.ref 497),hE P "law" 872 (.ref 502)] 60) #[]
noncomputable def zE (P:Params):Obj:=.mk (.type "dict") none (.dict #[hE P "__module__" 196 (.str (.ofString "putback.errors") 187),hE P "__firstlineno__" 200 (.int 2 199),hE P "__static_attributes__" 201 (.ref 22),hE P "__weakref__" 203 (.ref 25),hE P "__doc__" 204 .none] 3) #[]
noncomputable def zF:Obj:=.mk (.type "type") none (.cls (.mk (.ofString "ViewError") [.type "ValueError"] [.ref 24,.type "ValueError",.type "Exception",.type "BaseException",.type "object"] 23 (.ofString "ViewError") true [] [.ref 37,.ref 56,.ref 75] false none false)) #[some (.ref 15),none,some (.str (.ofString "ViewError") 189),some (.str (.ofString "ViewError") 197),some (.builtin "ValueError.__new__"),some (.bool true)]
noncomputable def zG:Obj:=.mk (.type "getset_descriptor") none (.fields #[.str (.ofString "__weakref__") 202,.ref 24,.builtin "ExceptionGroup.__weakref__",.none]) #[]
noncomputable def zH (P:Params):Obj:=.mk (.type "dict") none (.dict #[hE P "__module__" 214 (.str (.ofString "putback.errors") 187),hE P "__firstlineno__" 218 (.int 4 217),hE P "__static_attributes__" 219 (.ref 35),hE P "__doc__" 220 .none] 2) #[]
noncomputable def zI:Obj:=.mk (.type "type") none (.cls (.mk (.ofString "NoKind") [.ref 24] [.ref 37,.ref 24,.type "ValueError",.type "Exception",.type "BaseException",.type "object"] 36 (.ofString "NoKind") true [] [] false none false)) #[some (.ref 28),none,some (.str (.ofString "NoKind") 207),some (.str (.ofString "NoKind") 215),some (.builtin "ValueError.__new__"),some (.bool true)]
def zJ:Obj:=hC "__init__" "NoView.__init__" 235 8 2 3 47 240
def zK:Obj:=hF "__init__" "NoView.__init__" (gB 3 0) zC 187 52
noncomputable def zL (P:Params):Obj:=.mk (.type "dict") none (.dict #[hE P "__module__" 230 (.str (.ofString "putback.errors") 187),hE P "__firstlineno__" 234 (.int 6 233),hE P "__init__" 242 (.ref 53),hE P "__static_attributes__" 244 (.ref 54),hE P "__doc__" 245 .none] 2) #[]
noncomputable def zM:Obj:=.mk (.type "type") none (.cls (.mk (.ofString "NoView") [.ref 24] [.ref 56,.ref 24,.type "ValueError",.type "Exception",.type "BaseException",.type "object"] 55 (.ofString "NoView") true [] [] false none false)) #[some (.ref 40),none,some (.str (.ofString "NoView") 223),some (.str (.ofString "NoView") 231),some (.builtin "ValueError.__new__"),some (.bool true)]
def zN:Obj:=hC "__init__" "CantPut.__init__" 260 12 2 3 66 265
def zO:Obj:=hF "__init__" "CantPut.__init__" (gB 4 0) zC 187 71
noncomputable def zP (P:Params):Obj:=.mk (.type "dict") none (.dict #[hE P "__module__" 255 (.str (.ofString "putback.errors") 187),hE P "__firstlineno__" 259 (.int 10 258),hE P "__init__" 267 (.ref 72),hE P "__static_attributes__" 269 (.ref 73),hE P "__doc__" 270 .none] 2) #[]
noncomputable def zQ:Obj:=.mk (.type "type") none (.cls (.mk (.ofString "CantPut") [.ref 24] [.ref 75,.ref 24,.type "ValueError",.type "Exception",.type "BaseException",.type "object"] 74 (.ofString "CantPut") true [] [] false none false)) #[some (.ref 59),none,some (.str (.ofString "CantPut") 248),some (.str (.ofString "CantPut") 256),some (.builtin "ValueError.__new__"),some (.bool true)]
def zR:Obj:=iV "kind_at" 275 15 2 3 78 281
def zS:Obj:=h_ "kind_at" (top 6) vf 273 83
def zT:Obj:=iV "sorted_fields" 284 20 1 3 85 291
def zU:Obj:=h_ "sorted_fields" (top 7) vf 273 90
def zV:Obj:=iV "record_of" 294 27 1 3 92 298
def zW:Obj:=h_ "record_of" (top 8) vf 273 97
def zX:Obj:=iV "misfit" 303 30 2 3 99 309
def zY:Obj:=h_ "misfit" (top 10) nJ 301 104
def zZ:Obj:=iV "record_misfit" 312 43 2 3 106 320
def z0:Obj:=h_ "record_misfit" (top 11) nJ 301 111
def z7:Obj:=kU "has_just" 323 51 2 3 113 326
def z8:Obj:=h_ "has_just" (top 12) nJ 301 116
def z9:Obj:=iV "rows_misfit" 329 53 2 3 118 338
def z_:Obj:=h_ "rows_misfit" (top 13) nJ 301 123
def Aa:Obj:=iV "is_pair" 341 67 1 3 125 345
def Ab:Obj:=h_ "is_pair" (top 14) nJ 301 130
def Ac:Obj:=iV "tree_misfit" 348 69 2 3 132 356
def Ad:Obj:=h_ "tree_misfit" (top 15) nJ 301 137
def Ae:Obj:=iV "either_misfit" 359 80 2 3 139 366
def Af:Obj:=h_ "either_misfit" (top 16) nJ 301 144
def Ag:Obj:=iV "rank" 369 90 2 3 146 376
def Ah:Obj:=h_ "rank" (top 17) nJ 301 151
def Ai:Obj:=iV "ask_fit" 381 97 2 3 153 387
def Aj:Obj:=h_ "ask_fit" (top 19) oB 379 158
def Ak:Obj:=iV "ask_stands" 390 101 1 3 160 394
def Al:Obj:=h_ "ask_stands" (top 20) oB 379 165
def Am:Obj:=hC "behind" "View.behind" 409 106 2 3 174 414
def An:Obj:=hF "behind" "View.behind" (gB 21 0) oB 379 179
def Ao:Obj:=hC "see" "View.see" 417 109 3 3 181 423
def Ap:Obj:=hF "see" "View.see" (gB 21 1) oB 379 186
def Aq:Obj:=hC "put" "View.put" 426 112 4 3 188 433
def Ar:Obj:=hF "put" "View.put" (gB 21 2) oB 379 193
def As:Obj:=hC "grade" "View.grade" 436 116 1 3 195 440
def Au:Obj:=hF "grade" "View.grade" (gB 21 3) oB 379 200
def Av:Obj:=hC "keeps" "View.keeps" 443 119 2 3 202 448
def Aw:Obj:=hF "keeps" "View.keeps" (gB 21 4) oB 379 207
noncomputable def Ax (P:Params):Obj:=.mk (.type "dict") none (.dict #[hE P "__module__" 404 (.str (.ofString "putback.views") 379),hE P "__firstlineno__" 408 (.int 104 407),hE P "behind" 416 (.ref 180),hE P "see" 425 (.ref 187),hE P "put" 435 (.ref 194),hE P "grade" 442 (.ref 201),hE P "keeps" 450 (.ref 208),hE P "__static_attributes__" 451 (.ref 209),hE P "__dict__" 453 (.ref 212),hE P "__weakref__" 455 (.ref 213),hE P "__doc__" 456 .none] 4) #[]
noncomputable def Ay:Obj:=.mk (.type "type") none (.cls (.mk (.ofString "View") [.type "object"] [.ref 211,.type "object"] 210 (.ofString "View") true [] [.ref 320,.ref 367] false none false)) #[none,none,some (.str (.ofString "View") 397),some (.str (.ofString "View") 405),some (.builtin "object.__new__"),some (.bool true)]
noncomputable def Az:Obj:=.mk (.type "getset_descriptor") none (.fields #[.str (.ofString "__dict__") 452,.ref 211,.builtin "function.__dict__",.builtin "function.__dict__#set"]) #[]
noncomputable def AB:Obj:=.mk (.type "getset_descriptor") none (.fields #[.str (.ofString "__weakref__") 454,.ref 211,.builtin "ExceptionGroup.__weakref__",.none]) #[]
def AD:Obj:=iV "field_kind" 461 122 2 3 216 466
def AE:Obj:=h_ "field_kind" (top 23) jJ 459 221
def AG:Obj:=kU "has_each_once" 469 124 2 3 223 472
def AH:Obj:=h_ "has_each_once" (top 24) jJ 459 226
def AI:Obj:=kU "fields_among" 475 128 2 3 228 478
def AJ:Obj:=h_ "fields_among" (top 25) jJ 459 231
def AK:Obj:=kU "fields_but" 481 130 2 3 233 484
def AM:Obj:=h_ "fields_but" (top 26) jJ 459 236
def AN:Obj:=kU "names_of" 487 132 1 3 238 490
def AO:Obj:=h_ "names_of" (top 27) jJ 459 241
def AQ:Obj:=iV "part_of" 493 134 2 3 243 500
def AR:Obj:=h_ "part_of" (top 28) jJ 459 248
def AU:Obj:=kU "rest_of" 503 139 2 3 250 506
def AV:Obj:=h_ "rest_of" (top 29) jJ 459 253
def AW:Obj:=iV "with_field" 509 141 3 3 255 516
def AX:Obj:=h_ "with_field" (top 30) jJ 459 260
def AY:Obj:=iV "nested" 519 145 3 3 262 525
def AZ:Obj:=h_ "nested" (top 31) jJ 459 267
def A0:Obj:=iV "unnested" 528 147 2 3 269 534
def A1:Obj:=h_ "unnested" (top 32) jJ 459 274
def A2:Obj:=hC "__init__" "Nest.__init__" 549 153 3 3 283 555
def A4:Obj:=hF "__init__" "Nest.__init__" (gB 33 0) jJ 459 288
def A5:Obj:=hC "behind" "Nest.behind" 558 157 2 3 290 564
def A6:Obj:=hF "behind" "Nest.behind" (gB 33 1) jJ 459 295
def A7:Obj:=hC "see" "Nest.see" 567 163 3 3 297 573
def A8:Obj:=hF "see" "Nest.see" (gB 33 2) jJ 459 302
def A9:Obj:=hC "put" "Nest.put" 576 166 4 3 304 583
def A_:Obj:=hF "put" "Nest.put" (gB 33 3) jJ 459 309
def Ba:Obj:=hC "keeps" "Nest.keeps" 586 170 2 3 311 591
def Bb:Obj:=hF "keeps" "Nest.keeps" (gB 33 4) jJ 459 316
noncomputable def Bc (P:Params):Obj:=.mk (.type "dict") none (.dict #[hE P "__module__" 544 (.str (.ofString "putback.fields") 459),hE P "__firstlineno__" 548 (.int 151 547),hE P "__init__" 557 (.ref 289),hE P "behind" 566 (.ref 296),hE P "see" 575 (.ref 303),hE P "put" 585 (.ref 310),hE P "keeps" 593 (.ref 317),hE P "__static_attributes__" 596 (.ref 318),hE P "__doc__" 597 .none] 2) #[]
noncomputable def Bd:Obj:=.mk (.type "type") none (.cls (.mk (.ofString "Nest") [.ref 211] [.ref 320,.ref 211,.type "object"] 319 (.ofString "Nest") true [] [] false none false)) #[some (.ref 276),none,some (.str (.ofString "Nest") 537),some (.str (.ofString "Nest") 545),some (.builtin "object.__new__"),some (.bool true)]
def Be:Obj:=hC "__init__" "Unnest.__init__" 612 174 2 3 330 617
def Bf:Obj:=hF "__init__" "Unnest.__init__" (gB 34 0) jJ 459 335
def Bh:Obj:=hC "behind" "Unnest.behind" 620 177 2 3 337 627
def Bi:Obj:=hF "behind" "Unnest.behind" (gB 34 1) jJ 459 342
def Bj:Obj:=hC "see" "Unnest.see" 630 184 3 3 344 636
def Bk:Obj:=hF "see" "Unnest.see" (gB 34 2) jJ 459 349
def Bl:Obj:=hC "put" "Unnest.put" 639 187 4 3 351 646
def Bm:Obj:=hF "put" "Unnest.put" (gB 34 3) jJ 459 356
def Bo:Obj:=hC "keeps" "Unnest.keeps" 649 191 2 3 358 654
def Bp:Obj:=hF "keeps" "Unnest.keeps" (gB 34 4) jJ 459 363
noncomputable def Bq (P:Params):Obj:=.mk (.type "dict") none (.dict #[hE P "__module__" 607 (.str (.ofString "putback.fields") 459),hE P "__firstlineno__" 611 (.int 172 610),hE P "__init__" 619 (.ref 336),hE P "behind" 629 (.ref 343),hE P "see" 638 (.ref 350),hE P "put" 648 (.ref 357),hE P "keeps" 656 (.ref 364),hE P "__static_attributes__" 658 (.ref 365),hE P "__doc__" 659 .none] 2) #[]
noncomputable def Br:Obj:=.mk (.type "type") none (.cls (.mk (.ofString "Unnest") [.ref 211] [.ref 367,.ref 211,.type "object"] 366 (.ofString "Unnest") true [] [] false none false)) #[some (.ref 323),none,some (.str (.ofString "Unnest") 600),some (.str (.ofString "Unnest") 608),some (.builtin "object.__new__"),some (.bool true)]
def Bs:Obj:=iV "_law_next" 664 194 2 3 370 671
def Bt:Obj:=h_ "_law_next" (top 36) jC 662 375
def Bu:Obj:=iV "_law_number" 674 201 2 3 377 681
def Bv:Obj:=h_ "_law_number" (top 37) jC 662 382
def Bw:Obj:=iV "_law_word" 684 209 2 3 384 695
def Bx:Obj:=h_ "_law_word" (top 38) jC 662 389
def By:Obj:=iV "_law_names" 698 221 3 3 391 712
def Bz:Obj:=h_ "_law_names" (top 39) jC 662 396
def BA:Obj:=iV "_law_plain" 715 235 2 3 398 720
def BB:Obj:=h_ "_law_plain" (top 40) jC 662 403
def BC:Obj:=kU "_law_fields" 723 239 4 3 405 726
def BD:Obj:=h_ "_law_fields" (top 41) jC 662 408
def BE:Obj:=iV "_law_rows_kind" 729 242 4 3 410 744
def BF:Obj:=h_ "_law_rows_kind" (top 42) jC 662 415
def BG:Obj:=iV "_law_kind" 747 257 3 3 417 754
def BH:Obj:=h_ "_law_kind" (top 43) jC 662 422
def BI:Obj:=iV "_law_rank" 757 268 2 3 424 762
def BJ:Obj:=h_ "_law_rank" (top 44) jC 662 429
def BK:Obj:=iV "_law_rows" 765 272 4 3 431 777
def BL:Obj:=h_ "_law_rows" (top 45) jC 662 436
def BN:Obj:=kU "_law_value" 780 281 4 3 438 783
def BO:Obj:=h_ "_law_value" (top 46) jC 662 441
def BP:Obj:=kU "_law_alike" 786 299 3 3 443 789
def BQ:Obj:=h_ "_law_alike" (top 47) jC 662 446
def BR:Obj:=iV "_law_put" 792 327 4 3 448 801
def BS:Obj:=h_ "_law_put" (top 48) jC 662 453
def BU:Obj:=iV "_law_fresh" 804 334 2 3 455 812
def BV:Obj:=h_ "_law_fresh" (top 49) jC 662 460
def BW:Obj:=iV "_law_place" 815 341 2 3 462 822
def BX:Obj:=h_ "_law_place" (top 50) jC 662 467
def BY:Obj:=kU "_law_kinds" 825 348 3 3 469 828
def BZ:Obj:=h_ "_law_kinds" (top 51) jC 662 472
def B4:Obj:=iV "_law_stands" 831 351 2 3 474 838
def B_:Obj:=h_ "_law_stands" (top 52) jC 662 479
def Ca:Obj:=iV "_law_refused" 841 358 5 3 481 852
def Cb:Obj:=h_ "_law_refused" (top 53) jC 662 486
def Cc:Obj:=kU "_law_case" 855 371 5 3 488 858
def Cd:Obj:=h_ "_law_case" (top 54) jC 662 491
def Ce:Obj:=kU "_law_clash" 861 400 3 3 493 864
def Cf:Obj:=h_ "_law_clash" (top 55) jC 662 496
def Cg:Obj:=kU "law" 867 410 1 3 498 870
def Ci:Obj:=h_ "law" (top 56) jC 662 501
noncomputable def HE (P:Params):Obj:=.mk (.type "dict") none (.dict #[hE P "__name__" 165 (.str (.ofString "putback.fields") 459),hE P "__doc__" 166 .none,hE P "__package__" 167 .none,hE P "__loader__" 168 (.builtin "__main__.__loader__#opaque"),hE P "__spec__" 169 .none,hE P "__annotations__" 170 (.ref 6),hE P "__builtins__" 171 (.ref 4),hE P "__file__" 173 (.str (.ofString "/claim/cut.py") 172),hE P "__cached__" 174 .none,hE P "ViewError" 206 (.ref 24),hE P "NoKind" 222 (.ref 37),hE P "NoView" 247 (.ref 56),hE P "CantPut" 272 (.ref 75),hE P "kind_at" 283 (.ref 84),hE P "sorted_fields" 293 (.ref 91),hE P "record_of" 300 (.ref 98),hE P "misfit" 311 (.ref 105),hE P "record_misfit" 322 (.ref 112),hE P "has_just" 328 (.ref 117),hE P "rows_misfit" 340 (.ref 124),hE P "is_pair" 347 (.ref 131),hE P "tree_misfit" 358 (.ref 138),hE P "either_misfit" 368 (.ref 145),hE P "rank" 378 (.ref 152),hE P "ask_fit" 389 (.ref 159),hE P "ask_stands" 396 (.ref 166),hE P "View" 458 (.ref 211),hE P "field_kind" 468 (.ref 222)] 28) #[]
noncomputable def HF (P:Params):List Obj:=hT0::hI [(2,0,20),(4,0,33),(6,0,45),(10,0,64),(15,0,83),(20,0,90),(27,0,97),(30,0,104),(43,0,111),(51,0,116),(53,0,123),(67,0,130),(69,0,137),(80,0,144),(90,0,151),(97,0,158),(101,0,165),(104,0,172),(122,0,221)]::hK "<module>" 182 1 11 185::nI 13 3 "__main__" 164:: .mk (.type "tuple") none (.seq #[.type "ValueError"]) #[]::mS:: .mk (.type "dict") none (.dict #[hE P "__module__" 196 (.str (.ofString "putback.errors") 187),hE P "__qualname__" 198 (.str (.ofString "ViewError") 197),hE P "__firstlineno__" 200 (.int 2 199),hE P "__static_attributes__" 201 (.ref 22)] 4) #[]::hT0::gJ::hK "ViewError" 191 2 18 194::nI 20 17 "putback.errors" 187::hT0::zE P::zF::zG::oz 24::hIs 24::oA 24::mS:: .mk (.type "dict") none (.dict #[hE P "__module__" 214 (.str (.ofString "putback.errors") 187),hE P "__qualname__" 216 (.str (.ofString "NoKind") 215),hE P "__firstlineno__" 218 (.int 4 217),hE P "__static_attributes__" 219 (.ref 35)] 4) #[]::hT0::gJ::hK "NoKind" 209 4 31 212::nI 33 30 "putback.errors" 187::hT0::zH P::zI::oz 37::hIs 37::oA 24::mS:: .mk (.type "dict") none (.dict #[hE P "__module__" 230 (.str (.ofString "putback.errors") 187),hE P "__qualname__" 232 (.str (.ofString "NoView") 231),hE P "__firstlineno__" 234 (.int 6 233),hE P "__init__" 242 (.ref 53),hE P "__static_attributes__" 244 (.ref 54)] 5) #[]::hT0::hI [(8,4,52)]::hK "NoView" 225 6 43 228::nI 45 42 "putback.errors" 187::hT0::gJ::hT 238 ["self","way"]::hT0::hR "__init__" "NoView.__init__" (gB 3 0)::zJ::zK::hT 243 ["way"]::zL P::zM::oz 56::hIs 56::oA 24::mS:: .mk (.type "dict") none (.dict #[hE P "__module__" 255 (.str (.ofString "putback.errors") 187),hE P "__qualname__" 257 (.str (.ofString "CantPut") 256),hE P "__firstlineno__" 259 (.int 10 258),hE P "__init__" 267 (.ref 72),hE P "__static_attributes__" 269 (.ref 73)] 5) #[]::hT0::hI [(12,4,71)]::hK "CantPut" 250 10 62 253::nI 64 61 "putback.errors" 187::hT0::gJ::hT 263 ["self","way"]::hT0::hR "__init__" "CantPut.__init__" (gB 4 0)::zN::zO::hT 268 ["way"]::zP P::zQ::oz 75::hIs 75::hT0::gJ::hT 278 ["fields","name","pair"]::hT0::g_ "kind_at" (top 6)::zR::zS::hT0::gJ::hT 287 ["pairs","fields","number","name"]::hT0::g_ "sorted_fields" (top 7)::zT::zU::hT0::gJ::hT 297 ["pairs"]::hT0::g_ "record_of" (top 8)::zV::zW::hT0::gJ::hT 306 ["kind","value","form"]::hT0::g_ "misfit" (top 10)::zX::zY::hT0::gJ::hT 315 ["fields","record","name","inner","place"]::hT0::g_ "record_misfit" (top 11)::zZ::z0::hT0::gJ::g_ "has_just" (top 12)::z7::z8::hT0::gJ::hT 332 ["kind","rows","earlier","number","row","place"]::hT0::g_ "rows_misfit" (top 13)::z9::z_::hT0::gJ::hT 344 ["value"]::hT0::g_ "is_pair" (top 14)::Aa::Ab::hT0::gJ::hT 351 ["kind","tree","place","number","arm"]::hT0::g_ "tree_misfit" (top 15)::Ac::Ad::hT0::gJ::hT 362 ["fields","value","inner","place"]::hT0::g_ "either_misfit" (top 16)::Ae::Af::hT0::gJ::hT 372 ["kind","row","key","by"]::hT0::g_ "rank" (top 17)::Ag::Ah::hT0::gJ::hT 384 ["kind","seen","place"]::hT0::g_ "ask_fit" (top 19)::Ai::Aj::hT0::gJ::hT 393 ["stands"]::hT0::g_ "ask_stands" (top 20)::Ak::Al::hT0::mS:: .mk (.type "dict") none (.dict #[hE P "__module__" 404 (.str (.ofString "putback.views") 379),hE P "__qualname__" 406 (.str (.ofString "View") 405),hE P "__firstlineno__" 408 (.int 104 407),hE P "behind" 416 (.ref 180),hE P "see" 425 (.ref 187),hE P "put" 435 (.ref 194),hE P "grade" 442 (.ref 201),hE P "keeps" 450 (.ref 208),hE P "__static_attributes__" 451 (.ref 209)] 9) #[]::hT0::hI [(106,4,179),(109,4,186),(112,4,193),(116,4,200),(119,4,207)]::hK "View" 399 104 170 402::nI 172 169 "putback.views" 379::hT0::gJ::hT 412 ["self","kind"]::hT0::hR "behind" "View.behind" (gB 21 0)::Am::An::hT0::gJ::hT 420 ["self","kind","source"]::hT0::hR "see" "View.see" (gB 21 1)::Ao::Ap::hT0::gJ::hT 429 ["self","kind","source","seen"]::hT0::hR "put" "View.put" (gB 21 2)::Aq::Ar::hT0::gJ::hT 439 ["self"]::hT0::hR "grade" "View.grade" (gB 21 3)::As::Au::hT0::gJ::hT 446 ["self","name"]::hT0::hR "keeps" "View.keeps" (gB 21 4)::Av::Aw::hT0::Ax P:: .mk (.type "type") none (.cls (.mk (.ofString "View") [.type "object"] [.ref 211,.type "object"] 210 (.ofString "View") true [] [] false none false)) #[none,none,some (.str (.ofString "View") 397),some (.str (.ofString "View") 405),some (.builtin "object.__new__"),some (.bool true)]::Az::AB::oz 211::hIs 211::hT0::gJ::hT 464 ["kind","name"]::hT0::g_ "field_kind" (top 23)::AD::AE::[]
noncomputable def endL (P:Params):List Obj:=hT0::gJ::g_ "has_each_once" (top 24)::AG::AH::hT0::gJ::g_ "fields_among" (top 25)::AI::AJ::hT0::gJ::g_ "fields_but" (top 26)::AK::AM::hT0::gJ::g_ "names_of" (top 27)::AN::AO::hT0::gJ::hT 496 ["record","names","part","name"]::hT0::g_ "part_of" (top 28)::AQ::AR::hT0::gJ::g_ "rest_of" (top 29)::AU::AV::hT0::gJ::hT 512 ["record","name","value","fresh"]::hT0::g_ "with_field" (top 30)::AW::AX::hT0::gJ::hT 522 ["record","names","into"]::hT0::g_ "nested" (top 31)::AY::AZ::hT0::gJ::hT 531 ["record","field","fresh"]::hT0::g_ "unnested" (top 32)::A0::A1::oA 211::mS:: .mk (.type "dict") none (.dict #[hE P "__module__" 544 (.str (.ofString "putback.fields") 459),hE P "__qualname__" 546 (.str (.ofString "Nest") 545),hE P "__firstlineno__" 548 (.int 151 547),hE P "__init__" 557 (.ref 289),hE P "behind" 566 (.ref 296),hE P "see" 575 (.ref 303),hE P "put" 585 (.ref 310),hE P "keeps" 593 (.ref 317),hE P "__static_attributes__" 596 (.ref 318)] 9) #[]::hT0::hI [(153,4,288),(157,4,295),(163,4,302),(166,4,309),(170,4,316)]::hK "Nest" 539 151 279 542::nI 281 278 "putback.fields" 459::hT0::gJ::hT 552 ["self","names","into"]::hT0::hR "__init__" "Nest.__init__" (gB 33 0)::A2::A4::hT0::gJ::hT 561 ["self","kind","rest"]::hT0::hR "behind" "Nest.behind" (gB 33 1)::A5::A6::hT0::gJ::hT 570 ["self","kind","source"]::hT0::hR "see" "Nest.see" (gB 33 2)::A7::A8::hT0::gJ::hT 579 ["self","kind","source","seen"]::hT0::hR "put" "Nest.put" (gB 33 3)::A9::A_::hT0::gJ::hT 589 ["self","name"]::hT0::hR "keeps" "Nest.keeps" (gB 33 4)::Ba::Bb::hT 594 ["into","names"]::Bc P::Bd::oz 320::hIs 320::oA 211::mS:: .mk (.type "dict") none (.dict #[hE P "__module__" 607 (.str (.ofString "putback.fields") 459),hE P "__qualname__" 609 (.str (.ofString "Unnest") 608),hE P "__firstlineno__" 611 (.int 172 610),hE P "__init__" 619 (.ref 336),hE P "behind" 629 (.ref 343),hE P "see" 638 (.ref 350),hE P "put" 648 (.ref 357),hE P "keeps" 656 (.ref 364),hE P "__static_attributes__" 658 (.ref 365)] 9) #[]::hT0::hI [(174,4,335),(177,4,342),(184,4,349),(187,4,356),(191,4,363)]::hK "Unnest" 602 172 326 605::nI 328 325 "putback.fields" 459::hT0::gJ::hT 615 ["self","field"]::hT0::hR "__init__" "Unnest.__init__" (gB 34 0)::Be::Bf::hT0::gJ::hT 623 ["self","kind","inner","rest"]::hT0::hR "behind" "Unnest.behind" (gB 34 1)::Bh::Bi::hT0::gJ::hT 633 ["self","kind","source"]::hT0::hR "see" "Unnest.see" (gB 34 2)::Bj::Bk::hT0::gJ::hT 642 ["self","kind","source","seen"]::hT0::hR "put" "Unnest.put" (gB 34 3)::Bl::Bm::hT0::gJ::hT 652 ["self","name"]::hT0::hR "keeps" "Unnest.keeps" (gB 34 4)::Bo::Bp::hT 657 ["field"]::Bq P::Br::oz 367::hIs 367::hT0::gJ::hT 667 ["_law_script","_law_at","_law_cell","_law_m"]::hT0::g_ "_law_next" (top 36)::Bs::Bt::hT0::gJ::hT 677 ["_law_script","_law_at","_law_m","_law_cell"]::hT0::g_ "_law_number" (top 37)::Bu::Bv::hT0::gJ::hT 687 ["_law_script","_law_at","_law_signs","_law_m","_law_many","_law_word_here","_law_k","_law_place_here"]::hT0::g_ "_law_word" (top 38)::Bw::Bx::hT0::gJ::hT 701 ["_law_script","_law_at","_law_many","_law_letters","_law_m","_law_step","_law_stem","_law_cut","_law_names_here","_law_k","_law_sign"]::hT0::g_ "_law_names" (top 39)::By::Bz::hT0::gJ::hT 718 ["_law_script","_law_at"]::hT0::g_ "_law_plain" (top 40)::BA::BB::hT0::gJ::g_ "_law_fields" (top 41)::BC::BD::hT0::gJ::hT 732 ["_law_script","_law_at","_law_many","_law_deep","_law_names_here","_law_m","_law_lead","_law_by","_law_fields_here","_law_k","_law_kind_here","_law_name"]::hT0::g_ "_law_rows_kind" (top 42)::BE::BF::hT0::gJ::hT 750 ["_law_script","_law_at","_law_deep","_law_m"]::hT0::g_ "_law_kind" (top 43)::BG::BH::hT0::gJ::hT 760 ["_law_kind_here","_law_row"]::hT0::g_ "_law_rank" (top 44)::BI::BJ::hT0::gJ::hT 768 ["_law_script","_law_at","_law_kind_here","_law_room","_law_rows_here","_law_seen","_law_k","_law_row"]::hT 776 ["_law_kind_here"]::g_ "_law_rows" (top 45)::BK::BL::hT0::gJ::g_ "_law_value" (top 46)::BN::BO::hT0::gJ::g_ "_law_alike" (top 47)::BP::BQ::hT0::gJ::hT 795 ["_law_view","_law_kind_here","_law_source","_law_seen","_law_told","e"]::hT0::g_ "_law_put" (top 48)::BR::BS::hT0::gJ::hT 807 ["_law_names_here","_law_m","_law_letters","_law_k","_law_name"]::hT0::g_ "_law_fresh" (top 49)::BU::BV::hT0::gJ::hT 818 ["_law_found","_law_due","_law_a","_law_b"]::hT0::g_ "_law_place" (top 50)::BW::BX::hT0::gJ::g_ "_law_kinds" (top 51)::BY::BZ::hT0::gJ::hT 834 ["_law_view","_law_kind_here","_law_found","e"]::hT0::g_ "_law_stands" (top 52)::B4::B_::hT0::gJ::hT 844 ["_law_view","_law_kind_here","_law_source","_law_shown","_law_inside","_law_more","_law_told","_law_name"]::hT0::g_ "_law_refused" (top 53)::Ca::Cb::hT0::gJ::g_ "_law_case" (top 54)::Cc::Cd::hT0::gJ::g_ "_law_clash" (top 55)::Ce::Cf::hT0::gJ::g_ "law" (top 56)::Cg::Ci::[]
noncomputable def HG (P:Params):List (Nat × Obj):=(nat_lit 3,zD P)::(nat_lit 12,hI [(2,0,20),(4,0,33),(6,0,45),(10,0,64),(15,0,83),(20,0,90),(27,0,97),(30,0,104),(43,0,111),(51,0,116),(53,0,123),(67,0,130),(69,0,137),(80,0,144),(90,0,151),(97,0,158),(101,0,165),(104,0,172),(122,0,221),(124,0,226),(128,0,231),(130,0,236),(132,0,241),(134,0,248),(139,0,253),(141,0,260),(145,0,267),(147,0,274),(151,0,281),(172,0,328),(194,0,375),(201,0,382),(209,0,389),(221,0,396),(235,0,403),(239,0,408),(242,0,415),(257,0,422),(268,0,429),(272,0,436),(281,0,441),(299,0,446),(327,0,453),(334,0,460),(341,0,467),(348,0,472),(351,0,479),(358,0,486),(371,0,491),(400,0,496),(410,0,501)])::(nat_lit 211,Ay)::[]
end
noncomputable def KK:PySem.Params->W.Frag:=λP=>(nat_lit 2,HD)::(nat_lit 3,zD P)::(nat_lit 23,zE P)::(nat_lit 24,zF)::(nat_lit 25,zG)::(nat_lit 36,zH P)::(nat_lit 37,zI)::(nat_lit 52,zJ)::(nat_lit 53,zK)::(nat_lit 55,zL P)::(nat_lit 56,zM)::(nat_lit 71,zN)::(nat_lit 72,zO)::(nat_lit 74,zP P)::(nat_lit 75,zQ)::(nat_lit 83,zR)::(nat_lit 84,zS)::(nat_lit 90,zT)::(nat_lit 91,zU)::(nat_lit 97,zV)::(nat_lit 98,zW)::(nat_lit 104,zX)::(nat_lit 105,zY)::(nat_lit 111,zZ)::(nat_lit 112,z0)::(nat_lit 116,z7)::(nat_lit 117,z8)::(nat_lit 123,z9)::(nat_lit 124,z_)::(nat_lit 130,Aa)::(nat_lit 131,Ab)::(nat_lit 137,Ac)::(nat_lit 138,Ad)::(nat_lit 144,Ae)::(nat_lit 145,Af)::(nat_lit 151,Ag)::(nat_lit 152,Ah)::(nat_lit 158,Ai)::(nat_lit 159,Aj)::(nat_lit 165,Ak)::(nat_lit 166,Al)::(nat_lit 179,Am)::(nat_lit 180,An)::(nat_lit 186,Ao)::(nat_lit 187,Ap)::(nat_lit 193,Aq)::(nat_lit 194,Ar)::(nat_lit 200,As)::(nat_lit 201,Au)::(nat_lit 207,Av)::(nat_lit 208,Aw)::(nat_lit 210,Ax P)::(nat_lit 211,Ay)::(nat_lit 212,Az)::(nat_lit 213,AB)::(nat_lit 221,AD)::(nat_lit 222,AE)::(nat_lit 226,AG)::(nat_lit 227,AH)::(nat_lit 231,AI)::(nat_lit 232,AJ)::(nat_lit 236,AK)::(nat_lit 237,AM)::(nat_lit 241,AN)::(nat_lit 242,AO)::(nat_lit 248,AQ)::(nat_lit 249,AR)::(nat_lit 253,AU)::(nat_lit 254,AV)::(nat_lit 260,AW)::(nat_lit 261,AX)::(nat_lit 267,AY)::(nat_lit 268,AZ)::(nat_lit 274,A0)::(nat_lit 275,A1)::(nat_lit 288,A2)::(nat_lit 289,A4)::(nat_lit 295,A5)::(nat_lit 296,A6)::(nat_lit 302,A7)::(nat_lit 303,A8)::(nat_lit 309,A9)::(nat_lit 310,A_)::(nat_lit 316,Ba)::(nat_lit 317,Bb)::(nat_lit 319,Bc P)::(nat_lit 320,Bd)::(nat_lit 335,Be)::(nat_lit 336,Bf)::(nat_lit 342,Bh)::(nat_lit 343,Bi)::(nat_lit 349,Bj)::(nat_lit 350,Bk)::(nat_lit 356,Bl)::(nat_lit 357,Bm)::(nat_lit 363,Bo)::(nat_lit 364,Bp)::(nat_lit 366,Bq P)::(nat_lit 367,Br)::(nat_lit 375,Bs)::(nat_lit 376,Bt)::(nat_lit 382,Bu)::(nat_lit 383,Bv)::(nat_lit 389,Bw)::(nat_lit 390,Bx)::(nat_lit 396,By)::(nat_lit 397,Bz)::(nat_lit 403,BA)::(nat_lit 404,BB)::(nat_lit 408,BC)::(nat_lit 409,BD)::(nat_lit 415,BE)::(nat_lit 416,BF)::(nat_lit 422,BG)::(nat_lit 423,BH)::(nat_lit 429,BI)::(nat_lit 430,BJ)::(nat_lit 436,BK)::(nat_lit 437,BL)::(nat_lit 441,BN)::(nat_lit 442,BO)::(nat_lit 446,BP)::(nat_lit 447,BQ)::(nat_lit 453,BR)::(nat_lit 454,BS)::(nat_lit 460,BU)::(nat_lit 461,BV)::(nat_lit 467,BW)::(nat_lit 468,BX)::(nat_lit 472,BY)::(nat_lit 473,BZ)::(nat_lit 479,B4)::(nat_lit 480,B_)::(nat_lit 486,Ca)::(nat_lit 487,Cb)::(nat_lit 491,Cc)::(nat_lit 492,Cd)::(nat_lit 496,Ce)::(nat_lit 497,Cf)::(nat_lit 501,Cg)::(nat_lit 502,Ci)::[]
noncomputable def nK:List Nat:=nat_lit 2::nat_lit 3::nat_lit 23::nat_lit 24::nat_lit 25::nat_lit 36::nat_lit 37::nat_lit 52::nat_lit 53::nat_lit 55::nat_lit 56::nat_lit 71::nat_lit 72::nat_lit 74::nat_lit 75::nat_lit 83::nat_lit 84::nat_lit 90::nat_lit 91::nat_lit 97::nat_lit 98::nat_lit 104::nat_lit 105::nat_lit 111::nat_lit 112::nat_lit 116::nat_lit 117::nat_lit 123::nat_lit 124::nat_lit 130::nat_lit 131::nat_lit 137::nat_lit 138::nat_lit 144::nat_lit 145::nat_lit 151::nat_lit 152::nat_lit 158::nat_lit 159::nat_lit 165::nat_lit 166::nat_lit 179::nat_lit 180::nat_lit 186::nat_lit 187::nat_lit 193::nat_lit 194::nat_lit 200::nat_lit 201::nat_lit 207::nat_lit 208::nat_lit 210::nat_lit 211::nat_lit 212::nat_lit 213::nat_lit 221::nat_lit 222::nat_lit 226::nat_lit 227::nat_lit 231::nat_lit 232::nat_lit 236::nat_lit 237::nat_lit 241::nat_lit 242::nat_lit 248::nat_lit 249::nat_lit 253::nat_lit 254::nat_lit 260::nat_lit 261::nat_lit 267::nat_lit 268::nat_lit 274::nat_lit 275::nat_lit 288::nat_lit 289::nat_lit 295::nat_lit 296::nat_lit 302::nat_lit 303::nat_lit 309::nat_lit 310::nat_lit 316::nat_lit 317::nat_lit 319::nat_lit 320::nat_lit 335::nat_lit 336::nat_lit 342::nat_lit 343::nat_lit 349::nat_lit 350::nat_lit 356::nat_lit 357::nat_lit 363::nat_lit 364::nat_lit 366::nat_lit 367::nat_lit 375::nat_lit 376::nat_lit 382::nat_lit 383::nat_lit 389::nat_lit 390::nat_lit 396::nat_lit 397::nat_lit 403::nat_lit 404::nat_lit 408::nat_lit 409::nat_lit 415::nat_lit 416::nat_lit 422::nat_lit 423::nat_lit 429::nat_lit 430::nat_lit 436::nat_lit 437::nat_lit 441::nat_lit 442::nat_lit 446::nat_lit 447::nat_lit 453::nat_lit 454::nat_lit 460::nat_lit 461::nat_lit 467::nat_lit 468::nat_lit 472::nat_lit 473::nat_lit 479::nat_lit 480::nat_lit 486::nat_lit 487::nat_lit 491::nat_lit 492::nat_lit 496::nat_lit 497::nat_lit 501::nat_lit 502::[]
noncomputable def Cj (P:PySem.Params):W.BT:=vd 11 (HF P) ((ve P).ins 3 (HE P))
noncomputable def HH (P:PySem.Params):W.BT:=zu (HG P) (vd 223 (endL P) (Cj P))
noncomputable def qv:PySem.Program:={ PySem.Challenge.pw_putback_k28_unnest with main:={ (PySem.Challenge.pw_putback_k28_unnest).main with body:=top 1::top 2::top 3::top 4::top 6::top 7::top 8::top 10::top 11::top 12::top 13::top 14::top 15::top 16::top 17::top 19::top 20::top 21::top 23::top 24::top 25::top 26::top 27::top 28::top 29::top 30::top 31::top 32::top 33::top 34::top 36::top 37::top 38::top 39::top 40::top 41::top 42::top 43::top 44::top 45::top 46::top 47::top 48::top 49::top 50::top 51::top 52::top 53::top 54::top 55::top 56::[] } }
theorem oE (P:PySem.Params):nK=(KK P).map (·.1):=by kernel_rfl
noncomputable def Ck (w:PySem.World) (os:PySem.OsState):W.SharedT:=⟨Cj w.params,223,(W.boot_heap w.params).life,#[],W.boot_drawn,469,os⟩
noncomputable def oF (w:PySem.World) (os:PySem.OsState):W.SharedT:=⟨HH w.params,503,(W.boot_heap w.params).life,#[],W.boot_drawn,873,os⟩
noncomputable def vg:List PySem.Stmt:=W.behindTheImports (W.OpenLaw.row PySem.Challenge.rw_putback_k28_unnest).prog
noncomputable def sN:PySem.Env:={ scope:=((W.OpenLaw.row PySem.Challenge.rw_putback_k28_unnest).prog).main.scope,locals:=PySem.mainNs,globals:=PySem.mainNs,cells:=[],code:=.ref 13,frame:=some 14 }
noncomputable def qN:PySem.Code:=.body (W.behindTheImports (W.OpenLaw.row PySem.Challenge.rw_putback_k28_unnest).prog) sN
open W PyProof.Rows in
theorem HI:∀w os,sJ (W.OpenLaw.row PySem.Challenge.rw_putback_k28_unnest).prog w 11 (some (.ref 6)) sN qN ⟨0,0,0,0⟩ (vg.take 24) 12 1 5000 (sM w os)=some (⟨lY lZ (.body (behindTheImports (W.OpenLaw.row PySem.Challenge.rw_putback_k28_unnest).prog) sN),qN,⟨0,0,0,0⟩,[topFrame ⟨0,0,0,0⟩]⟩,qN,qN,Ck w os,⟨122,0,123,66⟩):=by
 intro w os
 kernel_rfl
open W PyProof.Rows in
theorem HJ:∀w os,oy (W.OpenLaw.row PySem.Challenge.rw_putback_k28_unnest).prog w 11 (some (.ref 6)) 6000 (Ck w os) (restOf (vg.drop 24) sN qN ⟨122,0,123,66⟩ [topFrame ⟨0,0,0,0⟩])=some (oF w os):=by
 intro w os
 kernel_rfl
open W PyProof.Rows in
theorem HK:∀w os,(staticsOk (importedModules ((W.OpenLaw.row PySem.Challenge.rw_putback_k28_unnest).prog).main.body) (boot_heap w.params) (oF w os).abs.heap && namesBound (W.OpenLaw.row PySem.Challenge.rw_putback_k28_unnest).prog (oF w os).abs.heap && gensDone (oF w os).abs && laidKept (boot_heap w.params) (oF w os).abs.heap)=true:=by
 intro w os
 kernel_rfl
open W PyProof.Rows in
theorem HL:∀w os,seenQ qv [] (importedModules ((W.OpenLaw.row PySem.Challenge.rw_putback_k28_unnest).prog).main.body) (λs=>xlAt qv [] s && recOk (RowW.records (W.OpenRow.toRowW (W.OpenLaw.row PySem.Challenge.rw_putback_k28_unnest))) s) true (oF w os).abs=openGood qv []:=by
 intro w os
 kernel_rfl
open W PyProof.Rows in
theorem HM:∀w os,Hook.obs (W.kmHook Pb.KK Pb.nK Pb.oE [86,432,470,489,499]) (oF w os).abs=Hook.val (W.kmHook Pb.KK Pb.nK Pb.oE [86,432,470,489,499]) w:=by
 intro w os
 kernel_rfl
open W PyProof.Rows in
theorem said:PySem.Challenge.rw_putback_k28_unnest.wellSaid=true:=by
 delta OpenLaw.wellSaid OpenRow.wellSaid OpenRow.partSaid looksOpen
 repeat' (with_reducible refine look_both ?_ ?_)
 all_goals kernel_rfl
end Pb
namespace L2
open Spec PyProof.Rows
noncomputable abbrev Key:=Sum Int Str
noncomputable def oG:Key->Value->Bool
 | .inl k,v=>Value.isInt k v
 | .inr x,v=>Value.isStrOf x v
noncomputable def HN (w:World):Key->Int
 | .inl k=>hashInt k
 | .inr x=>hashStr w x
theorem my:∀{k:Key}{v:Value},oG k v=true->(∃i t,k=Sum.inl i/\v=Value.int i t)\/(∃x t,k=Sum.inr x/\v=Value.str x t)
 | .inl i,v,h=>by
   obtain⟨t,e⟩:=Value.isInt_shape (k:=i) (v:=v) h;exact .inl ⟨i,t,rfl,e⟩
 | .inr x,v,h=>by
   obtain⟨t,e⟩:=Value.isStrOf_shape (x:=x) (v:=v) h;exact .inr ⟨x,t,rfl,e⟩
theorem HP (i:Int)(t:Tok):oG (.inl i) (.int i t)=true:=by simp[oG,Value.isInt]
theorem Cm (x:Str)(t:Tok):oG (.inr x) (.str x t)=true:=by simp[oG,Value.isStrOf]
theorem HQ (a b:Int):decide ((Sum.inl a:Key)=Sum.inl b)=(a == b):=by
 by_cases e:a=b
 . subst e;simp
 . have h:¬(Sum.inl a:Key)=Sum.inl b:=λq=>e (Sum.inl.inj q);rw[decide_eq_false h];exact(beq_eq_false_iff_ne.mpr e).symm
theorem HS (a b:Str):decide ((Sum.inr a:Key)=Sum.inr b)=decide (a=b):=by
 by_cases e:a=b
 . subst e;simp
 . have h:¬(Sum.inr a:Key)=Sum.inr b:=λq=>e (Sum.inr.inj q);rw[decide_eq_false h,decide_eq_false e]
theorem HU (a:Int)(b:Str):decide ((Sum.inl a:Key)=Sum.inr b)=false:=decide_eq_false (λq=>nomatch q)
theorem HV (a:Str)(b:Int):decide ((Sum.inr a:Key)=Sum.inl b)=false:=decide_eq_false (λq=>nomatch q)
noncomputable def iW (prog:Program) (w:World):PySem.KeyKind prog w Key where
 is:=oG
 hash:=HN w
 inj:=λv a b U L=>by
  rcases my U with⟨i,t,rfl,rfl⟩|⟨x,t,rfl,rfl⟩
  . rcases my L with⟨j,u,rfl,e⟩|⟨y,u,rfl,e⟩
    . injection e with z _;rw[z]
    . exact nomatch e
  . rcases my L with⟨j,u,rfl,e⟩|⟨y,u,rfl,e⟩
    . exact nomatch e
    . injection e with z _;rw[z]
 byValue:=λk v h=>by
  rcases my h with⟨i,t,rfl,rfl⟩|⟨x,t,rfl,rfl⟩ <;> rfl
 pyHash:=λJ h=>by
  rcases my J with⟨i,t,rfl,rfl⟩|⟨x,t,rfl,rfl⟩
  . exact wpAny_pyHash_int h
  . exact wpAny_pyHash_str h
 eqBool:=λY J h=>by
  rcases my Y with⟨i,t,rfl,rfl⟩|⟨x,t,rfl,rfl⟩
  . rcases my J with⟨j,u,rfl,rfl⟩|⟨y,u,rfl,rfl⟩
    . rw[HQ] at h;exact wpAny_eqBool_int h
    . rw[HU] at h;exact SeqAt.EqAt.int_str i t y u _ _ _ _ h
  . rcases my J with⟨j,u,rfl,rfl⟩|⟨y,u,rfl,rfl⟩
    . rw[HV] at h;exact SeqAt.EqAt.str_int x t j u _ _ _ _ h
    . rw[HS] at h;exact wpAny_eqBool_str h
 «strs»:=λk x t v h=>by
  rcases my h with⟨i,u,rfl,e⟩|⟨y,u,rfl,e⟩
  . exact nomatch e
  . injection e with z _
    subst z
    cases v <;> rfl
theorem HW (prog:Program)(w:World)(i:Int)(t:Tok):(iW prog w).is (.inl i) (.int i t)=true:=HP i t
theorem HX (prog:Program)(w:World)(x:Str)(t:Tok):(iW prog w).is (.inr x) (.str x t)=true:=Cm x t
inductive V where
 |non|bl (b:Bool)|int (i:Int)|str (x:Str)|lB (b:Array UInt8)|flt (b:UInt64)|ref (a:Addr)|ty (n:String)
 deriving DecidableEq
def RelV:V->Value->Prop
 | .non,u=>u=Value.none
 | .bl b,u=>u=Value.bool b
 | .int i,u=>∃t,u=Value.int i t
 | .str x,u=>∃t,u=Value.str x t
 | .lB b,u=>∃t,u=Value.bytes b t
 | .flt b,u=>∃t,u=Value.float b t
 | .ref a,u=>u=Value.ref a
 | .ty n,u=>u=Value.type n
abbrev Vals:List V->List Value->Prop:=Paired RelV
theorem Vals.length {xs:List V}{us:List Value}(r:Vals xs us):xs.length=us.length:=Paired.length r
theorem Vals.get:∀{xs:List V}{us:List Value}{i:Nat}{x:V},Vals xs us->xs[i]? =some x->∃u,us[i]? =some u/\RelV x u
 |_,_,_,_,.nil,e=>by simp at e
 |_,_,0,_,.cons r _,e=>by simp at e;subst e;exact⟨_,rfl,r⟩
 |_,_,i+1,x,.cons _ t,e=>by
  obtain⟨u,h1,h2⟩:=Vals.get (i:=i) (x:=x) t (by simpa using e);exact⟨u,by simpa using h1,h2⟩
theorem Vals.set {x:V}{u:Value}(r:RelV x u):∀{xs:List V}{us:List Value}(i:Nat),Vals xs us->Vals (xs.set i x) (us.set i u)
 |_,_,_,.nil=>.nil
 |_,_,0,.cons _ t=>.cons r t
 |_,_,i+1,.cons q t=>.cons q (Vals.set r i t)
theorem Vals.append:∀{xs ys:List V}{us z:List Value},Vals xs us->Vals ys z->Vals (xs++ys) (us++z)
 |_,_,_,_,.nil,s=>s
 |_,_,_,_,.cons r t,s=>.cons r (Vals.append t s)
theorem Vals.take:∀{xs:List V}{us:List Value}(n:Nat),Vals xs us->Vals (xs.take n) (us.take n)
 |_,_,0,_=>.nil
 |_,_,_+1,.nil=>.nil
 |_,_,n+1,.cons r t=>.cons r (Vals.take n t)
theorem Vals.drop:∀{xs:List V}{us:List Value}(n:Nat),Vals xs us->Vals (xs.drop n) (us.drop n)
 |_,_,0,r=>r
 |_,_,_+1,.nil=>.nil
 |_,_,n+1,.cons _ t=>Vals.drop n t
theorem Vals.none_of:∀{xs:List V}{us:List Value}{i:Nat},Vals xs us->xs[i]? =none->us[i]? =none:=λ{xs us i} r e=>by
 have h1:=r.length;have h2:xs.length<=i:=List.getElem?_eq_none_iff.mp e;exact List.getElem?_eq_none_iff.mpr (by omega)
def jX:Option V->Option Value->Prop
 |some v,some u=>RelV v u
 |none,none=>True
 |_,_=>False
def KV {κ:Type}:List (κ × V)->List (κ × Value)->Prop:=Paired λ(p:κ × V) (q:κ × Value)=>p.1=q.1/\RelV p.2 q.2
noncomputable def kV:Key->V
 | .inl i=>.int i
 | .inr x=>.str x
inductive HO where
 |lst (xs:List V)
 |tup (xs:List V)
 |dK (kvs:List (Key × V))|dT (kvs:List (List Key × V))
 |set (S:Int->Bool) (n:Nat)
 |ins (C dx:Addr) (fs:List (Str × V))
 |own (x:Addr)
 |xd (fs:List (Str × V))
 |met (f x:Addr)
 |rng (lo hi:Int)
 |i4 (o:Obj) (u:HO)
 |gQ (ps:Array Value)
 |ext (φ:Heap->Prop)
noncomputable abbrev Hp:=Addr->Option HO
noncomputable def upd (H:Hp) (a:Addr) (o:HO):Hp:=λb=>if b=a then some o else H b
theorem fZ {H:Hp}{a:Addr}{o:HO}:upd H a o a=some o:=by unfold upd;rw[if_pos rfl]
theorem fV {H:Hp}{a b:Addr}{o:HO}(h:b≠a):upd H a o b=H b:=by unfold upd;rw[if_neg h]
theorem jz {H:Hp}{a b:Addr}{o u:HO}(h:H a=some o)(h':H b=some u)(d:o≠u):a≠b:=by
 intro e;subst e;rw[h] at h';exact d (Option.some.inj h')
theorem gc {H:Hp}{a b:Addr}{o:HO}(h:H a=some o)(h':H b=none):a≠b:=by
 intro e;subst e;rw[h] at h';cases h'
section
variable (P:Program)(w:World)
def iN (H:Hp) (h:Heap) (a:Addr):HO->Prop
 | .lst xs=>xs.length<=sizeLine/\∃(z:List Value) (n:Nat),Vals xs z/\h.get? a=some { cls:=.type "list",data:=.seq z.toArray n }
 | .tup xs=>xs.length<=sizeLine/\∃z:List Value,Vals xs z/\IsTup h a z.toArray
 | .dK kvs=>kvs.length<=sizeLine/\(a == sysModules)=false/\∃vs,KV kvs vs/\h.DictOf (iW P w) a vs
 | .dT kvs=>kvs.length<=sizeLine/\(a == sysModules)=false/\∃xs:List (List Key × Addr × Value),
    Paired (λ(p:List Key × V) (q:List Key × Addr × Value)=>p.1=q.1/\H q.2.1=some (.tup (p.1.map kV))/\RelV p.2 q.2.2) kvs xs/\
    ∃o es L,h.get? a=some o/\o.ExactDict/\o.data=.dict es L/\es.toList=xs.map (entryOfKey (tupleKind (iW P w)))/\(xs.map (·.1)).Nodup
 | .set S n=>h.SetOf (intKind P w) a S n
 | .ins C dx fs=>H dx=some (.own a)/\fs.length<=1000/\dx≠a/\h.get? a=some (W.instObj C dx)/\
    ∃mA,h.Ns1 dx mA/\(∀f,jX (fs.lookup f) (mA f))/\PySem.Within mA (fs.map (·.1))
 | .own _=>∃o,h.get? a=some o
 | .xd fs=>∃mA,h.Ns1 a mA/\∀f,jX (fs.lookup f) (mA f)
 | .rng lo hi=>∃t u v,h.get? a=some { cls:=.type "range",data:=.fields #[.int lo t,.int hi u,.int 1 v] }
 | .i4 o u=>h.get? a=some o/\iN H h a u
 | .gQ ps=>h.get? a=some { cls:=.none,data:=.fields ps }
 | .met f x=>h.get? a=some (W.methodObj (.ref f) (.ref x))
 | .ext J=>J h/\(∃o,h.get? a=some o)/\∀h1 h2:Heap,J h1->(∀o,h1.get? a=some o->h2.get? a=some o)->J h2
def iG (H:Hp) (h:Heap):Prop:=∀a o,H a=some o->iN P w H h a o
end
section
variable {P:Program}{w:World}{H H':Hp}{h h':Heap}{a:Addr}{o:HO}
theorem iN.lt (x:iN P w H h a o):a<h.objs.size:=by
 cases o with
 |lst xs=>obtain⟨_,_,_,_,e⟩:=x;exact Q01 e
 |tup xs=>obtain⟨_,_,_,p⟩:=x;exact p.lt
 |dK kvs=>obtain⟨_,_,_,_,o,_,_,e,_⟩:=x;exact Q01 e
 |dT kvs=>obtain⟨_,_,_,_,o,_,_,e,_⟩:=x;exact Q01 e
 |set S n=>obtain⟨o,_,_,_,e,_⟩:=x;exact Q01 e
 |ins C dx fs=>obtain⟨_,_,_,e,_⟩:=x;exact Q01 e
 |own y=>obtain⟨_,e⟩:=x;exact Q01 e
 |xd fs=>obtain⟨_,⟨_,_,_,e,_⟩,_⟩:=x;exact Q01 e
 |rng lo hi=>obtain⟨_,_,_,e⟩:=x;exact Q01 e
 |i4 z u=>obtain⟨e,_⟩:=x;exact Q01 e
 |gQ ps=>exact Q01 (show h.get? a=some _ from x)
 |met f y=>exact Q01 (show h.get? a=some _ from x)
 |ext J=>obtain⟨_,⟨_,e⟩,_⟩:=x;exact Q01 e
theorem Paired.sO {α z:Type}{F G:α->z->Prop}:∀{l₁:List α}{l₂:List z},Paired F l₁ l₂->(∀a b,F a b->G a b)->Paired G l₁ l₂
 |_,_,.nil,_=>.nil
 |_,_,.cons r t,f=>.cons (f _ _ r) (Paired.sO t f)
theorem iN.stay (x:iN P w H h a o)(k:∀b u,(b=a\/H b=some (.own a))->h.get? b=some u->h'.get? b=some u)
 (ho:∀b,H b=some (.own a)->H' b=some (.own a)) (ht:∀b xs,H b=some (.tup xs)->H' b=some (.tup xs)):iN P w H' h' a o:=by
 induction o with
 |lst xs=>obtain⟨z,U,n,r,e⟩:=x;exact⟨z,U,n,r,k _ _ (.inl rfl) e⟩
 |tup xs=>obtain⟨z,U,r,J,e,c⟩:=x;exact⟨z,U,r,J,k _ _ (.inl rfl) e,c⟩
 |dK kvs=>obtain⟨z,y,vs,r,J,es,L,e,c⟩:=x;exact⟨z,y,vs,r,J,es,L,k _ _ (.inl rfl) e,c⟩
 |dT kvs=>
  obtain⟨z,y,xs,r,J,es,L,e,c⟩:=x;exact⟨z,y,xs,Paired.sO r λp q z=>⟨z.1,ht _ _ z.2.1,z.2.2⟩,J,es,L,k _ _ (.inl rfl) e,c⟩
 |set S n=>obtain⟨J,es,L,t,e,c⟩:=x;exact⟨J,es,L,t,k _ _ (.inl rfl) e,c⟩
 |ins C dx fs=>
  obtain⟨d,z,ne,e,mA,⟨Y,es,L,e2,c⟩,r⟩:=x;exact⟨ho _ d,z,ne,k _ _ (.inl rfl) e,mA,⟨Y,es,L,k _ _ (.inr d) e2,c⟩,r⟩
 |own y=>obtain⟨J,e⟩:=x;exact⟨J,k _ _ (.inl rfl) e⟩
 |xd fs=>obtain⟨mA,⟨Y,es,L,e,c⟩,r⟩:=x;exact⟨mA,⟨Y,es,L,k _ _ (.inl rfl) e,c⟩,r⟩
 |rng lo hi=>obtain⟨t,u,v,e⟩:=x;exact⟨t,u,v,k _ _ (.inl rfl) e⟩
 |i4 J u ih=>obtain⟨e,q⟩:=x;exact⟨k _ _ (.inl rfl) e,ih q⟩
 |gQ ps=>
  have e:h.get? a=some { cls:=.none,data:=.fields ps }:=x;show h'.get? a=some { cls:=.none,data:=.fields ps };exact k a _ (.inl rfl) e
 |met f y=>
  have e:h.get? a=some (W.methodObj (.ref f) (.ref y)):=x;show h'.get? a=some (W.methodObj (.ref f) (.ref y));exact k a _ (.inl rfl) e
 |ext φ=>obtain⟨p,⟨o,e⟩,st⟩:=x;exact⟨st _ _ p λo q=>k _ _ (.inl rfl) q,⟨o,k _ _ (.inl rfl) e⟩,st⟩
theorem iG.lt (x:iG P w H h)(e:H a=some o):a<h.objs.size:=(x a o e).lt
theorem iG.fresh (x:iG P w H h)(e:h.objs.size<=a):H a=none:=by
 cases q:H a with
 |none=>rfl
 |some u=>exact absurd (Q0c (x.lt q) e) (Q0p _)
theorem iG.kept (x:iG P w H h)(k:∀b u,h.get? b=some u->h'.get? b=some u):iG P w H h':=λa o e=>
 (x a o e).stay (λb u _ q=>k b u q) (λ_ q=>q) λ_ _ q=>q
theorem iG.laid (x:iG P w H h)(k:∀b u,h.get? b=some u->h'.get? b=some u)(hp:h.objs.size<=a)(new:iN P w (upd H a o) h' a o):iG P w (upd H a o) h':=λb u e=>by
 have z:=x.fresh hp;by_cases J:b=a
 . subst J;rw[fZ] at e;cases e;exact new
 . rw[fV J] at e;exact(x b u e).stay (λc v _ q=>k c v q) (λc q=>by rw[fV (gc q z)];exact q) λc xs q=>by rw[fV (gc q z)];exact q
end
def Rd (H:Hp) (a:Addr) (u:HO):Prop:=H a=some u\/∃o,H a=some (.i4 o u)
theorem Rd.ok {P:Program}{w:World}{H:Hp}{h:Heap}{a:Addr}{u:HO}(r:Rd H a u)(x:iG P w H h):iN P w H h a u:=by
 rcases r with r|⟨o,r⟩
 . exact x a u r
 . obtain⟨_,q⟩:=x a _ r;exact q
def qO:Option HO->Prop
 |some (.lst _)=>True
 |some (.dK _)=>True
 |some (.dT _)=>True
 |some (.set _ _)=>True
 |some (.ins _ _ _)=>True
 |some (.ext _)=>True
 |_=>False
section
variable {P:Program}{w:World}{H:Hp}{h h':Heap}{x e:Addr}{o':HO}
theorem iG.write (ok:iG P w H h)(mu:qO (H x))(he:e=x\/H e=some (.own x))(k:∀b u,b≠e->h.get? b=some u->h'.get? b=some u)(aa:∃u,h'.get? e=some u)
 (new:iN P w (upd H x o') h' x o'):iG P w (upd H x o') h':=λb u q=>by
 have L:∀c y,H c=some (.own y)->c≠x:=λc y r z=>by subst z;rw[r] at mu;exact mu
 have U:∀c xs,H c=some (.tup xs)->c≠x:=λc xs r z=>by subst z;rw[r] at mu;exact mu
 by_cases Y:b=x
 . subst Y;rw[fZ] at q;cases q;exact new
 . rw[fV Y] at q;by_cases J:b=e
   . have q':H b=some (.own x):=by
      rcases he with z|z
      . exact absurd (J.trans z) Y
      . rw[J];exact z
     rw[q] at q';cases q';obtain⟨v,hv⟩:=aa;exact⟨v,by rw[J];exact hv⟩
   . refine(ok b u q).stay (λc v hc r=>k c v ?_ r) (λc r=>by rw[fV (L c b r)];exact r) λc xs r=>by rw[fV (U c xs r)];exact r
     rcases hc with rfl|hc
     . exact J
     . rintro rfl;rcases he with z|z
       . exact L c b hc z
       . rw[hc] at z;cases z;exact Y rfl
end
structure Un (fs ex:List Addr) (H H':Hp) (h h':Heap):Prop where
 keep:∀b o,h.get? b=some o->H b=none->b ∉ fs->b ∉ ex->h'.get? b=some o
 slot:∀b o,h.get? b=some o->H b=none->b∈fs->b ∉ ex->∃sl,h'.get? b=some { o with slots:=sl }
 free:∀b o,h.get? b=some o->H b=none->b ∉ ex->H' b=none
 there:∀b o,h.get? b=some o->b ∉ ex->∃o',h'.get? b=some o'
 tups:∀b xs,H b=some (.tup xs)->H' b=some (.tup xs)
 j3:∀b o u,H b=some (.i4 o u)->H' b=some (.i4 o u)
 km:∀b ps,H b=some (.gQ ps)->∃more,H' b=some (.gQ (ps++more))
section
variable {fs fs' ex ex':List Addr}{H H1 H2:Hp}{h h1 h2 h':Heap}{a x e:Addr}{o:HO}
theorem Un.any (u:Un fs ex H H1 h h1){b:Addr}{z:Obj}(q:h.get? b=some z)(n:H b=none)(J:b ∉ ex):∃U,h1.get? b=some { z with slots:=U }:=by
 by_cases L:b∈fs
 . exact u.slot b z q n L J
 . exact⟨z.slots,u.keep b z q n L J⟩
theorem Un.kept (k:∀b u,h.get? b=some u->h'.get? b=some u):Un fs ex H H h h':=
 ⟨λb z q _ _ _=>k b z q,λb z q _ _ _=>⟨z.slots,k b z q⟩,λ_ _ _ n _=>n,λb z q _=>⟨z,k b z q⟩,λ_ _ q=>q,λ_ _ _ q=>q,λ_ ps q=>⟨#[],by rw[q];simp⟩⟩
theorem Un.refl:Un fs ex H H h h:=Un.kept λ_ _ q=>q
theorem Un.laid (k:∀b u,h.get? b=some u->h'.get? b=some u)(hp:h.objs.size<=a)(z:H a=none):Un fs ex H (upd H a o) h h' where
 keep:=λb u q _ _ _=>k b u q
 slot:=λb u q _ _ _=>⟨u.slots,k b u q⟩
 free:=λb u q n _=>by rw[fV (Q08 (Q0c (Q01 q) hp))];exact n
 there:=λb u q _=>⟨u,k b u q⟩
 tups:=λb xs q=>by rw[fV (gc q z)];exact q
 j3:=λb u xs q=>by rw[fV (gc q z)];exact q
 km:=λb ps q=>⟨#[],by rw[fV (gc q z),q];simp⟩
theorem Un.write (mu:qO (H x))(he:e=x\/H e=some (.own x))(k:∀b u,b≠e->h.get? b=some u->h'.get? b=some u)(U:∃u,h'.get? e=some u):Un fs ex H (upd H x o) h h':=by
 have Y:∀b,H b=none->b≠x:=λb n z=>by subst z;rw[n] at mu;exact mu
 have hb:∀b,H b=none->b≠e:=λb n z=>by
  subst z;rcases he with r|r
  . exact Y b n r
  . rw[n] at r;cases r
 have L:∀b u,H b=some u->¬qO (some u)->b≠x:=λb u q nm z=>by subst z;rw[q] at mu;exact nm mu
 refine⟨λb u q n _ _=>k b u (hb b n) q,λb u q n _ _=>⟨u.slots,k b u (hb b n) q⟩,λb u q n _=>by rw[fV (Y b n)];exact n,λb u q _=>?_,
  λb xs q=>by rw[fV (L b _ q λz=>z)];exact q,λb u xs q=>by rw[fV (L b _ q λz=>z)];exact q,λb ps q=>⟨#[],by rw[fV (L b _ q λz=>z),q];simp⟩⟩
 by_cases J:b=e
 . subst J;exact U
 . exact⟨u,k b u J q⟩
end
noncomputable def sQ (h:Heap) (H:Hp):List Addr:=(List.range h.objs.size).filter λa=>(H a).isSome
noncomputable def mz (h:Heap) (H:Hp):Heap:=W.hideAll h (sQ h H)
theorem HY (h:Heap)(H:Hp):(mz h H).objs.size=h.objs.size:=W.hideAll_size _ _
theorem HZ {h:Heap}{H:Hp}{b:Addr}{o:Obj}(e:h.get? b=some o)(n:H b=none):(mz h H).get? b=some o:=
 W.hideAll_get _ e λz=>by
   have q:(H b).isSome=true:=(List.mem_filter.mp z).2;rw[n] at q;simp at q
theorem H_ {h:Heap}{H:Hp}{b:Addr}{o:Obj}(e:(mz h H).get? b=some o):h.get? b=some o/\H b=none:=by
 have J:h.get? b=some o:=W.of_hideAll (sQ h H) e;refine⟨J,?_⟩
 cases q:H b with
 |none=>rfl
 |some x=>
  have L:b∈sQ h H:=List.mem_filter.mpr ⟨List.mem_range.mpr (Q01 J),by simp[q]⟩;have z:(mz h H).get? b=none:=W.hideAll_none (sQ h H) L;rw[z] at e;cases e
noncomputable def Ia (g h:Heap) (L:Addr):List (Addr × Obj):=(List.range h.objs.size).filterMap λa=>if a=L\/(g.get? a).isSome=true then none else(h.get? a).map λo=>(a,o)
noncomputable def rest (g h:Heap) (L d:Addr):List (Addr × Obj):=(Ia g h L).filter λp=>decide (p.1≠d)
structure Mod (K:W.Frag) (mg:Str->Option Value) (base:Heap):Prop where
 oH:K.In base
 glob:base.Ns mainGlobals mg
 blt:∃mb,base.Ns builtinsNs mb/\∀x:Str,x≠"__name__"->mb x=bootBuiltins x
 nolimit:base.NoLimit
structure Cx where
 prog:Program
 w:World
 K:W.Frag
 mg:Str->Option Value
 base:Heap
 A:Around
 N:List Str
 s₀:Shared
 H₀:Hp
 env:Env
 outer:List Env
 stack:List Env
 ex:List Addr
 fn:Str->Bool
 calm:Bool
 pn:List (Addr × Obj)
 xe:Value->Shared->Prop
noncomputable def frs (l:List Env):List Addr:=l.filterMap (·.frame)
noncomputable abbrev Cx.fs (X:Cx):List Addr:=frs X.outer
def vh (sc:Scope) (x:Str):Prop:=sc.names.lookup x=some .local\/sc.names.lookup x=some .cell\/sc.names.lookup x=some .free
def Loc (sc:Scope) (x:Str):Prop:=sc.names.lookup x=some .local\/sc.names.lookup x=some .cell
def Look (env:Env) (h:Heap) (m:Str->Option Value) (x:Str) (u:Value):Prop:=
 (env.kindOf x=some .local/\m x=some u)\/((env.kindOf x=some .cell\/env.kindOf x=some .free)/\∃c,env.cells.lookup x=some c/\h.IsCell c (some u))
structure Cx.Ok (X:Cx):Prop where
 mod:Mod X.K X.mg X.base
 kind:X.env.scope.kind=.function
 glob:X.env.globals=mainGlobals
 blt:X.env.builtins=builtinsNs
 above:X.s₀.heap.objs.size<=X.env.locals
 inj:∀x y c,X.env.cells.lookup x=some c->X.env.cells.lookup y=some c->x=y
 has:∀x,(X.env.kindOf x=some .cell\/X.env.kindOf x=some .free)->∃c,X.env.cells.lookup x=some c
 cab:∀x c,X.fn x=true->X.env.cells.lookup x=some c->X.s₀.heap.objs.size<=c
 hd:X.calm=true->X.A.handled=none
 frames:X.A.frames=some X.stack
 stk:X.stack=X.outer\/(X.stack=X.env::X.outer/\X.env.frame=some X.env.locals)
 vi:∀b∈X.ex,b≠X.env.locals/\∀x c,X.env.cells.lookup x=some c->c≠b
 bs:∀b o,X.base.get? b=some o->X.s₀.heap.get? b=some o/\X.H₀ b=none
 l5:X.base.objs.size<=X.s₀.heap.objs.size
 pJ:∀b o,X.base.get? b=some o->b ∉ X.ex
 qP:∀b∈X.ex,b ∉ X.fs
 kX:X.s₀.heap.FunFrames X.base X.outer
 nL:∀b∈X.fs,X.H₀ b=none
structure Inv (X:Cx) (pins:List (Addr × Obj)) (σ:List (Option V)) (H:Hp) (s:Shared):Prop where
 ok:X.Ok
 os:s.os=X.s₀.os
 bare:AllBare s.gens
 base:Un X.fs X.ex X.H₀ H X.s₀.heap s.heap
 loc:∃m,s.heap.Ns X.env.locals m/\∀(i:Nat) (x:Str) (v:V),X.N[i]? =some x->σ[i]? =some (some v)->vh X.env.scope x->∃u,RelV v u/\Look X.env s.heap m x u
 cell:∀x c,X.env.cells.lookup x=some c->∃v,s.heap.IsCell c v
 free:H X.env.locals=none
 jY:∀x c,X.env.cells.lookup x=some c->H c=none
 pin:∀p∈X.pn++pins,s.heap.get? p.1=some p.2/\H p.1=none/\p.1≠X.env.locals/\p.1 ∉ X.fs/\∀v,p.2.data≠ .cell v
 hok:iG X.prog X.w H s.heap
 len:σ.length=X.N.length
section
variable {X:Cx}{pins:List (Addr × Obj)}{σ:List (Option V)}{H H':Hp}{s:Shared}{h':Heap}
theorem Cx.Ok.Ib (ok:X.Ok){b:Addr}{o:Obj}(e:X.base.get? b=some o):b ∉ X.fs:=λz=>by
 have:=(ok.kX.mem z).1;rw[e] at this;cases this
theorem Inv.bs (I:Inv X pins σ H s):∀b o,X.base.get? b=some o->s.heap.get? b=some o/\H b=none:=λb o e=>
 ⟨I.base.keep b o (I.ok.bs b o e).1 (I.ok.bs b o e).2 (I.ok.Ib e) (I.ok.pJ b o e),I.base.free b o (I.ok.bs b o e).1 (I.ok.bs b o e).2 (I.ok.pJ b o e)⟩
theorem Inv.bk (I:Inv X pins σ H s):∀b o,X.base.get? b=some o->s.heap.get? b=some o:=λb o e=>(I.bs b o e).1
theorem Inv.mod (I:Inv X pins σ H s):Mod X.K X.mg X.base:=I.ok.mod
theorem Inv.iQ (I:Inv X pins σ H s):X.K.In s.heap:=I.ok.mod.oH.keeps I.bk
theorem Inv.nolimit (I:Inv X pins σ H s):s.heap.NoLimit:=I.ok.mod.nolimit.keeps I.bk
theorem Inv.lt (I:Inv X pins σ H s):X.env.locals<s.heap.objs.size:=let⟨_,z,_⟩:=I.loc;z.lt
theorem Inv.sz (I:Inv X pins σ H s):X.s₀.heap.objs.size<=s.heap.objs.size:=Q0b I.ok.above (Q0k I.lt)
theorem Inv.pK (I:Inv X pins σ H s){a:Addr}(h:s.heap.objs.size<=a):a ∉ X.fs:=λz=>by
 obtain⟨_,o,J,_⟩:=I.ok.kX.mem z;exact absurd (Q0c (Q01 J) (Q0b I.sz h)) (Q0p _)
theorem Inv.l6 (I:Inv X pins σ H s):∀x c,X.env.cells.lookup x=some c->c≠X.env.locals:=λx c e z=>by
 obtain⟨v,o,U,Y⟩:=I.cell x c e;obtain⟨m,⟨o',es,ep,J,L,_⟩,_⟩:=I.loc;rw[z,J] at U;cases U;rw[L] at Y;cases Y
theorem Inv.kX (I:Inv X pins σ H s):s.heap.FunFrames X.base X.outer:=by
 have all:∀(l:List Env),(∀b∈frs l,b∈X.fs)->X.s₀.heap.FunFrames X.base l->s.heap.FunFrames X.base l:=by
  intro l
  induction l with
  |nil=>intro _ _;trivial
  |cons env r ih=>
   intro hs hl;obtain⟨hk,⟨L,o,J,hn,ho,hd⟩,hr⟩:=hl;have U:L∈X.fs:=hs L (by unfold frs;rw[Q26,J];exact Q05);obtain⟨sl,e⟩:=I.base.slot L o ho (I.ok.nL L U) U λz=>I.ok.qP L z U;exact⟨hk,⟨L,_,J,hn,e,hd⟩,ih (λb Y=>hs b (by unfold frs;rw[Q26,J];exact Q0d _ Y)) hr⟩
 exact all X.outer (λ_ Y=>Y) I.ok.kX
theorem Inv.stack (I:Inv X pins σ H s):s.heap.FunFrames X.base X.stack:=by
 rcases I.ok.stk with e|⟨e,z⟩
 . rw[e];exact I.kX
 . rw[e];obtain⟨m,J,_⟩:=I.loc;refine .cons (by rw[I.ok.kind];decide) z J ?_ I.kX;exact Q27 (Q0b I.ok.l5 I.ok.above)
theorem Inv.pL (I:Inv X pins σ H s):∀b∈frs X.stack,b∈X.env.locals::X.fs:=λb z=>by
 rcases I.ok.stk with e|⟨e,J⟩
 . rw[e] at z;exact Q0d _ z
 . rw[e] at z;unfold frs at z;rw[Q26,J] at z;exact z
theorem Inv.qQ (I:Inv X pins σ H s):∀b∈frs X.stack,H b=none:=λb J=>by
 rcases List.mem_cons.mp (I.pL b J) with e|J
 . rw[e];exact I.free
 . obtain⟨_,o,L,_⟩:=I.ok.kX.mem J;exact I.base.free b o L (I.ok.nL b J) λz=>I.ok.qP b z J
theorem Inv.step {g':Array GenState}{t':Nat}{d':Drawn}{ch:List Addr}(I:Inv X pins σ H s)
 (L:∀b∈ch,(b∈X.ex\/X.s₀.heap.objs.size<=b)/\b≠X.env.locals/\(∀x c,X.env.cells.lookup x=some c->c≠b)/\∀p∈X.pn++pins,p.1≠b)
 (keep:∀b o,b≠X.env.locals->b ∉ X.fs->b ∉ ch->s.heap.get? b=some o->H b=none->h'.get? b=some o)
 (slot:∀b o,b≠X.env.locals->b∈X.fs->b ∉ ch->s.heap.get? b=some o->H b=none->∃sl,h'.get? b=some { o with slots:=sl }) (free:∀b o,b ∉ ch->s.heap.get? b=some o->H b=none->H' b=none)
 (there:∀b o,b ∉ ch->s.heap.get? b=some o->∃o',h'.get? b=some o')
 (tups:∀b xs,H b=some (.tup xs)->H' b=some (.tup xs)) (j3:∀b o u,H b=some (.i4 o u)->H' b=some (.i4 o u)) (km:∀b ps,H b=some (.gQ ps)->∃ac,H' b=some (.gQ (ps++ac)))
 (ns:∀m,s.heap.Ns X.env.locals m->h'.Ns X.env.locals m) (ae:iG X.prog X.w H' h') (hg:AllBare g'):
 Inv X pins σ H' { s with heap:=h',gens:=g',drawn:=d',toks:=t' }:=by
 have ab:∀b o,X.s₀.heap.get? b=some o->b≠X.env.locals:=λb o e=>Q08 (Q0c (Q01 e) I.ok.above)
 have aa:∀b o,X.s₀.heap.get? b=some o->b ∉ X.ex->b ∉ ch:=λb o e J hb=>by
  rcases(L b hb).1 with z|z
  . exact J z
  . exact absurd (Q0c (Q01 e) z) (Q0p _)
 have Y:∀x c,X.env.cells.lookup x=some c->∀v,s.heap.IsCell c v->h'.IsCell c v:=λx c e v ⟨o,ho,hd⟩=>by
  have U:c ∉ ch:=λz=>(L c z).2.2.1 x c e rfl;by_cases hc:c∈X.fs
  . obtain⟨sl,q⟩:=slot c o (I.l6 x c e) hc U ho (I.jY x c e);exact⟨_,q,hd⟩
  . exact⟨o,keep c o (I.l6 x c e) hc U ho (I.jY x c e),hd⟩
 refine⟨I.ok,I.os,hg,⟨λb o e n hb J=>?_,λb o e n hb J=>?_,λb o e n J=>?_,λb o e J=>?_,λb xs e=>tups b xs (I.base.tups b xs e),λb o xs e=>j3 b o xs (I.base.j3 b o xs e),λb ps e=>?_⟩,?_,λx c e=>?_,?_,λx c e=>?_,λp hp=>?_,ae,I.len⟩
 . exact keep b o (ab b o e) hb (aa b o e J) (I.base.keep b o e n hb J) (I.base.free b o e n J)
 . obtain⟨sl,e1⟩:=I.base.slot b o e n hb J;obtain⟨af,e2⟩:=slot b _ (ab b o e) hb (aa b o e J) e1 (I.base.free b o e n J);exact⟨af,e2⟩
 . obtain⟨o',e1⟩:=I.base.there b o e J;exact free b o' (aa b o e J) e1 (I.base.free b o e n J)
 . obtain⟨o',e1⟩:=I.base.there b o e J;exact there b o' (aa b o e J) e1
 . obtain⟨m1,e1⟩:=I.base.km b ps e;obtain⟨m2,e2⟩:=km b _ e1;exact⟨m1++m2,by rw[e2,Array.append_assoc]⟩
 . obtain⟨m,hn,hl⟩:=I.loc;refine⟨m,ns m hn,λi x v e1 e2 e3=>?_⟩;obtain⟨u,r,l⟩:=hl i x v e1 e2 e3;refine⟨u,r,?_⟩;rcases l with l|⟨k,c,e,z⟩
   . exact .inl l
   . exact .inr ⟨k,c,e,Y x c e _ z⟩
 . obtain⟨v,z⟩:=I.cell x c e;exact⟨v,Y x c e v z⟩
 . obtain⟨m,⟨o,_,_,ho,_⟩,_⟩:=I.loc;exact free _ o (λz=>(L _ z).2.1 rfl) ho I.free
 . obtain⟨v,o,ho,hd⟩:=I.cell x c e;exact free c o (λz=>(L c z).2.2.1 x c e rfl) ho (I.jY x c e)
 . obtain⟨e,n,ne,nf,d⟩:=I.pin p hp;have U:p.1 ∉ ch:=λz=>(L p.1 z).2.2.2 p hp rfl;exact⟨keep p.1 p.2 ne nf U e n,free p.1 p.2 U e n,ne,nf,d⟩
theorem Inv.un {t':Nat}(I:Inv X pins σ H s)(u:Un X.fs [] H H' s.heap h')(U:iG X.prog X.w H' h'):Inv X pins σ H' { s with heap:=h',toks:=t' }:=by
 obtain⟨m,⟨o,es,ep,ho,r⟩,_⟩:=id I.loc;obtain⟨sl,hL⟩:=u.any ho I.free (by simp)
 exact I.step (g':=s.gens) (d':=s.drawn) (ch:=[]) (λ_ z=>nomatch z) (λb o _ L _ e n=>u.keep b o e n L (by simp)) (λb o _ L _ e n=>u.slot b o e n L (by simp)) (λb o _ e n=>u.free b o e n (by simp)) (λb o _ e=>u.there b o e (by simp)) u.tups u.j3 u.km (λm' hm=>by
  obtain⟨o',Y,aa,J,r'⟩:=hm;rw[ho] at J;cases J;exact⟨_,Y,aa,hL,r'⟩) U I.bare
theorem Inv.call {g':Array GenState}{t':Nat}{d':Drawn}{ch:List Addr}(I:Inv X pins σ H s)(u:Un (frs X.stack) ch H H' s.heap h')(Y:iG X.prog X.w H' h')(hg:AllBare g')
 (J:∀b∈ch,(b∈X.ex\/X.s₀.heap.objs.size<=b)/\b≠X.env.locals/\(∀x c,X.env.cells.lookup x=some c->c≠b)/\∀p∈X.pn++pins,p.1≠b):
 Inv X pins σ H' { s with heap:=h',gens:=g',drawn:=d',toks:=t' }:=by
 obtain⟨m,⟨o,es,ep,ho,r⟩,_⟩:=id I.loc;obtain⟨sl,U⟩:=u.any ho I.free λz=>(J _ z).2.1 rfl
 exact I.step (ch:=ch) J (λb o U hb hc e n=>u.keep b o e n (λz=>(List.mem_cons.mp (I.pL b z)).elim U hb) hc) (λb o _ _ hc e n=>u.any e n hc) (λb o hc e n=>u.free b o e n hc) (λb o hc e=>u.there b o e hc) u.tups u.j3 u.km (λm' hm=>by
  obtain⟨o',aa,ab,L,r'⟩:=hm;rw[ho] at L;cases L;exact⟨_,aa,ab,U,r'⟩) Y hg
theorem Inv.turned {t':Nat}{it:Addr}(I:Inv X pins σ H s)(k:∀b o,b≠it->s.heap.get? b=some o->h'.get? b=some o)(U:H it=none)(L:it≠X.env.locals)
 (h1:it∈X.ex\/X.s₀.heap.objs.size<=it) (h2:∀x c,X.env.cells.lookup x=some c->c≠it) (Y:∀p∈X.pn++pins,p.1≠it):Inv X pins σ H { s with heap:=h',toks:=t' }:=by
 have J:∀b u,H b=some u->b≠it:=λb u e z=>by rw[z,U] at e;cases e
 refine I.step (g':=s.gens) (d':=s.drawn) (ch:=[it]) (λb hb=>?_) (λb o _ _ hc e _=>k b o (λz=>hc (by simp[z])) e) (λb o _ _ hc e _=>⟨o.slots,k b o (λz=>hc (by simp[z])) e⟩) (λ_ _ _ _ n=>n)
  (λb o hc e=>⟨o,k b o (λz=>hc (by simp[z])) e⟩) (λ_ _ e=>e) (λ_ _ _ e=>e) (λb ps e=>⟨#[],by rw[e];simp⟩) (λm hm=>?_) (λb u e=>?_) I.bare
 . have e:b=it:=by simpa using hb
   subst e;exact⟨h1,L,h2,Y⟩
 . obtain⟨o,es,ep,ho,r⟩:=hm;exact⟨o,es,ep,k _ o (Ne.symm L) ho,r⟩
 . refine(I.hok b u e).stay (λc v hc q=>k c v ?_ q) (λ_ q=>q) λ_ _ q=>q;rcases hc with z|z
   . rw[z];exact J b u e
   . exact J c _ z
theorem Inv.tok (I:Inv X pins σ H s)(t:Nat):Inv X pins σ H { s with toks:=t }:=I.un (h':=s.heap) (t':=t) Un.refl I.hok
theorem Inv.kept {t':Nat}(I:Inv X pins σ H s)(k:∀b u,s.heap.get? b=some u->h'.get? b=some u):Inv X pins σ H { s with heap:=h',toks:=t' }:=I.un (Un.kept k) (I.hok.kept k)
theorem Inv.laid {a:Addr}{o:HO}{t':Nat}(I:Inv X pins σ H s)(k:∀b u,s.heap.get? b=some u->h'.get? b=some u)(hp:s.heap.objs.size<=a)(new:iN X.prog X.w (upd H a o) h' a o):
 Inv X pins σ (upd H a o) { s with heap:=h',toks:=t' }:=I.un (Un.laid k hp (I.hok.fresh hp)) (I.hok.laid k hp new)
theorem Inv.write {x e:Addr}{o:HO}{t':Nat}(I:Inv X pins σ H s)(mu:qO (H x))(J:e=x\/H e=some (.own x))(k:∀b u,b≠e->s.heap.get? b=some u->h'.get? b=some u)(z:∃u,h'.get? e=some u)
 (new:iN X.prog X.w (upd H x o) h' x o):Inv X pins σ (upd H x o) { s with heap:=h',toks:=t' }:=I.un (Un.write mu J k z) (I.hok.write mu J k z new)
theorem Inv.weak {z:List (Option V)}(I:Inv X pins σ H s)(hl:z.length=σ.length)(w:∀(i:Nat) v,z[i]? =some (some v)->σ[i]? =some (some v)):Inv X pins z H s:=
 ⟨I.ok,I.os,I.bare,I.base,let⟨m,L,J⟩:=I.loc;⟨m,L,λi x v U Y e3=>J i x v U (w i v Y) e3⟩,I.cell,I.free,I.jY,I.pin,I.hok,hl.trans I.len⟩
theorem Inv.oJ {J:List (Addr × Obj)}(I:Inv X pins σ H s)(h:∀p∈J,s.heap.get? p.1=some p.2/\H p.1=none/\p.1≠X.env.locals/\p.1 ∉ X.fs/\∀v,p.2.data≠ .cell v):Inv X J σ H s:=
 ⟨I.ok,I.os,I.bare,I.base,I.loc,I.cell,I.free,I.jY,λp hp=>(List.mem_append.mp hp).elim (λz=>I.pin p (Q0t _ z)) (h p),I.hok,I.len⟩
theorem vj {N:List Str}(z:N.Nodup){i j:Nat}{x:Str}(a:N[i]? =some x)(b:N[j]? =some x):i=j:=by
 obtain⟨h1,J⟩:=List.getElem?_eq_some_iff.mp a;obtain⟨h2,L⟩:=List.getElem?_eq_some_iff.mp b;exact(Q28 z).mp (J.trans L.symm)
theorem Ic {M:Model}{A:Around}{E:Value->Shared->Prop}{i:Nat}{x:Str}{v:V}{u:Value}{Q:Unit->Shared->Prop}(I:Inv X pins σ H s)(hN:X.N.Nodup)(hi:X.N[i]? =some x)(Y:Loc X.env.scope x)(r:RelV v u)
 (h:∀s',Inv X pins (σ.set i (some v)) H s'->(∃a,Heap.SameBut a s.heap s'.heap/\(a=X.env.locals\/X.env.cells.lookup x=some a))->Q () s') (hf:X.fn x=true\/X.env.scope.names.lookup x=some .local:=by first|exact .inl rfl|exact .inr rfl|assumption):wpAny M A (storeName X.env x u) Q E s:=by
 obtain⟨m,hn,hl⟩:=id I.loc;have ah:(X.env.scope.kind == .class || (X.env.scope.kind == .module && X.env.locals != X.env.globals))=false:=by rw[I.ok.kind];rfl
 have ab:i<σ.length:=by rw[I.len];exact(List.getElem?_eq_some_iff.mp hi).1
 have l6:=I.l6
 have U:∀{a:Addr} {h':Heap},(∃o,s.heap.get? a=some o/\H a=none)->Heap.SameBut a s.heap h'->iG X.prog X.w H h':=λ{a h'} ha J b ob e=>by
  obtain⟨_,_,aa⟩:=ha;refine(I.hok b ob e).stay (λc w' hc q=>(J.2 c ?_).trans q) (λ_ q=>q) λ_ _ q=>q;rintro rfl;rcases hc with rfl|hc
  . rw[aa] at e;cases e
  . rw[aa] at hc;cases hc
 rcases Y with hk|hk
 . refine wpAny_storeName_local hk hn (λh' aj J=>?_) ah;obtain⟨oL,_,_,ak,_⟩:=id hn;refine h _ ⟨I.ok,I.os,I.bare,⟨λb o e n hb Y=>?_,λb o e n hb Y=>?_,I.base.free,λb o e Y=>?_,I.base.tups,I.base.j3,I.base.km⟩,⟨_,aj,λj y v' L e2 e3=>?_⟩,λy c e=>?_,I.free,I.jY,λp hp=>?_,U ⟨oL,ak,I.free⟩ J,by simpa using I.len⟩ ⟨_,J,.inl rfl⟩
   . exact(J.2 b (Q08 (Q0c (Q01 e) I.ok.above))).trans (I.base.keep b o e n hb Y)
   . obtain⟨sl,L⟩:=I.base.slot b o e n hb Y;exact⟨sl,(J.2 b (Q08 (Q0c (Q01 e) I.ok.above))).trans L⟩
   . obtain⟨o',L⟩:=I.base.there b o e Y;exact⟨o',(J.2 b (Q08 (Q0c (Q01 e) I.ok.above))).trans L⟩
   . by_cases hj:j=i
     . subst hj;rw[hi] at L;cases L;rw[Q29 ab] at e2
       cases e2;exact⟨u,r,.inl ⟨hk,by simp⟩⟩
     . rw[Q2a (Ne.symm hj)] at e2;obtain⟨u',r',q⟩:=hl j y v' L e2 e3;refine⟨u',r',?_⟩;rcases q with⟨k,e⟩|⟨k,c,e,z⟩
       . refine .inl ⟨k,?_⟩;have:y≠x:=λe=>hj (vj hN L (e ▸ hi));simp[this,e]
       . exact .inr ⟨k,c,e,z.sameBut J (l6 y c e)⟩
   . obtain⟨w',z⟩:=I.cell y c e;exact⟨w',z.sameBut J (l6 y c e)⟩
   . obtain⟨e,n,ne,nf,d⟩:=I.pin p hp;exact⟨(J.2 p.1 ne).trans e,n,ne,nf,d⟩
 . have ac:X.fn x=true:=by
    rcases hf with z|z
    . exact z
    . rw[z] at hk;cases hk
   obtain⟨c,hc⟩:=I.ok.has x (.inl hk);obtain⟨w',z⟩:=I.cell x c hc;refine wpAny_storeName_cell I.ok.kind hk hc z (λh' ae J=>?_);obtain⟨oc,af,ai⟩:=id z;refine h { s with heap:=h' } ⟨I.ok,I.os,I.bare,⟨λb o e n hb Y=>?_,λb o e n hb Y=>?_,I.base.free,λb o e Y=>?_,I.base.tups,I.base.j3,I.base.km⟩,⟨m,hn.sameBut J (Ne.symm (l6 x c hc)),λj y v' L e2 e3=>?_⟩,λy c' e=>?_,I.free,I.jY,λp hp=>?_,U ⟨oc,af,I.jY x c hc⟩ J,by simpa using I.len⟩ ⟨c,J,.inr hc⟩
   . exact(J.2 b (Q08 (Q0c (Q01 e) (I.ok.cab x c ac hc)))).trans (I.base.keep b o e n hb Y)
   . obtain⟨sl,L⟩:=I.base.slot b o e n hb Y;exact⟨sl,(J.2 b (Q08 (Q0c (Q01 e) (I.ok.cab x c ac hc)))).trans L⟩
   . obtain⟨o',L⟩:=I.base.there b o e Y;exact⟨o',(J.2 b (Q08 (Q0c (Q01 e) (I.ok.cab x c ac hc)))).trans L⟩
   . by_cases hj:j=i
     . subst hj;rw[hi] at L;cases L;rw[Q29 ab] at e2
       cases e2;exact⟨u,r,.inr ⟨.inl hk,c,hc,ae⟩⟩
     . rw[Q2a (Ne.symm hj)] at e2;obtain⟨u',r',q⟩:=hl j y v' L e2 e3;refine⟨u',r',?_⟩;rcases q with q|⟨k,c',e,z'⟩
       . exact .inl q
       . refine .inr ⟨k,c',e,z'.sameBut J ?_⟩;rintro rfl;exact hj (vj hN L (I.ok.inj _ _ _ e hc ▸ hi))
   . by_cases ag:c'=c
     . subst ag;exact⟨_,ae⟩
     . obtain⟨w2,z2⟩:=I.cell y c' e;exact⟨w2,z2.sameBut J ag⟩
   . obtain⟨e,n,ne,nf,d⟩:=I.pin p hp;refine⟨(J.2 p.1 ?_).trans e,n,ne,nf,d⟩;intro q;rw[q,af] at e;have q':oc=p.2:=Option.some.inj e;exact d w' (by rw[<-q'];exact ai)
theorem qR {M:Model}{A:Around}{E:Value->Shared->Prop}{i:Nat}{x:Str}{v:V}{u:Value}{Q:Unit->Shared->Prop}(I:Inv X pins σ H s)(z:X.N.Nodup)(hi:X.N[i]? =some x)(J:Loc X.env.scope x)(r:RelV v u)
 (h:∀s',Inv X pins (σ.set i (some v)) H s'->Q () s') (L:X.fn x=true\/X.env.scope.names.lookup x=some .local:=by first|exact .inl rfl|exact .inr rfl|assumption):wpAny M A (storeName X.env x u) Q E s:=
 Ic I z hi J r (λs' U _=>h s' U) L
theorem Inv.call' {s':Shared}{ch:List Addr}(I:Inv X pins σ H s)(L:s'.os=s.os)(u:Un (frs X.stack) ch H H' s.heap s'.heap)(z:iG X.prog X.w H' s'.heap)(U:AllBare s'.gens)
 (J:∀b∈ch,(b∈X.ex\/X.s₀.heap.objs.size<=b)/\b≠X.env.locals/\(∀x c,X.env.cells.lookup x=some c->c≠b)/\∀p∈X.pn++pins,p.1≠b):Inv X pins σ H' s':=by
 obtain⟨h',g',d',t',o'⟩:=s';have e:o'=s.os:=L;subst e;exact I.call (g':=g') (t':=t') (d':=d') u z U J
end
noncomputable abbrev XK:=Value->Option Addr->Hp->Prop
noncomputable abbrev St:=List (Option V)
noncomputable abbrev VK:=V->Hp->Prop
noncomputable abbrev TE:=St->Hp->VK->Prop
noncomputable abbrev TT:=St->Hp->(Bool->Hp->Prop)->Prop
noncomputable abbrev TA:=St->Hp->(List V->Hp->Prop)->Prop
structure Ends where
 nx:St->Hp->Prop
 rt:VK
 bk:St->Hp->Prop:=λ_ _=>False
 ct:St->Hp->Prop:=λ_ _=>False
noncomputable abbrev TS:=Ends->St->Hp->Prop
def EP (X:Cx) (pins:List (Addr × Obj)) (σ:St) (Q:VK) (u:Value) (s':Shared):Prop:=∃v H',Inv X pins σ H' s'/\RelV v u/\Q v H'
def TP (X:Cx) (pins:List (Addr × Obj)) (σ:St) (Q:Bool->Hp->Prop) (b:Bool) (s':Shared):Prop:=∃H',Inv X pins σ H' s'/\Q b H'
def AP (X:Cx) (pins:List (Addr × Obj)) (σ:St) (Q:List V->Hp->Prop) (us:List Value) (s':Shared):Prop:=∃vs H',Inv X pins σ H' s'/\Vals vs us/\Q vs H'
def SP (X:Cx) (pins:List (Addr × Obj)) (D:Ends) (f:Flow) (s':Shared):Prop:=
 match f with
 | .next=>∃z H',Inv X pins z H' s'/\D.nx z H'
 | .brk=>∃z H',Inv X pins z H' s'/\D.bk z H'
 | .cont=>∃z H',Inv X pins z H' s'/\D.ct z H'
 | .ret u=>∃v z H',Inv X pins z H' s'/\RelV v u/\D.rt v H'
def PE (X:Cx) (e:Expr) (t:TE):Prop:=
 ∀(pins:List (Addr × Obj)) (s:Shared) (σ:St) (H:Hp) (Q:VK),Inv X pins σ H s->t σ H Q->wpAny (model X.prog X.w) X.A (eval e X.env) (EP X pins σ Q) X.xe s
def PT (X:Cx) (e:Expr) (t:TT):Prop:=
 ∀(pins:List (Addr × Obj)) (s:Shared) (σ:St) (H:Hp) (Q:Bool->Hp->Prop),Inv X pins σ H s->t σ H Q->wpAny (model X.prog X.w) X.A (isTrue e X.env (eval e X.env)) (TP X pins σ Q) X.xe s
def PW (X:Cx) (e:Expr) (t:TT):Prop:=
 ∀(z:Sem Value) (pins:List (Addr × Obj)) (s:Shared) (σ:St) (H:Hp) (Q:Bool->Hp->Prop),Inv X pins σ H s->t σ H Q->wpAny (model X.prog X.w) X.A (isTrue e X.env z) (TP X pins σ Q) X.xe s
theorem PW.pt {X:Cx}{e:Expr}{t:TT}(h:PW X e t):PT X e t:=h _
def PA (X:Cx) (es:List Expr) (t:TA):Prop:=
 ∀(pos:Pos) (pins:List (Addr × Obj)) (s:Shared) (σ:St) (H:Hp) (Q:List V->Hp->Prop),Inv X pins σ H s->t σ H Q->wpAny (model X.prog X.w) X.A (spliced (backTo pos (starEach es X.env))) (AP X pins σ Q) X.xe s
def PS (X:Cx) (st:Stmt) (t:TS):Prop:=
 ∀(pins:List (Addr × Obj)) (s:Shared) (σ:St) (H:Hp) (D:Ends),Inv X pins σ H s->t D σ H->wpAny (model X.prog X.w) X.A (exec st X.env) (SP X pins D) X.xe s
def j4 (X:Cx) (st:List Stmt) (t:TS):Prop:=
 ∀(pins:List (Addr × Obj)) (s:Shared) (σ:St) (H:Hp) (D:Ends),Inv X pins σ H s->t D σ H->wpAny (model X.prog X.w) X.A (execs st X.env) (SP X pins D) X.xe s
theorem gy {α:Type}{t:Sem α}{Q z:α->Shared->Prop}{M:Model}{A:Around}{E:Value->Shared->Prop}{s:Shared}(h:wpAny M A t Q E s)(J:∀a s,Q a s->z a s):wpAny M A t z E s:=Q0l h J λ_ _ x=>x
section
variable {X:Cx}
def gR (i:Nat):TE:=λσ H Q=>∃v,σ[i]? =some (some v)/\Q v H
def tC (v:V):TE:=λ_ H Q=>Q v H
theorem Ie {i:Nat}{x:Str}{pos:Pos}(U:X.N[i]? =some x)(Y:vh X.env.scope x)(J:(x == ("__debug__":Str))=false:=by decide)(L:(x == ("__classdict__":Str))=false:=by decide):PE X (.Name x pos) (gR i):=by
 intro pins s σ H Q I h;obtain⟨v,e,h⟩:=h;obtain⟨m,hn,hl⟩:=I.loc;obtain⟨u,r,l⟩:=hl i x v U e Y;have fin:EP X pins σ Q u s:=⟨v,H,I,r,h⟩;rcases l with⟨hk,hm⟩|⟨hk,c,hc,z⟩
 . exact wpAny_Name (wpAny_loadName_local I.ok.kind hk hn hm fin) J
 . rcases hk with hk|hk
   . exact wpAny_Name (wpAny_loadName_cell I.ok.kind hk hc z fin) J
   . exact wpAny_Name (wpAny_loadName_free I.ok.kind hk hc z fin L) J
theorem d_ {i j pos}:PE X (.Constant (.int i) j pos) (tC (.int i)):=λ_ _ _ H _ I h=>wpAny_Constant_int ⟨.int i,H,I.tok _,⟨_,rfl⟩,h⟩
theorem iH {b j pos}:PE X (.Constant (.bool b) j pos) (tC (.bl b)):=λ_ _ _ H _ I h=>Constant_bool ⟨.bl b,H,I,rfl,h⟩
theorem iB {j pos}:PE X (.Constant .none j pos) (tC .non):=λ_ _ _ H _ I h=>Constant_none ⟨.non,H,I,rfl,h⟩
theorem gH {x j pos}:PE X (.Constant (.str x) j pos) (tC (.str x)):=λ_ _ _ H _ I h=>Calls.Constant_str ⟨.str x,H,I.tok _,⟨_,rfl⟩,h⟩
def Gl (X:Cx) (x:Str):Prop:=X.env.kindOf x=some .globalImplicit
theorem sS {E:Value->Shared->Prop}{pins:List (Addr × Obj)}{s:Shared}{σ:St}{H:Hp}{x:Str}{u:Value}{pos:Pos}{Q:Value->Shared->Prop}(I:Inv X pins σ H s)(z:Gl X x)(J:X.mg x=some u)(h:Q u s)
 (L:(x == ("__debug__":Str))=false:=by decide):wpAny (model X.prog X.w) X.A (eval (.Name x pos) X.env) Q E s:=
 Calls.Name_function_global I.ok.kind z (Calls.loadGlobal_global (by rw[I.ok.glob];exact I.mod.glob.keeps I.bk) J h) L
theorem mB {E:Value->Shared->Prop}{pins:List (Addr × Obj)}{s:Shared}{σ:St}{H:Hp}{x:Str}{u:Value}{pos:Pos}{Q:Value->Shared->Prop}(I:Inv X pins σ H s)(z:Gl X x)(J:X.mg x=none)(L:bootBuiltins x=some u)(h:Q u s)
 (U:x≠"__name__":=by decide) (Y:(x == ("__debug__":Str))=false:=by decide):wpAny (model X.prog X.w) X.A (eval (.Name x pos) X.env) Q E s:=by
 obtain⟨mb,h1,h2⟩:=I.mod.blt;exact Calls.Name_function_global I.ok.kind z (Calls.loadGlobal_builtin (by rw[I.ok.glob];exact I.mod.glob.keeps I.bk) J (by rw[I.ok.blt];exact h1.keeps I.bk) ((h2 x U).trans L) h) Y
theorem iu {x:Str}{v:V}{u:Value}{pos:Pos}(z:Gl X x)(J:X.mg x=none)(L:bootBuiltins x=some u)(r:RelV v u)(U:x≠"__name__":=by decide)(Y:(x == ("__debug__":Str))=false:=by decide):PE X (.Name x pos) (tC v):=
 λ_ _ _ H _ I h=>mB I z J L ⟨v,H,I,r,h⟩ U Y
variable {a b:Expr}{ta tb:TE}{pos:Pos}
def PC (X:Cx) (op:CmpOp) (a b:Expr) (t:TE):Prop:=
 ∀(pins:List (Addr × Obj)) (s:Shared) (σ:St) (H:Hp) (Q:VK),Inv X pins σ H s->t σ H Q->
  wpAny (model X.prog X.w) X.A (eval a X.env) (λv z=>wpAny (model X.prog X.w) X.A (eval b X.env) (λu J=>wpAny (model X.prog X.w) X.A (compareOp op v u) (EP X pins σ Q) X.xe J) X.xe z) X.xe s
def tB (t:TE):TT:=λσ H Q=>t σ H λx H1=>∃c,x=.bl c/\Q c H1
theorem Ig {op:CmpOp}{t:TE}(h:PC X op a b t)(h1:behindInMarks op b=false:=by first|exact z _ (by decide) (by decide)|rfl):PE X (.Compare a [op] [b] pos) t:=λpins s σ H Q I hw=>wpAny_Compare1 (h pins s σ H Q I hw) h1
theorem qS {op:CmpOp}{t:TE}(h:PC X op a b t)(h1:behindInMarks op b=false:=by first|exact z _ (by decide) (by decide)|rfl):PT X (.Compare a [op] [b] pos) (tB t):=by
 intro pins s σ H Q I hw;refine wpAny_isTrue_Compare1 (gy (h pins s σ H _ I hw) λv Y h1=>gy h1 λu s2 h2=>gy h2 λc s3 zq=>?_) h1;obtain⟨x,H1,J,L,U⟩:=zq;obtain⟨d,rfl,q⟩:=U
 cases L;exact wpAny_truthy_bool ⟨H1,J,q⟩
theorem gZ {e:Expr}{t:TE}(h:PE X e t)(J:∀z,isTrue e X.env z=(do let v <-z;standAt e.pos;holding [v] (truthy v)):=by intro _;rfl):PT X e (tB t):=by
 intro pins s σ H Q I hw;refine isTrue_plain (gy (h pins s σ H _ I hw) λv s1 zq=>?_) (J _);obtain⟨x,H1,L,U,Y⟩:=zq;obtain⟨d,rfl,q⟩:=Y
 cases U;exact wpAny_truthy_bool ⟨H1,L,q⟩
variable {tA sT:TT}{rest:List Expr}
def Ih (t u:TT):TT:=λσ H Q=>t σ H λc H1=>if c=true then u σ H1 Q else Q false H1
def Ii (t u:TT):TT:=λσ H Q=>t σ H λc H1=>if c=true then Q true H1 else u σ H1 Q
def Ij (t:TT):TT:=λσ H Q=>t σ H λc H1=>Q (!c) H1
theorem oK (z:PT X a tA):PW X (.BoolOp .And [a] pos) tA:=by
 intro J pins s σ H Q I h;refine isTrue_and (gy (z pins s σ H Q I h) λc L e=>?_)
 cases c with
 |true=>exact isTrue_and_nil e
 |false=>exact e
theorem i5 (z:PT X a tA):PW X (.BoolOp .Or [a] pos) tA:=by
 intro J pins s σ H Q I h;refine isTrue_or (gy (z pins s σ H Q I h) λc L e=>?_)
 cases c with
 |false=>exact isTrue_or_nil e
 |true=>exact e
theorem oM (L:PT X a tA)(U:PW X (.BoolOp .And (b::rest) pos) sT):PW X (.BoolOp .And (a::b::rest) pos) (Ih tA sT):=by
 intro Y pins s σ H Q I h;refine isTrue_and (gy (L pins s σ H _ I h) λc s1 ⟨H1,z,J⟩=>?_)
 cases c with
 |true=>exact U Y pins s1 σ H1 Q z J
 |false=>exact⟨H1,z,J⟩
theorem iX (L:PT X a tA)(U:PW X (.BoolOp .Or (b::rest) pos) sT):PW X (.BoolOp .Or (a::b::rest) pos) (Ii tA sT):=by
 intro Y pins s σ H Q I h;refine isTrue_or (gy (L pins s σ H _ I h) λc s1 ⟨H1,z,J⟩=>?_)
 cases c with
 |true=>exact⟨H1,z,J⟩
 |false=>exact U Y pins s1 σ H1 Q z J
theorem ia (z:PT X a tA):PT X (.UnaryOp .Not a pos) (Ij tA):=by
 intro pins s σ H Q I h;exact isTrue_not (z pins s σ H (λc H1=>Q (!c) H1) I h)
def Ik (ta tb:TE):TE:=λσ H Q=>ta σ H λx H1=>∃c,x=.bl c/\if c=true then tb σ H1 Q else Q (.bl false) H1
def Il (ta:TE):TE:=λσ H Q=>ta σ H λx H1=>∃c,x=.bl c/\Q (.bl (!c)) H1
theorem lD {op}{t:TE}(h:PE X a t):PE X (.BoolOp op [a] pos) t:=λpins s σ H Q I hw=>BoolOp_one (h pins s σ H Q I hw)
theorem kH (L:PE X a ta)(U:PE X (.BoolOp .And (b::rest) pos) tb):PE X (.BoolOp .And (a::b::rest) pos) (Ik ta tb):=by
 intro pins s σ H Q I h;refine BoolOp_and (gy (L pins s σ H _ I h) λv Y zq=>?_);obtain⟨x,H1,J,r1,z⟩:=zq;obtain⟨c,rfl,z⟩:=z
 cases r1;refine wpAny_truthy_bool ?_
 cases c with
 |true=>exact U pins Y σ H1 Q J z
 |false=>exact⟨.bl false,H1,J,rfl,z⟩
theorem Cn (J:PE X a ta):PE X (.UnaryOp .Not a pos) (Il ta):=by
 intro pins s σ H Q I h;refine UnaryOp_ (gy (J pins s σ H _ I h) λv Y zq=>?_);obtain⟨x,H1,L,U,z⟩:=zq;obtain⟨c,rfl,z⟩:=z
 cases U;exact not_of (wpAny_truthy_bool ⟨.bl (!c),H1,L,rfl,z⟩)
def Im (t:TT) (ta tb:TE):TE:=λσ H Q=>t σ H λc H1=>if c=true then ta σ H1 Q else tb σ H1 Q
theorem oN {c:Expr}(hc:PT X c tA)(U:PE X a ta)(Y:PE X b tb):PE X (.IfExp c a b pos) (Im tA ta tb):=by
 intro pins s σ H Q I h;refine wpAny_IfExp (gy (hc pins s σ H _ I h) λd z ⟨H1,J,L⟩=>?_)
 cases d with
 |true=>exact U pins z σ H1 Q J L
 |false=>exact Y pins z σ H1 Q J L
end
def fY (K:W.Frag) (H:Hp) (a:Addr) (xs:List V):Prop:=
 Rd H a (.lst xs)\/
  ∃(o:Obj) (z:Array Value) (n:Nat),K.lookup a=some o/\o.cls=.type "list"/\o.dict=none/\o.data=.seq z n/\z.size<=sizeLine/\Vals xs z.toList
def fU (K:W.Frag) (H:Hp) (a:Addr) (xs:List V):Prop:=
 Rd H a (.tup xs)\/
  ∃(o:Obj) (z:Array Value) (n:Nat),K.lookup a=some o/\o.cls=.type "tuple"/\o.data=.seq z n/\z.size<=sizeLine/\Vals xs z.toList
noncomputable def Io:Value->Option V
 | .none=>some .non
 | .bool b=>some (.bl b)
 | .int i _=>some (.int i)
 | .str x _=>some (.str x)
 | .bytes b _=>some (.lB b)
 | .float b _=>some (.flt b)
 | .ref a=>some (.ref a)
 | .type n=>some (.ty n)
 |_=>none
theorem RelV.abs {x:V}{u:Value}(r:RelV x u):Io u=some x:=by
 cases x with
 |non=>cases r;rfl
 |bl _=>cases r;rfl
 |int _=>obtain⟨t,rfl⟩:=r;rfl
 |str _=>obtain⟨t,rfl⟩:=r;rfl
 |lB _=>obtain⟨t,rfl⟩:=r;rfl
 |flt _=>obtain⟨t,rfl⟩:=r;rfl
 |ref _=>cases r;rfl
 |ty _=>cases r;rfl
theorem RelV.inj {x y:V}{u:Value}(r:RelV x u)(q:RelV y u):x=y:=Option.some.inj (r.abs.symm.trans q.abs)
theorem Vals.inj:∀{xs ys:List V}{us:List Value},Vals xs us->Vals ys us->xs=ys
 |_,_,_,.nil,.nil=>rfl
 |_,_,_,.cons r t,.cons z t'=>by rw[r.inj z,Vals.inj t t']
section
variable {X:Cx}{pins:List (Addr × Obj)}{σ:St}{H:Hp}{s:Shared}{a:Addr}{xs ys:List V}
theorem fY.of {K:W.Frag}(h:H a=some (.lst xs)):fY K H a xs:=.inl (.inl h)
theorem fU.of {K:W.Frag}(h:H a=some (.tup xs)):fU K H a xs:=.inl (.inl h)
theorem Inv.list (I:Inv X pins σ H s)(h:fY X.K H a xs):∃J:List Value,Vals xs J/\PlainL s.heap a J.toArray/\xs.length<=sizeLine:=by
 rcases h with h|⟨o,J,n,hk,hc,L,U,Y,r⟩
 . obtain⟨z,J,n,r,e⟩:=h.ok I.hok;exact⟨J,r,⟨_,n,e,rfl,rfl,rfl⟩,z⟩
 . refine⟨J.toList,r,⟨o,n,I.iQ a o hk,hc,L,by simpa using U⟩,?_⟩;have e:=r.length;simp only[Q1c] at e;omega
theorem Inv.tuple (I:Inv X pins σ H s)(h:fU X.K H a xs):∃J:List Value,Vals xs J/\IsTup s.heap a J.toArray/\xs.length<=sizeLine:=by
 rcases h with h|⟨o,J,n,hk,hc,L,U,r⟩
 . obtain⟨z,J,r,p⟩:=h.ok I.hok;exact⟨J,r,p,z⟩
 . refine⟨J.toList,r,⟨o,I.iQ a o hk,hc,n,by simpa using L⟩,?_⟩;have e:=r.length;simp only[Q1c] at e;omega
theorem Inv.sU (I:Inv X pins σ H s)(h:fY X.K H a xs)(h':fY X.K H a ys):xs=ys:=by
 obtain⟨z,r,⟨o,n,e,_,_,d⟩,_⟩:=I.list h;obtain⟨its',L,⟨o',Y,J,_,_,d'⟩,_⟩:=I.list h';rw[e] at J;cases J;rw[d] at d';injection d' with U _
 have:z=its':=by simpa using congrArg Array.toList U
 subst this;exact r.inj L
theorem Inv.Iq (I:Inv X pins σ H s)(h:fU X.K H a xs)(h':fU X.K H a ys):xs=ys:=by
 obtain⟨z,r,⟨o,e,_,n,d⟩,_⟩:=I.tuple h;obtain⟨its',L,⟨o',J,_,Y,d'⟩,_⟩:=I.tuple h';rw[e] at J;cases J;rw[d] at d';injection d' with U _
 have:z=its':=by simpa using congrArg Array.toList U
 subst this;exact r.inj L
end
noncomputable abbrev Cx.wish (X:Cx) (E:Value->Shared->Prop):Cx:={ X with xe:=E }
noncomputable abbrev Cx.gE (X:Cx):Cx:=X.wish λ_ _=>False
theorem Cx.Ok.wish {X:Cx}(ok:X.Ok)(E:Value->Shared->Prop):(X.wish E).Ok:=
 ⟨ok.mod,ok.kind,ok.glob,ok.blt,ok.above,ok.inj,ok.has,ok.cab,ok.hd,ok.frames,ok.stk,ok.vi,ok.bs,ok.l5,ok.pJ,ok.qP,ok.kX,ok.nL⟩
theorem Cx.Ok.lE {X:Cx}{E:Value->Shared->Prop}(ok:(X.wish E).Ok):X.Ok:=
 ⟨ok.mod,ok.kind,ok.glob,ok.blt,ok.above,ok.inj,ok.has,ok.cab,ok.hd,ok.frames,ok.stk,ok.vi,ok.bs,ok.l5,ok.pJ,ok.qP,ok.kX,ok.nL⟩
section
variable {X:Cx}{pins:List (Addr × Obj)}{σ:St}{H:Hp}{s:Shared}{E:Value->Shared->Prop}
theorem Inv.wish (I:Inv X pins σ H s)(E:Value->Shared->Prop):Inv (X.wish E) pins σ H s:=⟨I.ok.wish E,I.os,I.bare,I.base,I.loc,I.cell,I.free,I.jY,I.pin,I.hok,I.len⟩
theorem Inv.lE (I:Inv (X.wish E) pins σ H s):Inv X pins σ H s:=⟨I.ok.lE,I.os,I.bare,I.base,I.loc,I.cell,I.free,I.jY,I.pin,I.hok,I.len⟩
theorem SP.lE {D:Ends}{f:Flow}{s':Shared}(h:SP (X.wish E) pins D f s'):SP X pins D f s':=by
 cases f with
 |next=>obtain⟨z,H',I,q⟩:=h;exact⟨z,H',I.lE,q⟩
 |brk=>obtain⟨z,H',I,q⟩:=h;exact⟨z,H',I.lE,q⟩
 |cont=>obtain⟨z,H',I,q⟩:=h;exact⟨z,H',I.lE,q⟩
 |ret u=>obtain⟨v,z,H',I,r,q⟩:=h;exact⟨v,z,H',I.lE,r,q⟩
theorem j4.gE {st:List Stmt}{t:TS}(h:j4 X.gE st t):j4 X st t:=λpins s σ H D I hw=>
 Q0l (h pins s σ H D (I.wish _) hw) (λ_ _ q=>q.lE) λ_ _ z=>False.elim z
end
section
variable {X:Cx}{st:Stmt}{rest:List Stmt}{t u:TS}{e:Expr}{te:TE}{pos:Pos}
def Ir:TS:=λD σ H=>D.nx σ H
def Co (t u:TS):TS:=λD σ H=>t { D with nx:=u D } σ H
theorem gu:j4 X [] Ir:=λ_ _ σ H _ I h=>wpAny_execs_nil ⟨σ,H,I,h⟩
theorem fT (h1:PS X st t)(h2:j4 X rest u):j4 X (st::rest) (Co t u):=by
 intro pins s σ H D I h;refine wpAny_execs_cons (gy (h1 pins s σ H { D with nx:=u D } I h) λf J q=>?_)
 cases f with
 |next=>
  obtain⟨z,H',L,q⟩:=q;exact h2 pins J z H' D L q
 |ret v=>exact q
 |brk=>exact q
 |cont=>exact q
theorem fX (h1:PS X st t):j4 X [st] t:=by
 intro pins s σ H D I h;refine wpAny_execs_cons (gy (h1 pins s σ H D I h) λf z q=>?_)
 cases f with
 |next=>exact wpAny_execs_nil q
 |ret v=>exact q
 |brk=>exact q
 |cont=>exact q
theorem Inv.quiet {pins:List (Addr × Obj)}{σ:St}{H:Hp}{s:Shared}(I:Inv X pins σ H s):interactive X.env=false:=by simp[interactive,I.ok.kind]
def Iu (te:TE):TS:=λD σ H=>te σ H λ_ H1=>D.nx σ H1
theorem kY (z:PE X e te)(J:swapsWith e none pos.line X.env=pure false:=by rfl):PS X (.Expr e pos) (Iu te):=by
 intro pins s σ H D I h;exact wpAny_Expr_any (gy (z pins s σ H _ I h) λv Y ⟨x,H1,L,r1,U⟩=>⟨σ,H1,L,U⟩) I.quiet J
def Iv (te:TE):TS:=λD σ H=>te σ H D.rt
theorem f6 (z:PE X e te):PS X (.Return (some e) pos) (Iv te):=by
 intro pins s σ H D I h;exact wpAny_Return_some (gy (z pins s σ H _ I h) λv Y ⟨x,H1,J,L,U⟩=>⟨x,σ,H1,J,L,U⟩)
def pM (c:TT) (t u:TS):TS:=λD σ H=>c σ H λb H1=>if b=true then t D σ H1 else u D σ H1
theorem gp {c:Expr}{a b:List Stmt}{tc:TT}(hc:PT X c tc)(U:j4 X a t)(Y:j4 X b u):PS X (.If c a b pos) (pM tc t u):=by
 intro pins s σ H D I h;refine wpAny_If (gy (hc pins s σ H _ I h) λd z ⟨H1,J,L⟩=>?_)
 cases d with
 |true=>exact U pins z σ H1 D J L
 |false=>exact Y pins z σ H1 D J L
def Cp:TS:=λ_ _ _=>False
theorem qT:PS X st Cp:=λ_ _ _ _ _ _ h=>h.elim
theorem Iw {z:List Stmt}:j4 X z Cp:=λ_ _ _ _ _ _ h=>h.elim
end
noncomputable abbrev TG:=V->St->Hp->(St->Hp->Prop)->Prop
noncomputable abbrev oO:=List V->St->Hp->(St->Hp->Prop)->Prop
def PG (X:Cx) (z:Expr) (t:TG):Prop:=
 ∀(pins:List (Addr × Obj)) (s:Shared) (σ:St) (H:Hp) (v:V) (u:Value) (Q:St->Hp->Prop),Inv X pins σ H s->RelV v u->t v σ H Q->
  wpAny (model X.prog X.w) X.A (assign z X.env u) (λ_ s'=>∃J H',Inv X pins J H' s'/\Q J H') X.xe s
def sV (X:Cx) (J:List Expr) (t:oO):Prop:=
 ∀(pins:List (Addr × Obj)) (s:Shared) (σ:St) (H:Hp) (vs:List V) (us:List Value) (Q:St->Hp->Prop),Inv X pins σ H s->Vals vs us->t vs σ H Q->
  wpAny (model X.prog X.w) X.A (assignInOrder ((assignEach J X.env).map (·.2)) us) (λ_ s'=>∃z H',Inv X pins z H' s'/\Q z H') X.xe s
noncomputable abbrev vk:=V->V->V->Hp->(Hp->Prop)->Prop
def Cq (X:Cx) (t:vk):Prop:=
 ∀(pins:List (Addr × Obj)) (s:Shared) (σ:St) (H:Hp) (o i v:V) (z J u:Value) (Q:Hp->Prop),Inv X pins σ H s->RelV o z->RelV i J->RelV v u->t o i v H Q->
  wpAny (model X.prog X.w) X.A (setItem z J u) (λ_ s'=>∃H',Inv X pins σ H' s'/\Q H') X.xe s
section
variable {X:Cx}{pos:Pos}
def iY (i:Nat):TG:=λv σ H Q=>Q (σ.set i (some v)) H
theorem gK {i:Nat}{x:Str}(z:X.N.Nodup)(hi:X.N[i]? =some x)(J:Loc X.env.scope x)(L:X.fn x=true\/X.env.scope.names.lookup x=some .local:=by first|exact .inl rfl|exact .inr rfl|assumption):PG X (.Name x pos) (iY i):=by
 intro pins s σ H v u Q I r h;exact wpAny_assign_Name (qR I z hi J r (λs' U=>⟨_,H,U,h⟩) L)
def oP:oO:=λvs σ H Q=>vs=[]/\Q σ H
def kZ (t:TG) (u:oO):oO:=λvs σ H Q=>∃v r,vs=v::r/\t v σ H λz H'=>u r z H' Q
theorem jD:sV X [] oP:=by
 intro pins s σ H vs us Q I r h;obtain⟨e,h⟩:=h;subst e
 cases r;exact assignInOrder_nil ⟨σ,H,I,h⟩
theorem ic {e:Expr}{es:List Expr}{t:TG}{u:oO}(h1:PG X e t)(h2:sV X es u)
 (J:(assignEach (e::es) X.env).map (·.2)=assign e X.env::(assignEach es X.env).map (·.2):=by rfl):sV X (e::es) (kZ t u):=by
 intro pins s σ H vs us Q I r h;obtain⟨v,vr,L,h⟩:=h;subst L
 cases r with
 |cons r U=>
  rw[J];refine assignInOrder_cons (gy (h1 pins s σ H _ _ _ I r h) λ_ Y zq=>?_);obtain⟨z,H1,I1,q1⟩:=zq;exact h2 pins Y z H1 _ _ Q I1 U q1
def oQ (K:W.Frag) (n:Nat) (t:oO):TG:=λv σ H Q=>∃a xs,v=.ref a/\fU K H a xs/\xs.length=n/\t xs σ H Q
theorem jE {es:List Expr}{k:Nat}{t:oO}{n:Nat}(hc:X.calm=true)(h:sV X es t)
 (L:(assignEach es X.env).length=n:=by rfl) (z:(assignEach es X.env).findIdx? (·.1)=none:=by rfl):PG X (.Tuple es k pos) (oQ X.K n t):=by
 intro pins s σ H v u Q I r hw;obtain⟨a,xs,U,Y,hl,hw⟩:=hw;subst U
 cases r;obtain⟨aa,J,ht,hz⟩:=I.tuple Y;refine assign_Tuple_tuple (I.ok.hd hc) ht (by simp[L,<-hl,J.length]) z λh' hx=>?_;have I1:Inv X pins σ H { s with heap:=h' }:=I.kept (t':=s.toks) λb o e=>hx b o (Q08 (Q01 e)) e;exact h pins _ σ H xs _ Q I1 (by simpa using J) hw
def Iy (to z:TE) (t:vk):TG:=λv σ H Q=>to σ H λo H1=>z σ H1 λi H2=>t o i v H2 λJ=>Q σ J
theorem Iz {o i:Expr}{to L:TE}{t:vk}(U:PE X o to)(hi:PE X i L)(Y:Cq X t)
 (ha:∀v,assign (.Subscript o i pos) X.env v=(do
   let z <-holding [v] (eval o X.env);let J <-holding [v,z] (eval i X.env)
   standAt pos
   holding [v,z,J] (setItem z J v)
   release [v,z,J] []):=by intro _;rfl):PG X (.Subscript o i pos) (Iy to L t):=by
 intro pins s σ H v u Q I r h;rw[ha];refine Q0 (wpAny_holding (gy (U pins s σ H _ I h) λz s1 zq=>?_));obtain⟨x,H1,I1,r1,q1⟩:=zq;refine Q0 (wpAny_holding (gy (hi pins s1 σ H1 _ I1 q1) λJ s2 zq=>?_));obtain⟨y,H2,I2,r2,q2⟩:=zq;refine Q0 (wpAny_standAt (Q0 (wpAny_holding (gy (Y pins s2 σ H2 x y v z J u _ I2 r1 r2 r q2) λ_ s3 ⟨H3,I3,q3⟩=>?_))));exact wpAny_release ⟨σ,H3,I3,q3⟩
def pN (te:TE) (g:TG):TS:=λD σ H=>te σ H λx H1=>g x σ H1 D.nx
theorem Cr {tg e:Expr}{te:TE}{g:TG}(z:PE X e te)(J:PG X tg g)(L:swapsWithSole [tg] e pos.line X.env=pure false:=by rfl)(hw:swappedStores [tg] e X.env=pure none:=by rfl)
 (h1:(assignEach [tg] X.env).map (·.2)=[assign tg X.env]:=by rfl):PS X (.Assign [tg] e pos) (pN te g):=by
 intro pins s σ H D I h;refine wpAny_Assign_stores (gy (z pins s σ H _ I h) λv U zq=>?_) L hw;obtain⟨x,H1,Y,r1,q1⟩:=zq;rw[h1];exact gy (J pins U σ H1 x v _ Y r1 q1) λ_ s2 q=>q
theorem Cs {i:Nat}{x:Str}{e:Expr}{te:TE}{pos':Pos}(z:X.N.Nodup)(hi:X.N[i]? =some x)(J:Loc X.env.scope x)(L:PE X e te)(U:swapsWith e (some (.Name x pos')) pos.line X.env=pure false:=by rfl)(Y:X.fn x=true\/X.env.scope.names.lookup x=some .local:=by first|exact .inl rfl|exact .inr rfl|assumption):
 PS X (.Assign [.Name x pos'] e pos) (pN te (iY i)):=by
 intro pins s σ H D I h;refine wpAny_Assign_Name (gy (L pins s σ H _ I h) λv s1 zq=>?_) U;obtain⟨y,H1,I1,r1,q1⟩:=zq;exact qR I1 z hi J r1 (λs2 I2=>⟨_,H1,I2,q1⟩) Y
end
section
variable {X:Cx}{pos:Pos}
end
structure It where
 go:Nat->Hp->Prop
 mT:Nat->Hp->V->Hp->Prop
 stop:Nat->Hp->Prop
def jO (X:Cx) (pins:List (Addr × Obj)) (H:Hp) (b:Addr):Prop:=
 H b=none/\b≠X.env.locals/\b ∉ X.fs/\(b∈X.ex\/X.s₀.heap.objs.size<=b)/\(∀x c,X.env.cells.lookup x=some c->c≠b)/\∀p∈X.pn++pins,p.1≠b
theorem Inv.nM {X:Cx}{pins:List (Addr × Obj)}{σ:St}{H H':Hp}{s:Shared}{b:Addr}(I:Inv X pins σ H s)(J:s.heap.objs.size<=b)(L:H' b=none):jO X pins H' b:=by
 refine⟨L,Q0u (Q0c I.lt J),I.pK J,.inr (Q0b I.sz J),λx c e z=>?_,λp hp z=>?_⟩
 . obtain⟨v,q⟩:=I.cell x c e;exact absurd (Q0c q.lt (by rw[z];exact J)) (Q0p _)
 . exact absurd (Q0c (Q01 (I.pin p hp).1) (by rw[z];exact J)) (Q0p _)
structure Turn (P:Program) (w:World) (K:W.Frag) (tg:Expr) (J:It) (fp:List Addr) (it:Addr) (tn:Nat->Heap->Prop):Prop where
 mem:it∈fp
 obj:∀i h,tn i h->∀b∈fp,∃o,h.get? b=some o/\∀v,o.data≠ .cell v
 keep:∀i h h',tn i h->(∀b∈fp,∀o,h.get? b=some o->h'.get? b=some o)->tn i h'
 item:∀(X:Cx),X.prog=P->X.w=w->X.K=K->X.calm=true->∀(i:Nat) (pins:List (Addr × Obj)) (s:Shared) (σ:St) (H:Hp) (E:Value->Shared->Prop),Inv X pins σ H s->(∀b∈fp,jO X pins H b)->tn i s.heap->J.go i H->
  wpAny (model P w) X.A (pyNext (.ref it)) (λr s1=>∃u,r=some u/\
   wpAny (model P w) X.A (letOwnedTupleGo tg (.ref it) u) (λ_ s2=>∃x H',Inv X pins σ H' s2/\RelV x u/\J.mT i H x H'/\tn (i+1) s2.heap/\∀b∈fp,H' b=none) E s1) E s
 done:∀(X:Cx),X.prog=P->X.w=w->X.K=K->X.calm=true->∀(i:Nat) (pins:List (Addr × Obj)) (s:Shared) (σ:St) (H:Hp) (E:Value->Shared->Prop),Inv X pins σ H s->(∀b∈fp,jO X pins H b)->tn i s.heap->J.stop i H->
  wpAny (model P w) X.A (pyNext (.ref it)) (λr s1=>r=none/\Inv X pins σ H s1) E s
 self:∀(A:Around) (i:Nat) (s:Shared) (Q:Value->Shared->Prop) (E:Value->Shared->Prop),tn i s.heap->Q (.ref it) s->wpAny (model P w) A (pyIter (.ref it)) Q E s
noncomputable abbrev TI:=St->Hp->(It->Hp->Prop)->Prop
def PIE (X:Cx) (pins:List (Addr × Obj)) (σ:St) (tg:Expr) (R:It->Hp->Prop) (z:Value) (L:Shared):Prop:=
 ∃(it:Addr) (fp:List Addr) (U:Nat->Heap->Prop) (J:It) (H':Hp),z=.ref it/\Inv X pins σ H' L/\Turn X.prog X.w X.K tg J fp it U/\U 0 L.heap/\(∀b∈fp,jO X pins H' b)/\R J H'
def PI (X:Cx) (tg iter:Expr) (z:TI):Prop:=
 ∀(pins:List (Addr × Obj)) (s:Shared) (σ:St) (H:Hp) (R:It->Hp->Prop),Inv X pins σ H s->z σ H R->
  wpAny (model X.prog X.w) X.A (eval iter X.env) (λv J=>wpAny (model X.prog X.w) X.A (pyIter v) (PIE X pins σ tg R) X.xe J) X.xe s
theorem sW {M:Model}{A:Around}{E:Value->Shared->Prop}{s:Shared}{tg:Expr}{it:Addr}{u:Value}{o:Obj}{n:String}{vs:Array Value}{Q:Unit->Shared->Prop}(J:s.heap.get? it=some o)(hc:o.cls=.type n)(L:o.data=.fields vs)
 (U:["enumerate","zip","dict_itemiterator","dict_reverseitemiterator","odict_iterator","itertools.zip_longest","itertools.pairwise"].contains n=false) (z:Q () s):wpAny M A (letOwnedTupleGo tg (.ref it) u) Q E s:=by
 unfold letOwnedTupleGo
 cases tg <;> first
  |exact Q02 z
  |(cases u <;> first
     |exact Q02 z
     |(refine Q0 (wpAny_load J ?_)
       rw[hc,L];show wpAny M A (if(["enumerate","zip","dict_itemiterator","dict_reverseitemiterator","odict_iterator","itertools.zip_longest","itertools.pairwise"].contains n && vs[0]? == some (rawInt _))=true then _ else _) Q E s;rw[if_neg (by intro h;rw[U,Bool.false_and] at h;cases h)];exact Q02 z))
noncomputable def sY (K:W.Frag) (a:Addr):It:=
 ⟨λi H=>∃xs x,fY K H a xs/\xs[i]? =some x,λi H x H'=>H'=H/\∀xs,fY K H a xs->xs[i]? =some x,λi H=>∃xs,fY K H a xs/\xs.length<=i⟩
noncomputable def sZ (K:W.Frag) (a:Addr):It:=
 ⟨λi H=>∃xs x,fU K H a xs/\xs[i]? =some x,λi H x H'=>H'=H/\∀xs,fU K H a xs->xs[i]? =some x,λi H=>∃xs,fU K H a xs/\xs.length<=i⟩
noncomputable def qU (lo:Int) (n:Nat):It:=⟨λi _=>i<n,λi H x H'=>H'=H/\x=.int (lo+i),λi _=>n<=i⟩
theorem IA {P:Program}{w:World}{K:W.Frag}{tg:Expr}(a it:Addr):Turn P w K tg (sY K a) [it] it (λi h=>h.IsListIter it a i) where
 mem:=by simp
 obj:=λi h st b J=>by
  have e:b=it:=by simpa using J
  subst e;obtain⟨o,e,c,d⟩:=st;exact⟨o,e,λv z=>by rw[d] at z;cases z⟩
 keep:=λi h h' st k=>st.at λo e=>k it (by simp) o e
 item:=by
  intro X hP hw hK hc i pins s σ H E I U st hg;subst hP hw hK;obtain⟨xs,x,Y,hx⟩:=hg;obtain⟨aa,rv,p,hz⟩:=I.list Y;obtain⟨u,hu,ru⟩:=rv.get hx;obtain⟨f0,f1,f2,f3,f4,f5⟩:=U it (by simp);refine wpAny_pyNext_list_item st p.isList (x:=u) (by simpa using hu) λh' L sb=>?_;have I1:Inv X pins σ H { s with heap:=h' }:=I.turned (t':=s.toks) (λb o J e=>(sb.2 b J).trans e) f0 f1 f3 f4 f5;obtain⟨o,e,c,d⟩:=id L;exact⟨u,rfl,sW (s:={ s with heap:=h' }) e c d (by decide) ⟨x,H,I1,ru,⟨rfl,λys hy=>by rw[I.sU hy Y];exact hx⟩,L,λb J=>(U b J).1⟩⟩
 done:=by
  intro X hP hw hK hc i pins s σ H E I U st hg;subst hP hw hK;obtain⟨xs,Y,hx⟩:=hg;obtain⟨aa,rv,p,hz⟩:=I.list Y;obtain⟨f0,f1,f2,f3,f4,f5⟩:=U it (by simp);have hl:=rv.length;exact wpAny_pyNext_list_end (I.ok.hd hc) st p.isList (by simp;omega) λh' eb=>⟨rfl,I.turned (t':=s.toks) (λb o J e=>eb b o J e) f0 f1 f3 f4 f5⟩
 self:=λ_ _ _ _ _ st h=>wpAny_pyIter_listiter st h
theorem IB {P:Program}{w:World}{K:W.Frag}{tg:Expr}(a it:Addr):Turn P w K tg (sZ K a) [it] it (λi h=>h.IsTupleIter it a i) where
 mem:=by simp
 obj:=λi h st b J=>by
  have e:b=it:=by simpa using J
  subst e;obtain⟨o,e,c,d⟩:=st;exact⟨o,e,λv z=>by rw[d] at z;cases z⟩
 keep:=λi h h' st k=>st.at λo e=>k it (by simp) o e
 item:=by
  intro X hP hw hK hc i pins s σ H E I Y st hg;subst hP hw hK;obtain⟨xs,x,hq,hx⟩:=hg;obtain⟨L,rv,p,hz⟩:=I.tuple hq;obtain⟨u,hu,ru⟩:=rv.get hx;obtain⟨f0,f1,f2,f3,f4,f5⟩:=Y it (by simp);refine wpAny_pyNext_tuple_item st (show s.heap.IsTuple a L.toArray from p) (x:=u) (by simpa using hu) λh' U sb=>?_;have I1:Inv X pins σ H { s with heap:=h' }:=I.turned (t':=s.toks) (λb o J e=>(sb.2 b J).trans e) f0 f1 f3 f4 f5;obtain⟨o,e,c,d⟩:=id U;exact⟨u,rfl,sW (s:={ s with heap:=h' }) e c d (by decide) ⟨x,H,I1,ru,⟨rfl,λys hy=>by rw[I.Iq hy hq];exact hx⟩,U,λb J=>(Y b J).1⟩⟩
 done:=by
  intro X hP hw hK hc i pins s σ H E I Y st hg;subst hP hw hK;obtain⟨xs,hq,hx⟩:=hg;obtain⟨L,rv,p,hz⟩:=I.tuple hq;obtain⟨f0,f1,f2,f3,f4,f5⟩:=Y it (by simp);have hl:=rv.length;exact wpAny_pyNext_tuple_end (I.ok.hd hc) st (show s.heap.IsTuple a L.toArray from p) (by simp;omega) λh' eb=>⟨rfl,I.turned (t':=s.toks) (λb o J e=>eb b o J e) f0 f1 f3 f4 f5⟩
 self:=λ_ _ _ _ _ st h=>wpAny_pyIter_tupleiter st h
theorem IC {P:Program}{w:World}{K:PySem.W.Frag}{tg:Expr}(it:Addr)(lo:Int)(n:Nat):Turn P w K tg (qU lo n) [it] it (λi h=>IsRangeIter h it (lo+(i:Nat) * 1) ((n:Int) - (i:Nat)) 1) where
 mem:=by simp
 obj:=λi h st b J=>by
  have e:b=it:=by simpa using J
  subst e
  exact⟨_,st,λv z=>by
   have z':Data.fields _=Data.cell v:=z
   cases z'⟩
 keep:=λi h h' st k=>k it (by simp) _ st
 item:=by
  intro X Y hw hK hc i pins s σ H E I U st hg;subst Y hw hK;obtain⟨f0,f1,f2,f3,f4,f5⟩:=U it (by simp);have W:=Walks.range (prog:=X.prog) (w:=X.w) (I.ok.hd hc) it lo 1 n;refine W.item i s _ _ hg st λv h' tk hv L kk=>?_;obtain⟨t,rfl⟩:=hv;have I1:Inv X pins σ H { s with heap:=h',toks:=tk }:=I.turned (λb o J e=>kk b o (by simpa using J) e) f0 f1 f3 f4 f5;refine⟨_,rfl,sW (s:={ s with heap:=h',toks:=tk }) (n:="range_iterator") L rfl rfl (by decide) ⟨.int (lo+i),H,I1,⟨t,?_⟩,⟨rfl,rfl⟩,L,λb J=>(U b J).1⟩⟩;rw[Int.mul_one]
 done:=by
  intro X Y hw hK hc i pins s σ H E I U st hg;subst Y hw hK;obtain⟨f0,f1,f2,f3,f4,f5⟩:=U it (by simp);exact wpAny_pyNext_range_end (I.ok.hd hc) st (by have:n<=i:=hg;omega) λh' eb=>⟨rfl,I.turned (t':=s.toks) (λb o J e=>eb b o J e) f0 f1 f3 f4 f5⟩
 self:=λ_ _ _ _ _ st h=>wpAny_pyIter_rangeiter st h
section
variable {X:Cx}{tg:Expr}
def Ct (K:W.Frag) (tl:TE):TI:=λσ H R=>tl σ H λx H1=>∃a,x=.ref a/\(∃xs,fY K H1 a xs)/\R (sY K a) H1
def Cu (K:W.Frag) (tl:TE):TI:=λσ H R=>tl σ H λx H1=>∃a,x=.ref a/\(∃xs,fU K H1 a xs)/\R (sZ K a) H1
theorem s_ {l:Expr}{tl:TE}(hl:PE X l tl):PI X tg l (Ct X.K tl):=by
 intro pins s σ H R I h;refine gy (hl pins s σ H _ I h) λv z zq=>?_;obtain⟨x,H1,J,L,U⟩:=zq;obtain⟨a,e,⟨xs,Y⟩,q⟩:=U;subst e
 cases L;obtain⟨aa,rv,p,hz⟩:=J.list Y;refine wpAny_pyIter_list p.isList ?_;refine⟨z.heap.objs.size,[z.heap.objs.size],_,_,H1,rfl,J.kept (t':=z.toks) λb o e=>Q06 _ e,IA a _,⟨_,Q0h _ rfl,rfl,rfl⟩,λb hb=>?_,q⟩;have e:b=z.heap.objs.size:=by simpa using hb
 subst e;exact J.nM (Q00 _) (J.hok.fresh (Q00 _))
theorem jS {l:Expr}{tl:TE}(hl:PE X l tl):PI X tg l (Cu X.K tl):=by
 intro pins s σ H R I h;refine gy (hl pins s σ H _ I h) λv z zq=>?_;obtain⟨x,H1,J,U,Y⟩:=zq;obtain⟨a,e,⟨xs,hq⟩,q⟩:=Y;subst e
 cases U;obtain⟨L,rv,p,hz⟩:=J.tuple hq;refine wpAny_pyIter_tuple (show z.heap.IsTuple a L.toArray from p) ?_;refine⟨z.heap.objs.size,[z.heap.objs.size],_,_,H1,rfl,J.kept (t':=z.toks) λb o e=>Q06 _ e,IB a _,⟨_,Q0h _ rfl,rfl,rfl⟩,λb hb=>?_,q⟩;have e:b=z.heap.objs.size:=by simpa using hb
 subst e;exact J.nM (Q00 _) (J.hok.fresh (Q00 _))
theorem Cw {pins:List (Addr × Obj)}{σ:St}{H:Hp}{s:Shared}{R:It->Hp->Prop}{E:Value->Shared->Prop}{lo hi:Int}{t u v:Tok}{tk:Nat}(I:Inv X pins σ H s)(h1: -(2 ^ 62)<=lo)(h2:lo<2 ^ 62)(J: -(2 ^ 62)<=hi)(L:hi<2 ^ 62)
 (q:R (qU lo (hi - lo).toNat) H):wpAny (model X.prog X.w) X.A (pyIter (.ref s.heap.objs.size)) (PIE X pins σ tg R) E { s with heap:=s.heap.push { cls:=.type "range",data:=.fields #[.int lo t,.int hi u,.int 1 v] },toks:=tk }:=by
 refine wpAny_pyIter_range (IsRange.new ..) (small_one h1 h2 J L) ?_;have z:Inv X pins σ H { s with heap:=s.heap.push { cls:=.type "range",data:=.fields #[.int lo t,.int hi u,.int 1 v] },toks:=tk }:=I.kept λb o e=>Q06 _ e
 refine⟨(s.heap.push { cls:=.type "range",data:=.fields #[.int lo t,.int hi u,.int 1 v] }).objs.size,[(s.heap.push { cls:=.type "range",data:=.fields #[.int lo t,.int hi u,.int 1 v] }).objs.size],_,_,H,rfl,
  z.kept (t':=tk) λb o e=>Q06 _ e,IC _ lo (hi - lo).toNat,?_,λb U=>?_,q⟩
 . have Y:lo+((0:Nat):Int) * 1=lo:=by simp
   have e2:(((hi - lo).toNat:Nat):Int) - ((0:Nat):Int)=Builtin.Range.rangeSize lo hi 1:=by rw[rangeSize_one];split <;> omega
   show IsRangeIter _ _ (lo+((0:Nat):Int) * 1) ((((hi - lo).toNat:Nat):Int) - ((0:Nat):Int)) 1;rw[Y,e2];exact Q0h _ rfl
 . have e:b=(s.heap.push { cls:=.type "range",data:=.fields #[.int lo t,.int hi u,.int 1 v] }).objs.size:=by simpa using U
   subst e;exact z.nM (Q00 _) (z.hok.fresh (Q00 _))
def ID (ta:TA):TI:=λσ H R=>ta σ H λvs H1=>∃j:Int,vs=[.int j]/\ -(2 ^ 62)<=j/\j<2 ^ 62/\R (qU 0 j.toNat) H1
def IE (ta:TA):TI:=λσ H R=>ta σ H λvs H1=>∃i j:Int,vs=[.int i,.int j]/\(-(2 ^ 62)<=i/\i<2 ^ 62/\ -(2 ^ 62)<=j/\j<2 ^ 62)/\R (qU i (j - i).toNat) H1
theorem oR {a:Expr}{ta:TA}{p pos:Pos}(J:Gl X "range")(L:X.mg "range"=none)(U:PA X [a] ta)(Y:starEach [a] X.env=[(false,eval a X.env)]:=by rfl):PI X tg (.Call (.Name "range" p) [a] [] pos) (ID ta):=by
 intro pins s σ H R I h;refine Call_ (mB I J L boot_range (PyProof.Rows.callWith_type1 (gy (U pos pins s σ H _ I h) λus s1 zq=>?_) Y rfl));obtain⟨vs,H1,I1,r1,z⟩:=zq;obtain⟨j,e,z,q2,q⟩:=z;subst e
 cases r1 with
 |cons r rr=>
  cases rr;obtain⟨t,rfl⟩:=r;exact call_range_1 (Cw I1 (by omega) (by omega) z q2 (by simpa using q))
theorem IF {a b:Expr}{ta:TA}{p pos:Pos}(U:Gl X "range")(Y:X.mg "range"=none)(ha:PA X [a,b] ta)(hs:starEach [a,b] X.env=[(false,eval a X.env),(false,eval b X.env)]:=by rfl)(z:starEach [b] X.env=[(false,eval b X.env)]:=by rfl):
 PI X tg (.Call (.Name "range" p) [a,b] [] pos) (IE ta):=by
 intro pins s σ H R I h;refine Call_ (mB I U Y boot_range (PyProof.Rows.callWith_type1 (gy (ha pos pins s σ H _ I h) λus s1 zq=>?_) (by rw[hs,z]) (by rw[z];rfl)));obtain⟨vs,H1,I1,r1,J⟩:=zq;obtain⟨i,j,e,⟨J,q2,q3,q4⟩,q⟩:=J;subst e
 cases r1 with
 |cons r L=>
  cases L with
  |cons r' L=>
   cases L;obtain⟨t,rfl⟩:=r;obtain⟨t',rfl⟩:=r';exact call_range_2 (Cw I1 J q2 q3 q4 q)
def IG (Y:TI) (g:TG) (tb:TS):TS:=λD σ H=>Y σ H λJ H1=>∃W:Nat->Nat->St->Hp->Prop,(∃m,W 0 m σ H1)/\∀i m σ H,W i m σ H->
 (J.stop i H/\D.nx σ H)\/(J.go i H/\∃N:St->Hp->Prop,(∀z H',N z H'->∃U,U<m/\W (i+1) U z H')/\∀x H',J.mT i H x H'->g x σ H' λL H2=>tb { D with nx:=N,ct:=N,bk:=D.nx } L H2)
noncomputable def ti (fp:List Addr) (h:Heap):List (Addr × Obj):=fp.filterMap λb=>(h.get? b).map λo=>(b,o)
theorem qV {fp:List Addr}{h:Heap}{b:Addr}{o:Obj}(z:b∈fp)(e:h.get? b=some o):(b,o)∈ti fp h:=List.mem_filterMap.mpr ⟨b,z,by rw[e];rfl⟩
theorem IH {fp:List Addr}{h:Heap}{p:Addr × Obj}(hp:p∈ti fp h):p.1∈fp/\h.get? p.1=some p.2:=by
 obtain⟨b,z,e⟩:=List.mem_filterMap.mp hp
 cases q:h.get? b with
 |none=>rw[q] at e;cases e
 |some o=>
  rw[q] at e;have J:(b,o)=p:=Option.some.inj e;subst J;exact⟨z,q⟩
theorem Inv.pinned {pins:List (Addr × Obj)}{σ:St}{H:Hp}{s:Shared}{fp:List Addr}(I:Inv X pins σ H s)(U:∀b∈fp,jO X pins H b)(Y:∀b∈fp,∃o,s.heap.get? b=some o/\∀v,o.data≠ .cell v):Inv X (pins++ti fp s.heap) σ H s:=
 I.oJ λp hp=>(List.mem_append.mp hp).elim (λz=>I.pin p (Q09 _ z)) λz=>by
   obtain⟨J,e⟩:=IH z;obtain⟨f0,f1,f2,_⟩:=U p.1 J;obtain⟨o,L,d⟩:=Y p.1 J;rw[e] at L;cases L;exact⟨e,f0,f1,f2,d⟩
theorem Inv.mC {pins pl:List (Addr × Obj)}{σ:St}{H:Hp}{s:Shared}(I:Inv X (pins++pl) σ H s):Inv X pins σ H s:=I.oJ λp hp=>I.pin p (Q09 _ (Q0t _ hp))
theorem jt {iter:Expr}{body:List Stmt}{wi:TI}{g:TG}{tb:TS}{pos:Pos}(hp:PassesOwn (model X.prog X.w) X.A X.env X.xe)(hc:X.calm=true)(hi:PI X tg iter wi)(hg:PG X tg g)(L:j4 X body tb)
 (hs:∀x,foldedSetIterable iter X.env x=pure x:=by intro _;rfl):PS X (.For tg iter body [] pos) (IG wi g tb):=by
 intro pins s σ H D I h;refine wpAny_For (gy (hi pins s σ H _ I h) λv s1 h1=>gy h1 λal s2 h2=>?_) hs;obtain⟨it,fp,tn,J,H2,e,I2,T,ah,f2,W,⟨m0,w0⟩,turn⟩:=h2;subst e;have ac:∀{H':Hp},(∀b∈fp,H' b=none)->∀b∈fp,jO X pins H' b:=λhn b L=>⟨hn b L,(f2 b L).2⟩;refine codeAny_forLoop_any (λn s'=>∃i aa H',Inv X pins aa H' s'/\tn i s'.heap/\(∀b∈fp,H' b=none)/\W i n aa H') ?_ m0 ⟨0,σ,H2,I2,ah,λb L=>(f2 b L).1,w0⟩;intro n s3 zq;obtain⟨i,ab,H3,I3,af,ag,w3⟩:=zq;rcases turn i n ab H3 w3 with⟨stop,qn⟩|⟨go,N,hN,step⟩
 . refine wpAny_passesOwn hp (gy (T.done X rfl rfl rfl hc i pins s3 ab H3 X.xe I3 (ac ag) af stop) λr s4 ⟨hr,I4⟩=>?_);subst hr;exact wpAny_execs_nil ⟨ab,H3,I4,qn⟩
 . refine wpAny_passesOwn hp (gy (T.item X rfl rfl rfl hc i pins s3 ab H3 X.xe I3 (ac ag) af go) λr s4 ⟨u,hr,h4⟩=>?_);subst hr;refine wpAny_passesOwn hp (gy h4 λ_ s5 zq=>?_);obtain⟨x,H5,I5,r5,y5,ae,ai⟩:=zq;have aj:=I5.pinned (ac ai) (T.obj _ _ ae);refine wpAny_passesOwn hp (gy (hg _ s5 ab H5 x u _ aj r5 (step x H5 y5)) λ_ s6 zq=>?_);obtain⟨ak,H6,I6,q6⟩:=zq;refine wpAny_passesOwn hp (gy (L _ s6 ak H6 _ I6 q6) λf s7 q7=>?_)
   have again:∀{z:St} {U:Hp},Inv X (pins++ti fp s5.heap) z U s7->N z U->∃m,m<n/\∃i aa H',Inv X pins aa H' s7/\tn i s7.heap/\(∀b∈fp,H' b=none)/\W i m aa H':=λ{z U} Y n7=>by
    obtain⟨m',hm,w7⟩:=hN z U n7;refine⟨m',hm,i+1,z,U,Y.mC,T.keep _ _ _ ae λb L o e=>(Y.pin (b,o) (Q09 _ (Q09 _ (qV L e)))).1,λb L=>?_,w7⟩;obtain⟨o,e,d⟩:=T.obj _ _ ae b L;exact(Y.pin (b,o) (Q09 _ (Q09 _ (qV L e)))).2.1
   cases f with
   |next=>obtain⟨z,U,Y,n7⟩:=q7;exact again Y n7
   |cont=>obtain⟨z,U,Y,n7⟩:=q7;exact again Y n7
   |brk=>obtain⟨z,U,Y,q7⟩:=q7;exact⟨z,U,Y.mC,q7⟩
   |ret v=>obtain⟨x7,z,U,Y,r7,q7⟩:=q7;exact⟨x7,z,U,Y.mC,r7,q7⟩
end
def qW (J:It) (H:Hp) (xs:List V):Prop:=(∀i x,xs[i]? =some x->J.go i H)/\(∀i x H',J.mT i H x H'->H'=H/\xs[i]? =some x)/\J.stop xs.length H
theorem mU {K:W.Frag}{H:Hp}{a:Addr}{xs:List V}(h:fU K H a xs):qW (sZ K a) H xs:=⟨λ_ _ e=>⟨_,_,h,e⟩,λ_ _ _ y=>⟨y.1,y.2 _ h⟩,_,h,Q00 _⟩
theorem vm {K:W.Frag}{H:Hp}{a:Addr}{xs:List V}(h:fY K H a xs):qW (sY K a) H xs:=⟨λ_ _ e=>⟨_,_,h,e⟩,λ_ _ _ y=>⟨y.1,y.2 _ h⟩,_,h,Q00 _⟩
abbrev tm (J:It) (g:TG) (tb:TS) (D:Ends) (σ:St) (H:Hp):Prop:=∃W:Nat->Nat->St->Hp->Prop,(∃m,W 0 m σ H)/\∀i m σ H,W i m σ H->(J.stop i H/\D.nx σ H)\/(J.go i H/\∃N:St->Hp->Prop,(∀z H',N z H'->∃U,U<m/\W (i+1) U z H')/\∀x H',J.mT i H x H'->g x σ H' λL H2=>tb { D with nx:=N,ct:=N,bk:=D.nx } L H2)
theorem vn {J:It}{xs:List V}{g:TG}{tb:TS}{D:Ends}{σ:St}{H:Hp}(Pv:Nat->St->Hp->Prop)(U:Pv 0 σ H)(hl:∀i σ H,i<=xs.length->Pv i σ H->qW J H xs)
 (Y:∀i x σ H,xs[i]? =some x->Pv i σ H->g x σ H λL H2=>tb { D with nx:=Pv (i+1),ct:=Pv (i+1),bk:=D.nx } L H2) (hd:∀σ H,Pv xs.length σ H->D.nx σ H):
 tm J g tb D σ H:=by
 refine⟨λi m σ H=>m=xs.length - i/\i<=xs.length/\Pv i σ H,⟨xs.length,rfl,Q0g _,U⟩,?_⟩;rintro i m σ H ⟨rfl,hi,p⟩;have q:=hl i σ H hi p;by_cases z:i<xs.length
 . refine .inr ⟨q.1 i _ (Q03 z),Pv (i+1),λaa H' p'=>⟨_,Q2b _ _ z,rfl,z,p'⟩,λx H' y=>?_⟩;obtain⟨rfl,hx⟩:=q.2.1 _ _ _ y;exact Y i x σ _ hx p
 . cases Q2c hi (Q1d z);exact .inl ⟨q.2.2,hd _ _ p⟩
theorem II {K:W.Frag}{a:Addr}{xs:List V}{g:TG}{tb:TS}{D:Ends}{σ:St}{H:Hp}(Pv:Nat->St->Hp->Prop)(J:Pv 0 σ H)(hl:∀i σ H,i<=xs.length->Pv i σ H->fY K H a xs)
 (L:∀i x σ H,xs[i]? =some x->Pv i σ H->g x σ H λz H2=>tb { D with nx:=Pv (i+1),ct:=Pv (i+1),bk:=D.nx } z H2) (U:∀σ H,Pv xs.length σ H->D.nx σ H):
 tm (sY K a) g tb D σ H:=vn Pv J (λi σ H x y=>vm (hl i σ H x y)) L U
theorem nN {K:W.Frag}{a:Addr}{xs:List V}{g:TG}{tb:TS}{D:Ends}{σ:St}{H:Hp}(Pv:Nat->St->Hp->Prop)(J:Pv 0 σ H)(hl:∀i σ H,i<=xs.length->Pv i σ H->fU K H a xs)
 (L:∀i x σ H,xs[i]? =some x->Pv i σ H->g x σ H λz H2=>tb { D with nx:=Pv (i+1),ct:=Pv (i+1),bk:=D.nx } z H2) (U:∀σ H,Pv xs.length σ H->D.nx σ H):
 tm (sZ K a) g tb D σ H:=vn Pv J (λi σ H x y=>mU (hl i σ H x y)) L U
theorem nO {lo:Int}{n:Nat}{g:TG}{tb:TS}{D:Ends}{σ:St}{H:Hp}(Pv:Nat->St->Hp->Prop)(L:Pv 0 σ H)
 (U:∀i σ H,i<n->Pv i σ H->g (.int (lo+i)) σ H λJ H2=>tb { D with nx:=Pv (i+1),ct:=Pv (i+1),bk:=D.nx } J H2) (Y:∀σ H,Pv n σ H->D.nx σ H):
 tm (qU lo n) g tb D σ H:=by
 refine⟨λi m σ H=>m=n - i/\i<=n/\Pv i σ H,⟨n,by simp,Q0g _,L⟩,?_⟩;rintro i m σ H ⟨rfl,hi,p⟩;by_cases z:i<n
 . refine .inr ⟨z,Pv (i+1),λaa H' p'=>⟨n - (i+1),by omega,rfl,z,p'⟩,λx H' y=>?_⟩;obtain⟨e,y⟩:=y;subst e y;exact U i σ _ z p
 . have e:i=n:=by omega
   subst e;exact .inl ⟨Q00 _,Y σ H p⟩
noncomputable abbrev R2:=V->V->Hp->VK->Prop
def jc (X:Cx) (f:Value->Value->Sem Value) (r:R2):Prop:=
 ∀(pins:List (Addr × Obj)) (s:Shared) (σ:St) (H:Hp) (x y:V) (v u:Value) (Q:VK),Inv X pins σ H s->RelV x v->RelV y u->r x y H Q->
  wpAny (model X.prog X.w) X.A (f v u) (EP X pins σ Q) X.xe s
def kI (X:Cx) (f:Value) (r:List V->Hp->VK->Prop):Prop:=
 ∀(pins:List (Addr × Obj)) (s:Shared) (σ:St) (H:Hp) (xs:List V) (us:List Value) (Q:VK),Inv X pins σ H s->Vals xs us->r xs H Q->
  wpAny (model X.prog X.w) X.A (call f us) (EP X pins σ Q) X.xe s
def iC (r:R2) (ta tb:TE):TE:=λσ H Q=>ta σ H λx H1=>tb σ H1 λy H2=>r x y H2 Q
def rI (C:Int->Int->Prop) (g:Int->Int->V):R2:=λx y H Q=>∃i j,x=.int i/\y=.int j/\C i j/\Q (g i j) H
def oS (g:Int->Int->V):R2:=λx y H Q=>∃i j,x=.int i/\y=.int j/\Q (g i j) H
section
variable {X:Cx}{a b c:Expr}{ta tb tc:TE}{pos:Pos}
theorem vp (U:PE X a ta)(Y:PE X b tb){pins:List (Addr × Obj)}{s:Shared}{σ:St}{H:Hp}{R:V->V->Hp->Prop}(I:Inv X pins σ H s)
 (h:ta σ H λx H1=>tb σ H1 λy H2=>R x y H2) {Q:Value->Shared->Prop} {f:Value->Value->Sem Value}
 (hf:∀v u L x y H2,Inv X pins σ H2 L->RelV x v->RelV y u->R x y H2->wpAny (model X.prog X.w) X.A (f v u) Q X.xe L):
 wpAny (model X.prog X.w) X.A (eval a X.env) (λv z=>wpAny (model X.prog X.w) X.A (eval b X.env) (λu J=>wpAny (model X.prog X.w) X.A (f v u) Q X.xe J) X.xe z) X.xe s:=by
 refine gy (U pins s σ H _ I h) λv s1 zq=>?_;obtain⟨x,H1,I1,r1,q1⟩:=zq;refine gy (Y pins s1 σ H1 _ I1 q1) λu L zq=>?_;obtain⟨y,H2,I2,r2,q2⟩:=zq;exact hf v u L x y H2 I2 r1 r2 q2
theorem gh {op:Operator}{r:R2}(z:jc X (binaryOp op) r)(J:PE X a ta)(L:PE X b tb):PE X (.BinOp a op b pos) (iC r ta tb):=by
 intro pins s σ H Q I h;exact wpAny_BinOp (vp J L I h λv u U x y H2 Y rx ry q=>z pins U σ H2 x y v u Q Y rx ry q)
theorem tw {f:Value->Value->Sem Value}{C:Int->Int->Prop}{g:Int->Int->Int}
 (rule:∀(i j:Int) (t u:Tok) (s:Shared) (Q:Value->Shared->Prop) (E:Value->Shared->Prop),C i j->Q (.int (g i j) s.toks) { s with toks:=s.toks+1 }->wpAny (model X.prog X.w) X.A (f (.int i t) (.int j u)) Q E s):
 jc X f (rI C λi j=>.int (g i j)):=by
 intro pins s σ H x y v u Q I z J h;obtain⟨i,j,rfl,rfl,hc,q⟩:=h;obtain⟨t,rfl⟩:=z;obtain⟨t',rfl⟩:=J;exact rule i j t t' s _ _ hc ⟨.int (g i j),H,I.tok _,⟨_,rfl⟩,q⟩
theorem Cy {f:Value->Value->Sem Value}{g:Int->Int->Int}
 (rule:∀(i j:Int) (t u:Tok) (s:Shared) (Q:Value->Shared->Prop) (E:Value->Shared->Prop),Q (.int (g i j) s.toks) { s with toks:=s.toks+1 }->wpAny (model X.prog X.w) X.A (f (.int i t) (.int j u)) Q E s):
 jc X f (oS λi j=>.int (g i j)):=by
 intro pins s σ H x y v u Q I z J h;obtain⟨i,j,rfl,rfl,q⟩:=h;obtain⟨t,rfl⟩:=z;obtain⟨t',rfl⟩:=J;exact rule i j t t' s _ _ ⟨.int (g i j),H,I.tok _,⟨_,rfl⟩,q⟩
theorem vq {f:Value->Value->Sem Value}{g:Int->Int->Bool}
 (rule:∀(i j:Int) (t u:Tok) (s:Shared) (Q:Value->Shared->Prop) (E:Value->Shared->Prop),Q (.bool (g i j)) s->wpAny (model X.prog X.w) X.A (f (.int i t) (.int j u)) Q E s):
 jc X f (oS λi j=>.bl (g i j)):=by
 intro pins s σ H x y v u Q I z J h;obtain⟨i,j,rfl,rfl,q⟩:=h;obtain⟨t,rfl⟩:=z;obtain⟨t',rfl⟩:=J;exact rule i j t t' s _ _ ⟨.bl (g i j),H,I,rfl,q⟩
def IJ (i j:Int):Prop:=0<j/\j<1073741824
def vv (i j:Int):Prop:=0<=j/\j<=1000000/\i.natAbs<2 ^ 64
def vx (i j:Int):Prop:=(-(2 ^ 64)<i/\i<2 ^ 64)\/(-(2 ^ 64)<j/\j<2 ^ 64)
theorem vx.ok {i j:Int}(h:vx i j):IntMulOk i j:=by
 rcases h with⟨h1,h2⟩|⟨h1,h2⟩
 . exact .of_left (intBits_le_64 h1 h2)
 . exact .of_right (intBits_le_64 h1 h2)
theorem j5:jc X (binaryOp .Add) (oS λi j=>.int (i+j)):=Cy λ_ _ _ _ _ _ _ q=>add_int q
theorem mV:jc X (binaryOp .Sub) (oS λi j=>.int (i - j)):=Cy λ_ _ _ _ _ _ _ q=>sub_int q
theorem mW:jc X (binaryOp .Mult) (rI vx λi j=>.int (i * j)):=tw λ_ _ _ _ _ _ _ hc q=>mul_int q hc.ok
theorem jh:jc X (binaryOp .FloorDiv) (rI IJ λi j=>.int (i / j)):=tw λi j _ _ _ _ _ hc q=>by
 have h1:(0:Int)<j:=hc.1;have h2:j<1073741824:=hc.2;exact floordiv_int (by omega) (by rw[Int.fdiv_eq_ediv_of_nonneg i (by omega)];exact q) (.inl (PyProof.noPylong_small (by omega)))
theorem iw:jc X (binaryOp .Mod) (rI (λ_ j=>0<j) λi j=>.int (i % j)):=tw λi j _ _ _ _ _ hc q=>by
 have h1:(0:Int)<j:=hc;exact mod_int' (by omega) (by rw[Int.fmod_eq_emod_of_nonneg i (by omega)];exact q)
theorem tz:jc X (binaryOp .Pow) (rI vv λi j=>.int (i ^ j.toNat)):=tw λ_ _ _ _ _ _ _ hc q=>pow_int_small hc.1 hc.2.1 hc.2.2 q
end
noncomputable def Cz:V->V->Bool
 | .non,.non=>true| .non,.int _=>true| .int _,.non=>true| .non,.bl _=>true| .bl _,.non=>true| .non,.str _=>true| .str _,.non=>true
 | .int _,.int _=>true| .bl _,.bl _=>true| .str _,.str _=>true| .lB _,.lB _=>true
 | .int _,.str _=>true| .str _,.int _=>true| .bl _,.str _=>true| .str _,.bl _=>true
 |_,_=>false
def oU:R2:=λx y H Q=>Cz x y=true/\Q (.bl (decide (x=y))) H
def IK:R2:=λx y H Q=>Cz x y=true/\Q (.bl (!decide (x=y))) H
theorem CC {i j:Int}:decide (V.int i=V.int j)=(i == j):=by
 rw[Bool.eq_iff_iff];simp
theorem CD {i j:Bool}:decide (V.bl i=V.bl j)=(i == j):=by
 rw[Bool.eq_iff_iff];simp
theorem CF {i j:Str}:decide (V.str i=V.str j)=(i == j):=by
 rw[Bool.eq_iff_iff];simp
theorem CG {i j:Array UInt8}:decide (V.lB i=V.lB j)=(i.toList == j.toList):=by
 rw[Bool.eq_iff_iff]
 cases i
 cases j;simp
section
variable {X:Cx}{a b c:Expr}{ta tb tc:TE}{pos:Pos}
theorem iR {pins:List (Addr × Obj)}{σ:St}{H:Hp}{s:Shared}{Q:VK}{k z:Bool}(I:Inv X pins σ H s)(q:Q (.bl k) H)(e:k=z):EP X pins σ Q (.bool z) s:=by
 subst e;exact⟨.bl k,H,I,rfl,q⟩
theorem gL:jc X (compareOp .Eq) oU:=by
 intro pins s σ H x y v u Q I L z h;obtain⟨J,q⟩:=h
 cases x with
 |non=>
  cases L
  cases y with
  |non=>cases z;exact PySem.EqNone.eq_none_none (iR I q (by simp))
  |bl j=>cases z;exact PySem.EqNone.eq_none_bool (iR I q (by simp))
  |int j=>obtain⟨t',rfl⟩:=z;exact PySem.EqNone.eq_none_int (iR I q (by simp))
  |str j=>obtain⟨t',rfl⟩:=z;exact PySem.EqNone.eq_none_str (iR I q (by simp))
  |_=>exact absurd (show false=true from J) Bool.false_ne_true
 |bl i=>
  cases L
  cases y with
  |non=>cases z;exact PySem.EqNone.eq_bool_none (iR I q (by simp))
  |bl j=>cases z;exact eq_bool (iR I q CD)
  |str j=>obtain⟨t',rfl⟩:=z;exact PySem.EqMixed.eq_bool_str (iR I q (by simp))
  |_=>exact absurd (show false=true from J) Bool.false_ne_true
 |int i=>
  obtain⟨t,rfl⟩:=L
  cases y with
  |non=>cases z;exact PySem.EqNone.eq_int_none (iR I q (by simp))
  |int j=>obtain⟨t',rfl⟩:=z;exact eq_int (iR I q CC)
  |str j=>obtain⟨t',rfl⟩:=z;exact PySem.EqMixed.eq_int_str (iR I q (by simp))
  |_=>exact absurd (show false=true from J) Bool.false_ne_true
 |str i=>
  obtain⟨t,rfl⟩:=L
  cases y with
  |non=>cases z;exact PySem.EqNone.eq_str_none (iR I q (by simp))
  |bl j=>cases z;exact PySem.EqMixed.eq_str_bool (iR I q (by simp))
  |int j=>obtain⟨t',rfl⟩:=z;exact PySem.EqMixed.eq_str_int (iR I q (by simp))
  |str j=>obtain⟨t',rfl⟩:=z;exact eq_str (iR I q CF)
  |_=>exact absurd (show false=true from J) Bool.false_ne_true
 |lB i=>
  obtain⟨t,rfl⟩:=L
  cases y with
  |lB j=>obtain⟨t',rfl⟩:=z;exact W.eq_bytes (iR I q CG)
  |_=>exact absurd (show false=true from J) Bool.false_ne_true
 |_=>cases y <;> exact absurd (show false=true from J) Bool.false_ne_true
theorem jF:jc X (compareOp .NotEq) IK:=by
 intro pins s σ H x y v u Q I L z h;obtain⟨J,q⟩:=h
 cases x with
 |non=>
  cases L
  cases y with
  |non=>cases z;exact PySem.EqNone.ne_none_none (iR I q (by simp))
  |bl j=>cases z;exact PySem.EqNone.ne_none_bool (iR I q (by simp))
  |int j=>obtain⟨t',rfl⟩:=z;exact PySem.EqNone.ne_none_int (iR I q (by simp))
  |str j=>obtain⟨t',rfl⟩:=z;exact PySem.EqNone.ne_none_str (iR I q (by simp))
  |_=>exact absurd (show false=true from J) Bool.false_ne_true
 |bl i=>
  cases L
  cases y with
  |non=>cases z;exact PySem.EqNone.ne_bool_none (iR I q (by simp))
  |bl j=>cases z;exact ne_bool (iR I q (congrArg not CD))
  |str j=>obtain⟨t',rfl⟩:=z;exact PySem.EqMixed.ne_bool_str (iR I q (by simp))
  |_=>exact absurd (show false=true from J) Bool.false_ne_true
 |int i=>
  obtain⟨t,rfl⟩:=L
  cases y with
  |non=>cases z;exact PySem.EqNone.ne_int_none (iR I q (by simp))
  |int j=>obtain⟨t',rfl⟩:=z;exact ne_int (iR I q (congrArg not CC))
  |str j=>obtain⟨t',rfl⟩:=z;exact PySem.EqMixed.ne_int_str (iR I q (by simp))
  |_=>exact absurd (show false=true from J) Bool.false_ne_true
 |str i=>
  obtain⟨t,rfl⟩:=L
  cases y with
  |non=>cases z;exact PySem.EqNone.ne_str_none (iR I q (by simp))
  |bl j=>cases z;exact PySem.EqMixed.ne_str_bool (iR I q (by simp))
  |int j=>obtain⟨t',rfl⟩:=z;exact PySem.EqMixed.ne_str_int (iR I q (by simp))
  |str j=>obtain⟨t',rfl⟩:=z;exact ne_str (iR I q (congrArg not CF))
  |_=>exact absurd (show false=true from J) Bool.false_ne_true
 |lB i=>
  obtain⟨t,rfl⟩:=L
  cases y with
  |lB j=>obtain⟨t',rfl⟩:=z;exact W.ne_bytes (iR I q (congrArg not CG))
  |_=>exact absurd (show false=true from J) Bool.false_ne_true
 |_=>cases y <;> exact absurd (show false=true from J) Bool.false_ne_true
theorem tD:jc X (compareOp .Lt) (oS λi j=>.bl (decide (i<j))):=vq λ_ _ _ _ _ _ _ q=>lt_int q
theorem CH:jc X (compareOp .LtE) (oS λi j=>.bl (decide (i<=j))):=vq λ_ _ _ _ _ _ _ q=>le_int q
theorem qX:jc X (compareOp .Gt) (oS λi j=>.bl (decide (j<i))):=vq λ_ _ _ _ _ _ _ q=>gt_int q
theorem vy:jc X (compareOp .Is) (λx y H Q=>y=.non/\Q (.bl (decide (x=.non))) H):=by
 intro pins s σ H x y v u Q I z J h;obtain⟨rfl,q⟩:=h
 cases J;refine is_none_gen (iR I q ?_)
 cases x <;> first
  |(cases z;rfl)
  |(obtain⟨t,rfl⟩:=z;rfl)
theorem j6:jc X (compareOp .IsNot) (λx y H Q=>y=.non/\Q (.bl (!decide (x=.non))) H):=by
 intro pins s σ H x y v u Q I z J h;obtain⟨rfl,q⟩:=h
 cases J;refine isnot_none_gen (iR I q ?_)
 cases x <;> first
  |(cases z;rfl)
  |(obtain⟨t,rfl⟩:=z;rfl)
theorem gj (b:Expr){op:CmpOp}(h:op≠ .In:=by decide)(h2:op≠ .NotIn:=by decide):behindInMarks op b=false:=by
 have z:(op == CmpOp.In)=false:=by cases op <;> first|rfl|exact absurd rfl h
 have J:(op == CmpOp.NotIn)=false:=by cases op <;> first|rfl|exact absurd rfl h2
 cases b <;> simp[behindInMarks,z,J]
theorem jK {op:CmpOp}{r:R2}(z:jc X (compareOp op) r)(J:PE X a ta)(L:PE X b tb)(U:behindInMarks op b=false):PE X (.Compare a [op] [b] pos) (iC r ta tb):=by
 intro pins s σ H Q I h;exact wpAny_Compare1 (vp J L I h λv u Y x y H2 I2 rx ry q=>z pins Y σ H2 x y v u Q I2 rx ry q) U
def mD (t:TE):TT:=λσ H Q=>t σ H λx H'=>∃k,x=.bl k/\Q k H'
theorem gw {op:CmpOp}{r:R2}(J:jc X (compareOp op) r)(L:PE X a ta)(U:PE X b tb)(Y:behindInMarks op b=false):PT X (.Compare a [op] [b] pos) (mD (iC r ta tb)):=by
 intro pins s σ H Q I h
 refine wpAny_isTrue_Compare1 (gy (L pins s σ H _ I h) λv s1 ⟨x,H1,I1,r1,q1⟩=>gy (U pins s1 σ H1 _ I1 q1) λu s2 ⟨y,H2,I2,r2,q2⟩=>
  gy (J pins s2 σ H2 x y v u _ I2 r1 r2 q2) λc s3 ⟨z,H3,I3,r3,k,e,q3⟩=>?_) Y
 subst e
 cases r3;exact wpAny_truthy_bool ⟨H3,I3,q3⟩
theorem pO:(sizeLine:Nat)<2 ^ 63:=by rw[sizeLine_eq];decide
theorem pP:jc X (binaryOp .Add) (λx y H Q=>∃i j,x=.str i/\y=.str j/\i.length+j.length<=sizeLine/\Q (.str (i++j)) H):=by
 intro pins s σ H x y v u Q I z J h;obtain⟨i,j,rfl,rfl,L,q⟩:=h;obtain⟨t,rfl⟩:=z;obtain⟨t',rfl⟩:=J;exact add_str (λt' tk=>⟨.str (i++j),H,I.tok _,⟨_,rfl⟩,q⟩) L
theorem vals1 {x:V}{us:List Value}(r:Vals [x] us):∃u,us=[u]/\RelV x u:=by
 cases r with
 |cons z J=>cases J;exact⟨_,rfl,z⟩
theorem vals2 {x y:V}{us:List Value}(r:Vals [x,y] us):∃u z,us=[u,z]/\RelV x u/\RelV y z:=by
 cases r with
 |cons J L=>
  cases L with
  |cons U Y=>cases Y;exact⟨_,_,rfl,J,U⟩
end
structure oV (h:Heap) (x dx C:Addr) (mA:Str->Option Value):Prop where
 obj:h.get? x=some (W.instObj C dx)
 ns:h.Ns1 dx mA
 ne:dx≠x
theorem IL {h:Heap}{dx:Addr}{mA:Str->Option Value}(n:h.Ns1 dx mA):∃L,h.get? dx=some L/\∀name,W.lookIn name L=some (mA name):=by
 obtain⟨o,es,ep,U,Y,hk,_,hm⟩:=n;refine⟨o,U,λname=>?_⟩;have e:=hm name;unfold nsFind findBy at e;rw[<-Q2z] at e;unfold W.lookIn;rw[Y];dsimp only;split
 . rename_i y q;rw[q] at e;exact congrArg some e
 . rename_i q;rw[q] at e
   have a:es.toList.any (·.refKey)=false:=by
    rw[List.any_eq_false];intro y hy;obtain⟨z,t,J⟩:=hk y (Array.mem_toList_iff.mp hy);simp[DictEntry.refKey,J]
   have a':¬es.toList.any (·.refKey)=true:=by rw[a];exact Bool.false_ne_true
   rw[if_neg a'];exact congrArg some e
theorem oV.look {h:Heap}{x dx C:Addr}{mA:Str->Option Value}(I:oV h x dx C mA):∃z,W.InstAt h x (W.instObj C dx) C (some z)/\∀name,W.lookIn name z=some (mA name):=
 let⟨z,J,hl⟩:=IL I.ns
 ⟨z,⟨I.obj,rfl,rfl,J⟩,hl⟩
section
variable {prog:Program}{w:World}{A:Around}{E:Value->Shared->Prop}{s:Shared}{K:W.Frag}{x dx C f:Addr}{mA:Str->Option Value}{name:Str}{v:Value}
theorem get_map {z:Bool}{Q:Value->Shared->Prop}(X:K.In s.heap)(I:oV s.heap x dx C mA)(U:W.plainGet K C name=true)(Y:W.hasDictIn K C=true)
 (ha:W.findIn K (.ref C) name=some none) (hv:mA name=some v) (L:W.handedIn v=true) (h:Q v { s with toks:=s.toks+1 }):
 wpAny (model prog w) A (getAttr (.ref x) name z) Q E s:=by
 obtain⟨od,J,hl⟩:=I.look;exact W.get_value X J (W.plainGet_of U).1 (W.findObj_own Y ha rfl (by rw[hl,hv])) L h
theorem IM {pl:Sem Bool}{Q:Value × List Value->Shared->Prop}(X:K.In s.heap)(I:oV s.heap x dx C mA)(z:W.plainGet K C name=true)
 (L:W.findIn K (.ref C) name=some (some (.ref f))) (ht:W.isFn K (.ref f)=true) (U:mA name=none) (h:Q (.ref f,[.ref x]) s):
 wpAny (model prog w) A (getMethod (.ref x) name pl) Q E s:=by
 obtain⟨Y,J,hl⟩:=I.look;exact W.method_fn X J (W.plainGet_of z).1 (W.plainGet_of z).2 L (beq_iff_eq.mp ht) (by show(W.lookIn name Y).map (·.isSome)=some false;rw[hl,U];rfl) h
theorem IP {ns:List Str}{Q:Unit->Shared->Prop}(X:K.In s.heap)(I:oV s.heap x dx C mA)
 (hs:W.findIn K (.ref C) "__setattr__"=some (some (.builtin "object.__setattr__"))) (hp:W.plainOver K C=true) (ht:W.takerIn K C name=some none) (hh:W.hasDictIn K C=true)
 (hw:PySem.Within mA ns) (hsz:ns.length<=sizeLine)
 (h:∀h',oV h' x dx C (λy=>if y=name then some v else mA y)->Heap.SameBut dx s.heap h'->Q () { s with heap:=h',toks:=s.toks+2 }):
 wpAny (model prog w) A (setAttr (.ref x) name v) Q E s:=by
 obtain⟨od,J,hl⟩:=I.look;refine W.set_plain X J hs (W.osa_open (s:={ s with toks:=s.toks+1 }) (r:=none) X J hp ht λb=>?_);obtain⟨cd,hc,U⟩:=W.any_some hh;have hx:s.heap.get? x=some ⟨.ref C,some dx,.plain,#[]⟩:=I.obj;refine Q0 (Q02 (Q0 (Q0 (wpAny_loadPart hx (Q0 (W.Looks.here (s:={ s with toks:=s.toks+1 }) (W.looks_clsIn X hc) ?_))))));rw[U];refine Q02 (a:=some dx) (Q0 (Q02 (Q0 ?_)));refine wpAny_nsSet1 (s:={ s with toks:=s.toks+1 }) I.ns λh' z L=>?_;obtain⟨oD,ac,ae,Y,aa,ab⟩:=z.count (PySem.Within.cons name v hw);refine Q0 (wpAny_lookBehind Y (by rw[aa];exact pastItsLine_dict (Q0b ab (by rw[Q0j];omega))) ?_);exact Q02 (h _ ⟨(L.2 _ (Ne.symm I.ne)).trans I.obj,z,I.ne⟩ L)
theorem IQ {R:Result->Shared->Prop}{vs:List Value}{z:List (Str × Value)}(X:K.In s.heap)(J:W.makesIn K C=true)
 (hi:W.findIn K (.ref C) "__init__"=some (some (.ref f))) (L:W.typeIn K (.ref f)=some (.type "function"))
 (h:codeAny (model prog w) (A.under (.builtin "type.__call__" ⟨.ref C::vs,z⟩)) (.call (.ref f) ⟨.ref (s.heap.objs.size+1)::vs,z⟩) (W.InitBack (s.heap.objs.size+1) R)
   { s with heap:=(s.heap.push W.emptyDict).push (W.instObj C s.heap.objs.size) }):
 codeAny (model prog w) A (.call (.ref C) ⟨vs,z⟩) R s:=by
 obtain⟨U,g,d,t,os⟩:=s;exact W.make_core (W.makes_of X J) (W.looks_findIn X hi) (λself=>W.bind_fn X self L) (.inl rfl) h
end
noncomputable def j7 (f:Str) (v:V):List (Str × V)->List (Str × V)
 |[]=>[(f,v)]
 |(g,x)::r=>if g=f then(g,v)::r else(g,x)::j7 f v r
theorem CI (f g:Str)(v:V):∀fs:List (Str × V),(j7 f v fs).lookup g=if g=f then some v else fs.lookup g
 |[]=>by
  show List.lookup g [(f,v)]=_;by_cases h:g=f
  . have z:(g == f)=true:=beq_iff_eq.mpr h;simp only[List.lookup,z,if_pos h]
  . have z:(g == f)=false:=beq_eq_false_iff_ne.mpr h;simp only[List.lookup,z,if_neg h]
 |(k,x)::r=>by
  have J:=CI f g v r;rw[show j7 f v ((k,x)::r)=(if k=f then(k,v)::r else(k,x)::j7 f v r) from rfl];by_cases hk:k=f
  . rw[if_pos hk];by_cases h:g=k
    . have z:(g == k)=true:=beq_iff_eq.mpr h;simp only[List.lookup,z,if_pos (h.trans hk)]
    . have z:(g == k)=false:=beq_eq_false_iff_ne.mpr h;simp only[List.lookup,z,if_neg (λe:g=f=>h (e.trans hk.symm))]
  . rw[if_neg hk];by_cases h:g=k
    . have z:(g == k)=true:=beq_iff_eq.mpr h;simp only[List.lookup,z,if_neg (λe:g=f=>hk (h.symm.trans e))]
    . have z:(g == k)=false:=beq_eq_false_iff_ne.mpr h;simp only[List.lookup,z];exact J
theorem vz (f:Str)(v:V):∀fs:List (Str × V),f∈(j7 f v fs).map (·.1)/\∀g,g∈fs.map (·.1)->g∈(j7 f v fs).map (·.1)
 |[]=>⟨by simp[j7],λg h=>by simp at h⟩
 |(k,x)::r=>by
  obtain⟨z,J⟩:=vz f v r;rw[show j7 f v ((k,x)::r)=(if k=f then(k,v)::r else(k,x)::j7 f v r) from rfl];by_cases hk:k=f
  . rw[if_pos hk];subst hk;exact⟨by simp,λg h=>by simpa using h⟩
  . rw[if_neg hk];refine⟨?_,λg h=>?_⟩
    . rw[Q0q];exact Q0d _ z
    . rw[Q0q] at h ⊢;rcases List.mem_cons.mp h with e|e
      . exact List.mem_cons.mpr (.inl e)
      . exact Q0d _ (J g e)
theorem CJ (f:Str)(v:V):∀fs:List (Str × V),(j7 f v fs).length<=fs.length+1
 |[]=>by simp[j7]
 |(k,x)::r=>by
  have z:=CJ f v r;rw[show j7 f v ((k,x)::r)=(if k=f then(k,v)::r else(k,x)::j7 f v r) from rfl];by_cases hk:k=f
  . rw[if_pos hk,Q0j,Q0j];omega
  . rw[if_neg hk,Q0j,Q0j];omega
theorem jX.some_of {v:V}{o:Option Value}(r:jX (some v) o):∃u,o=some u/\RelV v u:=by
 cases o with
 |none=>exact(show False from r).elim
 |some u=>exact⟨u,rfl,r⟩
theorem jX.none_of {o:Option Value}(r:jX none o):o=none:=by
 cases o with
 |none=>rfl
 |some u=>exact(show False from r).elim
theorem CK {v:V}{u:Value}(r:RelV v u):W.handedIn u=true:=by
 cases v with
 |non=>cases(show u=Value.none from r);rfl
 |bl b=>cases(show u=Value.bool b from r);rfl
 |int i=>obtain⟨t,e⟩:=(show ∃t,u=Value.int i t from r);cases e;rfl
 |str x=>obtain⟨t,e⟩:=(show ∃t,u=Value.str x t from r);cases e;rfl
 |lB b=>obtain⟨t,e⟩:=(show ∃t,u=Value.bytes b t from r);cases e;rfl
 |flt b=>obtain⟨t,e⟩:=(show ∃t,u=Value.float b t from r);cases e;rfl
 |ref a=>cases(show u=Value.ref a from r);rfl
 |ty n=>cases(show u=Value.type n from r);rfl
section
variable {P:Program}{w:World}{H H':Hp}{h h':Heap}{a C dx:Addr}{fs fs':List (Str × V)}
theorem l7 (J:iG P w H h)(e:H a=some (.ins C dx fs)):∃mA,oV h a dx C mA/\(∀f,jX (fs.lookup f) (mA f))/\PySem.Within mA (fs.map (·.1))/\fs.length<=1000/\H dx=some (.own a):=by
 obtain⟨d,z,L,U,mA,n,r,q⟩:=(show iN P w H h a (.ins C dx fs) from J a _ e);exact⟨mA,⟨U,n,L⟩,r,q,z,d⟩
end
structure Cls (K:W.Frag) (C:Addr):Prop where
 pg:W.plainGet K C Str.empty=true
 hd:W.hasDictIn K C=true
 po:W.plainOver K C=true
 sa:W.findIn K (.ref C) "__setattr__"=some (some (.builtin "object.__setattr__"))
theorem Cls.get {K:W.Frag}{C:Addr}(c:Cls K C)(f:Str):W.plainGet K C f=true:=c.pg
def mY (K:W.Frag) (C:Addr) (f:Str):Prop:=W.findIn K (.ref C) f=some none
theorem mY.taker {K:W.Frag}{C:Addr}{f:Str}(n:mY K C f):W.takerIn K C f=some none:=by
 unfold W.takerIn;rw[show W.findIn K (.ref C) f=some none from n];rfl
structure Meth (K:W.Frag) (C:Addr) (m:Str) (f:Addr):Prop where
 at_:W.findIn K (.ref C) m=some (some (.ref f))
 fn:W.isFn K (.ref f)=true
 kp:W.keepIn K (.ref f)=true
section
variable {X:Cx}{pins:List (Addr × Obj)}{σ:St}{H:Hp}{s:Shared}{a C dx:Addr}{fs:List (Str × V)}{f:Str}{v:V}{A:Around}{E:Value->Shared->Prop}
theorem IS {b:Bool}{Q:Value->Shared->Prop}(I:Inv X pins σ H s)(e:H a=some (.ins C dx fs))(c:Cls X.K C)(n:mY X.K C f)(l:fs.lookup f=some v)
 (h:∀u s',Inv X pins σ H s'->RelV v u->Q u s'):wpAny (model X.prog X.w) A (getAttr (.ref a) f b) Q E s:=by
 obtain⟨mA,O,r,_,_,_⟩:=l7 I.hok e;obtain⟨u,J,z⟩:=jX.some_of (v:=v) (o:=mA f) (by rw[<-l];exact r f);exact get_map I.iQ O (c.get f) c.hd n J (CK z) (h u _ (I.tok _) z)
theorem vA {m:Str}{g:Addr}{pl:Sem Bool}{Q:Value × List Value->Shared->Prop}(I:Inv X pins σ H s)(e:H a=some (.ins C dx fs))(c:Cls X.K C)(k:Meth X.K C m g)(l:fs.lookup m=none)
 (h:Q (.ref g,[.ref a]) s):wpAny (model X.prog X.w) A (getMethod (.ref a) m pl) Q E s:=by
 obtain⟨mA,O,r,_,_,_⟩:=l7 I.hok e;have z:mA m=none:=jX.none_of (by rw[<-l];exact r m);exact IM I.iQ O (c.get m) k.at_ k.fn z h
theorem IT {y:V}{u:Value}{Q:Unit->Shared->Prop}(I:Inv X pins σ H s)(e:H a=some (.ins C dx fs))(c:Cls X.K C)(n:mY X.K C f)(hl:fs.length<1000)(Y:RelV y u)
 (h:∀s',Inv X pins σ (upd H a (.ins C dx (j7 f y fs))) s'->Q () s'):wpAny (model X.prog X.w) A (setAttr (.ref a) f u) Q E s:=by
 obtain⟨mA,O,r,L,_,U⟩:=l7 I.hok e;have hz:(fs.map (·.1)).length<=sizeLine:=by rw[Q04,sizeLine_eq];omega
 refine IP I.iQ O c.sa c.po n.taker c.hd L hz λh' J sb=>h _ ?_;have hd:∃o,h'.get? dx=some o:=let⟨o,_,_,e',_⟩:=J.ns;⟨o,e'⟩
 refine I.write (x:=a) (e:=dx) (by rw[e];exact True.intro) (.inr U) (λb q hb z=>(sb.2 b hb).trans z) hd ?_;refine⟨by rw[fV O.ne];exact U,?_,O.ne,J.obj,_,J.ns,λg=>?_,λg hg=>?_⟩
 . have:=CJ f y fs;omega
 . show jX ((j7 f y fs).lookup g) (if g=f then some u else mA g);rw[CI];by_cases q:g=f
   . rw[if_pos q,if_pos q];exact Y
   . rw[if_neg q,if_neg q];exact r g
 . by_cases q:g=f
   . rw[q];exact(vz f y fs).1
   . refine(vz f y fs).2 g (L g λz=>hg ?_);show(if g=f then some u else mA g)=none;rw[if_neg q];exact z
theorem Inv.made (I:Inv X pins σ H s):Inv X pins σ (upd (upd H s.heap.objs.size (.own (s.heap.objs.size+1))) (s.heap.objs.size+1) (.ins C s.heap.objs.size []))
 { s with heap:=(s.heap.push W.emptyDict).push (W.instObj C s.heap.objs.size) }:=by
 have z:(s.heap.push W.emptyDict).get? s.heap.objs.size=some W.emptyDict:=Q0h s.heap rfl
 have L:((s.heap.push W.emptyDict).push (W.instObj C s.heap.objs.size)).get? (s.heap.objs.size+1)=some (W.instObj C s.heap.objs.size):=by
  have:=Q0h (s.heap.push W.emptyDict) (o:=W.instObj C s.heap.objs.size) rfl
  rwa [Q11] at this
 have U:(s.heap.push W.emptyDict).Ns s.heap.objs.size (λ_=>none):=⟨W.emptyDict,#[],_,z,rfl,(λe Y=>absurd Y (by simp)),λ_=>rfl⟩;have I1:=I.laid (a:=s.heap.objs.size) (o:=.own (s.heap.objs.size+1)) (h':=s.heap.push W.emptyDict) (t':=s.toks) (λb u q=>Q06 _ q) (Q00 _) ⟨_,z⟩;refine I1.laid (a:=s.heap.objs.size+1) (o:=.ins C s.heap.objs.size []) (t':=s.toks) (λb u q=>Q06 _ q) (Q1s (Q11 _ _)) ?_;have J:s.heap.objs.size≠s.heap.objs.size+1:=Q08 (Q12 _);refine⟨by rw[fV J,fZ],Q0g _,J,L,λ_=>none,(Heap.Ns1.of_empty U).at λo q=>Q06 _ q,λ_=>True.intro,λy hy=>absurd rfl hy⟩
theorem CL {prog:Program}{w:World}{env:Env}{e:Expr}{f:Str}{pos:Pos}{s:Shared}{Q:Value->Shared->Prop}(J:attributeBase e f env (eval e env)=eval e env)
 (h:wpAny (model prog w) A (eval e env) (λo z=>wpAny (model prog w) A (getAttr o f true) Q E z) E s):wpAny (model prog w) A (eval (.Attribute e f pos) env) Q E s:=
 Attribute_any_ h (by rw[arm_eval_Attribute,J])
end
def IU (K:W.Frag) (ta:TE) (f:Str):TE:=λσ H Q=>ta σ H λx H1=>∃a C dx fs v,x=.ref a/\H1 a=some (.ins C dx fs)/\Cls K C/\mY K C f/\fs.lookup f=some v/\Q v H1
def IV (K:W.Frag) (ta tv:TE) (f:Str):TS:=λD σ H=>tv σ H λy H1=>ta σ H1 λx H2=>∃a C dx fs,x=.ref a/\H2 a=some (.ins C dx fs)/\Cls K C/\mY K C f/\fs.length<1000/\
 D.nx σ (upd H2 a (.ins C dx (j7 f y fs)))
section
variable {X:Cx}{o e value:Expr}{f:Str}{pos pos' tpos:Pos}{ta tv:TE}
theorem kq (z:PE X e ta)(J:attributeBase e f X.env (eval e X.env)=eval e X.env):PE X (.Attribute e f pos) (IU X.K ta f):=by
 intro pins s σ H Q I h;refine CL J (gy (z pins s σ H _ I h) λu s1 zq=>?_);obtain⟨x,H1,L,U,a,C,dx,fs,v,ex,Y,c,n,l,q⟩:=zq;subst ex;obtain rfl:u=Value.ref a:=U;exact IS L Y c n l λu' s2 I2 ru=>⟨v,H1,I2,ru,q⟩
theorem vB (z:PE X o ta)(J:PE X value tv)(L:swapsWith value (some (.Attribute o f pos')) pos.line X.env=pure false):PS X (.Assign [.Attribute o f pos'] value pos) (IV X.K ta tv f):=by
 intro pins s σ H D I h;refine plainObj_wpAny_Assign_Attribute (gy (J pins s σ H _ I h) λu U ⟨y,H1,Y,ry,q⟩=>gy (z pins U σ H1 _ Y q) λov s2 zq=>?_) L;obtain⟨x,H2,I2,rx,a,C,dx,fs,ex,ea,c,n,l,q2⟩:=zq;subst ex;obtain rfl:ov=Value.ref a:=rx;exact IT I2 ea c n l ry λs3 I3=>⟨σ,_,I3,q2⟩
end
section
variable {X:Cx}{pins:List (Addr × Obj)}{σ:St}{H:Hp}{s:Shared}{A:Around}{E:Value->Shared->Prop}{Q:Value->Shared->Prop}{c:Value}{b:Bool}
inductive kJ (K:W.Frag) (H:Hp):V->Value->Prop where
 |non:kJ K H .non (.type "NoneType")
 |bl (x:Bool):kJ K H (.bl x) (.type "bool")
 |int (i:Int):kJ K H (.int i) (.type "int")
 |str (x:Str):kJ K H (.str x) (.type "str")
 |flt (x:UInt64):kJ K H (.flt x) (.type "float")
 |lst {a:Addr} {xs:List V} (e:H a=some (.lst xs)):kJ K H (.ref a) (.type "list")
 |i4 {a:Addr} {o:Obj} {xs:List V} (e:H a=some (.i4 o (.lst xs))):kJ K H (.ref a) (.type "list")
 |tup {a:Addr} {xs:List V} (e:H a=some (.tup xs)):kJ K H (.ref a) (.type "tuple")
 |dK {a:Addr} {kvs:List (Key × V)} (e:H a=some (.dK kvs)):kJ K H (.ref a) (.type "dict")
 |dT {a:Addr} {kvs:List (List Key × V)} (e:H a=some (.dT kvs)):kJ K H (.ref a) (.type "dict")
 |ins {a C dx:Addr} {fs:List (Str × V)} (e:H a=some (.ins C dx fs)) (cl:Cls K C) (ha:W.findIn K (.ref C) "__class__"=some (some (.builtin "object.__class__")))
   (hn:W.specialIn K (.builtin "object.__class__") "__get__"=some (some (.builtin "getset_descriptor.__get__"))) (htk:W.takesIn K (.builtin "object.__class__")=some true)
   (hm:W.mroIn K C (.type "object")=some true):kJ K H (.ref a) (.ref C)
theorem IW {x:V}{u t:Value}(I:Inv X pins σ H s)(L:RelV x u)(ty:kJ X.K H x t)(e:W.kitOne X.K t c=some b)(h:∀tk,Q (.bool b) { s with toks:=tk }):
 wpAny (model X.prog X.w) A (call (.builtin "isinstance") [u,c]) Q E s:=by
 cases ty with
 |non=>cases(show u=Value.none from L);exact W.kia_one W.kitx_none I.iQ True.intro e (λz=>nomatch z) h
 |bl y=>cases(show u=Value.bool y from L);exact W.kia_one W.kitx_bool I.iQ True.intro e (λz=>nomatch z) h
 |int i=>obtain⟨t,q⟩:=(show ∃t,u=Value.int i t from L);cases q;exact W.kia_one W.kitx_int I.iQ True.intro e (λz=>nomatch z) h
 |str y=>obtain⟨t,q⟩:=(show ∃t,u=Value.str y t from L);cases q;exact W.kia_one W.kitx_str I.iQ True.intro e (λz=>nomatch z) h
 |flt y=>obtain⟨t,q⟩:=(show ∃t,u=Value.float y t from L);cases q;exact W.kia_one W.kitx_float I.iQ True.intro e (λz=>nomatch z) h
 |@lst a xs U=>
  cases(show u=Value.ref a from L);obtain⟨_,_,n,_,h1⟩:=(show iN X.prog X.w H s.heap a (.lst xs) from I.hok a _ U);exact W.kia_one W.kitx_list I.iQ ⟨_,h1,rfl⟩ e (λz=>nomatch z) h
 |@i4 a ob xs U=>
  cases(show u=Value.ref a from L);obtain⟨_,_,_,n,_,h1⟩:=(show iN X.prog X.w H s.heap a (.i4 ob (.lst xs)) from I.hok a _ U);exact W.kia_one W.kitx_list I.iQ ⟨_,h1,rfl⟩ e (λz=>nomatch z) h
 |@tup a xs U=>
  cases(show u=Value.ref a from L);obtain⟨_,_,_,p⟩:=(show iN X.prog X.w H s.heap a (.tup xs) from I.hok a _ U);obtain⟨o,h1,h2,_⟩:=p;exact W.kia_one W.kitx_tuple I.iQ ⟨o,h1,h2⟩ e (λz=>nomatch z) h
 |@dK a kvs U=>
  cases(show u=Value.ref a from L);obtain⟨_,_,vs,_,p⟩:=(show iN X.prog X.w H s.heap a (.dK kvs) from I.hok a _ U);obtain⟨o,es,ep,h1,h2,_⟩:=p;exact W.kia_one W.kitx_dict I.iQ ⟨o,h1,h2.1⟩ e (λz=>nomatch z) h
 |@dT a kvs U=>
  cases(show u=Value.ref a from L);obtain⟨_,_,xs,_,o,es,ep,h1,h2,_⟩:=(show iN X.prog X.w H s.heap a (.dT kvs) from I.hok a _ U);exact W.kia_one W.kitx_dict I.iQ ⟨o,h1,h2.1⟩ e (λz=>nomatch z) h
 |@ins a C dx fs U cl ha hn Y hm=>
  cases(show u=Value.ref a from L);obtain⟨mA,O,_⟩:=l7 I.hok U;obtain⟨od,J,_⟩:=O.look;exact W.kia_one (W.kitx_own (cl.get _) cl.hd ha hn Y hm) I.iQ J e (λz=>nomatch z) h
end
structure ie (k:Nat) (A:Around):Prop where
 hd:A.handled=none
 dp:A.depth+3 * k+5<recursionLimit
 un:A.units+16 * k+200<cLine
theorem ie.mono {j k:Nat}{A:Around}(r:ie k A)(h:j<=k):ie j A:=⟨r.hd,by have:=r.dp;omega,by have:=r.un;omega⟩
theorem ie.deeper {k:Nat}{A:Around}(r:ie (k+1) A)(env:Env):ie k (A.deeper env):=
 ⟨r.hd,by have:=r.dp;show A.depth+1+3 * k+5<_;omega,by have:=r.un;show A.units+3+16 * k+200<_;omega⟩
theorem ie.in1 {k:Nat}{A:Around}(r:ie (k+1) A):ie k A.in1:=
 ⟨r.hd,by have:=r.dp;show A.depth+3 * k+5<_;omega,by have:=r.un;show A.units+1+16 * k+200<_;omega⟩
theorem IX {A:Around}{C:Addr}{us:List Value}{z:List (Str × Value)}:(A.under (.builtin "type.__call__" ⟨.ref C::us,z⟩)).depth=A.depth+1:=by
 first|rfl|simp[Around.under,Code.weight,Code.isCreation,Code.isGuard,Code.isCaller,Code.frames,Code.isFrame,guardIds]
theorem IY {A:Around}{C:Addr}{us:List Value}{z:List (Str × Value)}:(A.under (.builtin "type.__call__" ⟨.ref C::us,z⟩)).units=A.units+1:=by
 first|rfl|simp[Around.under,Code.cUnits,Code.frames,Code.isFrame]
theorem ie.make {k:Nat}{A:Around}(r:ie (k+1) A)(C:Addr)(us:List Value)(z:List (Str × Value)):ie k (A.under (.builtin "type.__call__" ⟨.ref C::us,z⟩)):=
 ⟨r.hd,by have:=r.dp;rw[IX];omega,by have:=r.un;rw[IY];omega⟩
theorem ie.depth {k:Nat}{A:Around}(r:ie k A):A.depth<recursionLimit:=by have:=r.dp;omega
theorem ie.units {k:Nat}{A:Around}(r:ie k A):A.units+64<cLine:=by have:=r.un;omega
theorem ie.vC {k:Nat}{A:Around}(r:ie k A):A.units<cLine:=by have:=r.un;omega
def jT:TA:=λ_ H Q=>Q [] H
def iO (ta:TE) (z:TA):TA:=λσ H Q=>ta σ H λx H1=>z σ H1 λxs H2=>Q (x::xs) H2
section
variable {X:Cx}{e:Expr}{es:List Expr}{te:TE}{t:TA}{pos:Pos}
theorem c_:PA X [] jT:=λ_ _ _ _ H Q I h=>Calls.spliced_nil ⟨[],H,I,.nil,h⟩
theorem a_ (z:PE X e te)(J:PA X es t)(L:starEach (e::es) X.env=(false,eval e X.env)::starEach es X.env:=by rfl):PA X (e::es) (iO te t):=by
 intro pos pins s σ H Q I h;rw[L];show wpAny _ _ (spliced ((false,eval e X.env)::backTo pos (starEach es X.env))) _ _ s;refine Calls.spliced_cons (gy (z pins s σ H _ I h) λu U zq=>?_);obtain⟨x,H1,Y,r1,q1⟩:=zq;exact gy (J pos pins U σ H1 _ Y q1) λus s2 ⟨xs,H2,I2,r2,q2⟩=>⟨x::xs,H2,I2,.cons r1 r2,q2⟩
def qY (t:TA):TE:=λσ H Q=>t σ H λxs H1=>xs.length<=sizeLine/\∀p,H1 p=none->Q (.ref p) (upd H1 p (.tup xs))
def IZ (t:TA):TE:=λσ H Q=>t σ H λxs H1=>xs.length<=sizeLine/\∀p,H1 p=none->Q (.ref p) (upd H1 p (.lst xs))
theorem jd {U}(h:PA X es t):PE X (.Tuple es U pos) (qY t):=by
 intro pins s σ H Q I Y;refine wpAny_Tuple_spliced (gy (h pos pins s σ H _ I Y) λus J ⟨xs,H1,L,r,z,q⟩=>⟨by rw[<-r.length];exact z,?_⟩);have hf:H1 J.heap.objs.size=none:=L.hok.fresh (Q00 _);refine⟨.ref J.heap.objs.size,upd H1 J.heap.objs.size (.tup xs),L.laid (t':=J.toks) (λb u e=>Q06 _ e) (Q00 _) ?_,rfl,q _ hf⟩;exact⟨z,us,r,⟨_,Q0h _ rfl,rfl,_,rfl⟩⟩
theorem iM (h:PA X es t):PE X (.List es pos) (IZ t):=by
 intro pins s σ H Q I U;refine wpAny_List_spliced (gy (h pos pins s σ H _ I U) λus J ⟨xs,H1,L,r,z,q⟩=>⟨by rw[<-r.length];exact z,?_⟩);have Y:H1 J.heap.objs.size=none:=L.hok.fresh (Q00 _);refine⟨.ref J.heap.objs.size,upd H1 J.heap.objs.size (.lst xs),L.laid (t':=J.toks) (λb u e=>Q06 _ e) (Q00 _) ?_,rfl,q _ Y⟩;exact⟨z,us,0,r,Q0h _ rfl⟩
end
noncomputable abbrev Sp:=List V->Hp->VK->XK->Prop
noncomputable abbrev jU:=List Env->Hp->Shared->XK->Value->Shared->Prop
structure oW (P:Program) (w:World) (K:W.Frag) (mg:Str->Option Value) (base:Heap) (A:Around) (outer:List Env) (s:Shared) (H:Hp):Prop where
 frames:A.frames=some outer
 mod:Mod K mg base
 bs:∀b o,base.get? b=some o->s.heap.get? b=some o/\H b=none
 l5:base.objs.size<=s.heap.objs.size
 kX:s.heap.FunFrames base outer
 nL:∀b∈frs outer,H b=none
 hok:iG P w H s.heap
 bare:AllBare s.gens
def CE (outer:List Env) (P:Program) (w:World) (H:Hp) (s:Shared) (Q:VK) (u:Value) (s':Shared):Prop:=
 ∃v H',s'.os=s.os/\AllBare s'.gens/\Un (frs outer) [] H H' s.heap s'.heap/\iG P w H' s'.heap/\RelV v u/\Q v H'
def CR (CX:jU) (outer:List Env) (P:Program) (w:World) (H:Hp) (s:Shared) (Q:VK) (E:XK) (r:Result) (s':Shared):Prop:=
 match r with
 | .ok (.ret u)=>CE outer P w H s Q u s'
 | .ok _=>False
 | .error e=>CX outer H s E e s'
structure e_ (P:Program) (w:World) (K:W.Frag) (mg:Str->Option Value) (base:Heap) (CX:jU) (k:Nat) (f:Addr) (fd:FuncData) (ps:List Str) (sp:Sp):Prop where
 len:∀vs H Q E,sp vs H Q E->vs.length=ps.length
 run:∀(A:Around) (outer:List Env) (s:Shared) (H:Hp) (args:Args) (us:List Value) (vs:List V) (Q:VK) (E:XK),ie k A->oW P w K mg base A outer s H->BindsTo s fd args (ps.zip us)->Vals vs us->sp vs H Q E->
  codeAny (model P w) A (.call (.ref f) args) (CR CX outer P w H s Q E) s
theorem e_.mono {P:Program}{w:World}{K:W.Frag}{mg:Str->Option Value}{base:Heap}{CX:jU}{j k:Nat}{f:Addr}{fd:FuncData}{ps:List Str}{sp:Sp}(F:e_ P w K mg base CX j f fd ps sp)(h:j<=k):
 e_ P w K mg base CX k f fd ps sp:=⟨F.len,λA outer s H args us vs Q E z=>F.run A outer s H args us vs Q E (z.mono h)⟩
theorem e_.imp {P:Program}{w:World}{K:W.Frag}{mg:Str->Option Value}{base:Heap}{CX:jU}{k:Nat}{f:Addr}{fd:FuncData}{ps:List Str}{sp z:Sp}(F:e_ P w K mg base CX k f fd ps sp)
 (h:∀vs H Q E,z vs H Q E->sp vs H Q E):e_ P w K mg base CX k f fd ps z:=
 ⟨λvs H Q E q=>F.len vs H Q E (h _ _ _ _ q),λA outer s H args us vs Q E J L U Y hs=>F.run A outer s H args us vs Q E J L U Y (h _ _ _ _ hs)⟩
theorem oW.make {P:Program}{w:World}{K:W.Frag}{mg:Str->Option Value}{base:Heap}{A:Around}{outer:List Env}{s:Shared}{H:Hp}(e:oW P w K mg base A outer s H)(C:Addr)(us:List Value)(z:List (Str × Value)):
 oW P w K mg base (A.under (.builtin "type.__call__" ⟨.ref C::us,z⟩)) outer s H:=⟨by first|exact e.frames|(simpa[Around.under,Code.envs,Code.isFrame,pushEnvs] using e.frames),e.mod,e.bs,e.l5,e.kX,e.nL,e.hok,e.bare⟩
section
variable {X:Cx}{pins:List (Addr × Obj)}{σ:St}{H:Hp}{s s':Shared}
theorem Inv.env0 (I:Inv X pins σ H s):oW X.prog X.w X.K X.mg X.base X.A X.stack s H:=
 ⟨I.ok.frames,I.ok.mod,I.bs,Q0b I.ok.l5 I.sz,I.stack,I.qQ,I.hok,I.bare⟩
theorem Inv.after {Q:VK}{u:Value}(I:Inv X pins σ H s)(h:CE X.stack X.prog X.w H s Q u s'):EP X pins σ Q u s':=by
 obtain⟨v,H',os,J,un,L,r,q⟩:=h;obtain⟨Y,g,d,t,U⟩:=s';obtain rfl:U=s.os:=os;exact⟨v,H',I.call (h':=Y) (g':=g) (d':=d) (t':=t) (ch:=[]) un L J (λb z=>absurd z (by simp)),r,q⟩
end
def mZ (sp:Sp) (ju:List V) (E:XK) (t:TA):TE:=λσ H Q=>t σ H λvs H1=>sp (vs++ju) H1 Q E
def vD (C:Addr) (m:Str) (sp:Sp) (ju:List V) (E:XK) (ta:TE) (t:TA):TE:=λσ H Q=>ta σ H λx H1=>∃a dx fs,x=.ref a/\H1 a=some (.ins C dx fs)/\fs.lookup m=none/\
 t σ H1 λvs H2=>sp (x::(vs++ju)) H2 Q E
def I0 (C:Addr) (sp:Sp) (ju:List V) (E:XK) (t:TA):TE:=λσ H Q=>t σ H λvs H1=>∀x dx,H1 x=none->H1 dx=none->dx≠x->
 sp (.ref x::(vs++ju)) (upd (upd H1 dx (.own x)) x (.ins C dx [])) (λv H2=>v=.non/\Q (.ref x) H2) E
def Binds (K:W.Frag) (fd:FuncData) (ps:List Str) (ds:List Value):Prop:=
 ∀(s:Shared) (us:List Value),K.In s.heap->(us++ds).length=ps.length->BindsTo s fd ⟨us,[]⟩ (ps.zip (us++ds))
theorem Binds.all {K:W.Frag}{fd:FuncData}{ps:List Str}(h:∀us:List Value,us.length=ps.length->bindArgs fd ⟨us,[]⟩=pure (ps.zip us)):Binds K fd ps []:=λs us _ hl=>by
 rw[Q0v] at hl ⊢;exact .of_eq (h us hl)
def Passes (CX:jU) (X:Cx) (E:XK):Prop:=∀(pins:List (Addr × Obj)) (σ:St) (H:Hp) (s:Shared) (e:Value) (s':Shared),Inv X pins σ H s->CX X.stack H s E e s'->X.xe e s'
section
variable {X:Cx}{CX:jU}{k:Nat}{f C:Addr}{fd:FuncData}{ps:List Str}{sp:Sp}{ju:List V}{ds:List Value}{E:XK}{x m:Str}{p pos apos:Pos}{e o:Expr}{es:List Expr}{ta:TE}{t:TA}
theorem vE {pins:List (Addr × Obj)}{σ:St}{H:Hp}{s:Shared}{Q:VK}{us:List Value}{vs:List V}(F:e_ X.prog X.w X.K X.mg X.base CX k f fd ps sp)(L:ie k X.A)(U:Binds X.K fd ps ds)(Y:Vals ju ds)(hx:Passes CX X E)
 (I:Inv X pins σ H s) (r:Vals vs us) (h:sp (vs++ju) H Q E):wpAny (model X.prog X.w) X.A (call (.ref f) us) (EP X pins σ Q) X.xe s:=by
 have J:Vals (vs++ju) (us++ds):=r.append Y;have hl:(us++ds).length=ps.length:=by rw[<-J.length];exact F.len _ _ _ _ h
 refine wpAny_call (codeAny_mono (F.run X.A X.stack s H ⟨us,[]⟩ (us++ds) (vs++ju) Q E L I.env0 (U s us I.iQ hl) J h) λr s' z=>?_)
 cases r with
 |error e=>exact hx pins σ H s e s' I z
 |ok fl=>
  cases fl with
  |ret u=>exact I.after z
  |next=>exact False.elim z
  |brk=>exact False.elim z
  |cont=>exact False.elim z
theorem qZ (F:e_ X.prog X.w X.K X.mg X.base CX k f fd ps sp)(U:ie k X.A)(Y:Gl X x)(hm:X.mg x=some (.ref f))(hk:W.keepIn X.K (.ref f)=true)(hb:Binds X.K fd ps ds)(hd:Vals ju ds)(hx:Passes CX X E)
 (ha:PA X (e::es) t) (z:(x == ("__debug__":Str))=false:=by decide) (he:starEach (e::es) X.env=(false,eval e X.env)::starEach es X.env:=by rfl) (J:(backTo pos (starEach es X.env)).any (·.1)=false:=by rfl):
 PE X (.Call (.Name x p) (e::es) [] pos) (mZ sp ju E t):=by
 intro pins s σ H Q I h;refine wpAny_Call_Name_kw (sS I Y hm ?_ z);refine W.callWith_K (h₀:=X.base) I.ok.mod.oH hk (gy (ha pos pins s σ H _ I h) λus s1 ⟨vs,H1,L,r,q⟩=>⟨L.iQ,?_⟩) he J;exact vE F U hb hd hx L r q
theorem oX {pl:Sem Bool}(he:PE X o ta)(c:Cls X.K C)(L:Meth X.K C m f)(F:e_ X.prog X.w X.K X.mg X.base CX k f fd ps sp)(hr:ie k X.A)(hb:Binds X.K fd ps ds)(hd:Vals ju ds)(hx:Passes CX X E)(ha:PA X (e::es) t)
 (z:starEach (e::es) X.env=(false,eval e X.env)::starEach es X.env:=by rfl) (J:(backTo pos (starEach es X.env)).any (·.1)=false:=by rfl)
 (ht:eval (.Call (.Attribute o m apos) (e::es) [] pos) X.env=(do
   let U <-eval o X.env
   standAt apos.atName
   let(f,first) <-holding [U] (getMethod U m pl)
   callWith pos f first (backTo pos (starEach (e::es) X.env)) (backToKw pos (keywordEach [] X.env))):=by rfl):
 PE X (.Call (.Attribute o m apos) (e::es) [] pos) (vD C m sp ju E ta t):=by
 intro pins s σ H Q I h;refine W.methodCall_KW (pl:=pl) (gy (he pins s σ H _ I h) λu s1 zq=>?_) ht;obtain⟨x,H1,Y,rx,a,dx,fs,ex,ea,l,q⟩:=zq;subst ex;obtain rfl:u=Value.ref a:=rx;refine vA Y ea c L l ?_;refine W.callWith_K (first:=[.ref a]) (h₀:=X.base) I.ok.mod.oH L.kp (gy (ha pos pins s1 σ H1 _ Y q) λus s2 ⟨vs,H2,I2,r,q2⟩=>⟨I2.iQ,?_⟩) z J;exact vE (us:=.ref a::us) (vs:=.ref a::vs) F hr hb hd hx I2 (.cons rfl r) q2
theorem I_ {pl:Sem Bool}(U:PE X o ta)(c:Cls X.K C)(J:Meth X.K C m f)(F:e_ X.prog X.w X.K X.mg X.base CX k f fd ps sp)(Y:ie k X.A)(hb:Binds X.K fd ps ds)(hd:Vals ju ds)(hx:Passes CX X E)
 (ht:eval (.Call (.Attribute o m apos) [] [] pos) X.env=(do
   let L <-eval o X.env
   standAt apos.atName
   let(f,first) <-holding [L] (getMethod L m pl)
   callWith pos f first (backTo pos (starEach [] X.env)) (backToKw pos (keywordEach [] X.env))):=by rfl):
 PE X (.Call (.Attribute o m apos) [] [] pos) (vD C m sp ju E ta jT):=by
 intro pins s σ H Q I h;refine W.methodCall_KW (pl:=pl) (gy (U pins s σ H _ I h) λu s1 zq=>?_) ht;obtain⟨x,H1,z,rx,a,dx,fs,ex,ea,l,q⟩:=zq;subst ex;obtain rfl:u=Value.ref a:=rx;refine vA z ea c J l ?_;exact W.callWith_K0 (first:=[.ref a]) z.iQ J.kp (vE (us:=[.ref a]) (vs:=[.ref a]) F Y hb hd hx z (.cons rfl .nil) q)
structure Mk (K:W.Frag) (C f:Addr):Prop where
 makes:W.makesIn K C=true
 init:W.findIn K (.ref C) "__init__"=some (some (.ref f))
 fn:W.isFn K (.ref f)=true
 kp:W.keepIn K (.ref C)=true
theorem Ja {pins:List (Addr × Obj)}{σ:St}{H:Hp}{s:Shared}{Q:VK}{us:List Value}{vs:List V}(M:Mk X.K C f)(F:e_ X.prog X.w X.K X.mg X.base CX k f fd ps sp)(Y:ie (k+1) X.A)(hb:Binds X.K fd ps ds)(hd:Vals ju ds)
 (hx:Passes CX X E) (I:Inv X pins σ H s) (r:Vals vs us)
 (h:∀x dx,H x=none->H dx=none->dx≠x->sp (.ref x::(vs++ju)) (upd (upd H dx (.own x)) x (.ins C dx [])) (λv H2=>v=.non/\Q (.ref x) H2) E):
 wpAny (model X.prog X.w) X.A (call (.ref C) us) (EP X pins σ Q) X.xe s:=by
 have L:=h (s.heap.objs.size+1) s.heap.objs.size (I.hok.fresh (Q1 _)) (I.hok.fresh (Q00 _)) (Q08 (Q12 _));have J:=Inv.made (C:=C) I;have U:Vals (V.ref (s.heap.objs.size+1)::(vs++ju)) (Value.ref (s.heap.objs.size+1)::(us++ds)):=.cons rfl (r.append hd)
 have hl:(Value.ref (s.heap.objs.size+1)::us++ds).length=ps.length:=by
  have e:=U.length;rw[F.len _ _ _ _ L] at e;exact e.symm
 refine wpAny_call (IQ (f:=f) I.iQ M.makes M.init (beq_iff_eq.mp M.fn) (codeAny_mono (F.run _ X.stack _ _ ⟨Value.ref (s.heap.objs.size+1)::us,[]⟩ (Value.ref (s.heap.objs.size+1)::(us++ds)) _ _ E (Y.make C us [])
  (J.env0.make C us []) (hb _ (Value.ref (s.heap.objs.size+1)::us) J.iQ hl) U L) λr s' z=>?_))
 cases r with
 |error e=>exact hx pins σ _ _ e s' J z
 |ok fl=>
  cases fl with
  |ret u=>
   obtain⟨v,H',I3,rv,ev,q3⟩:=J.after z;subst ev;exact⟨rv,⟨V.ref (s.heap.objs.size+1),H',I3,rfl,q3⟩⟩
  |next=>exact False.elim z
  |brk=>exact False.elim z
  |cont=>exact False.elim z
theorem vF (M:Mk X.K C f)(F:e_ X.prog X.w X.K X.mg X.base CX k f fd ps sp)(U:ie (k+1) X.A)(Y:Gl X x)(hm:X.mg x=some (.ref C))(hb:Binds X.K fd ps ds)(hd:Vals ju ds)(hx:Passes CX X E)
 (ha:PA X (e::es) t) (z:(x == ("__debug__":Str))=false:=by decide) (he:starEach (e::es) X.env=(false,eval e X.env)::starEach es X.env:=by rfl) (J:(backTo pos (starEach es X.env)).any (·.1)=false:=by rfl):
 PE X (.Call (.Name x p) (e::es) [] pos) (I0 C sp ju E t):=by
 intro pins s σ H Q I h;refine wpAny_Call_Name_kw (sS I Y hm ?_ z);refine W.callWith_K (h₀:=X.base) I.ok.mod.oH M.kp (gy (ha pos pins s σ H _ I h) λus s1 ⟨vs,H1,L,r,q⟩=>⟨L.iQ,?_⟩) he J;exact Ja M F U hb hd hx L r q
end
section
variable {X:Cx}{CX:jU}{k:Nat}{f C:Addr}{fd:FuncData}{ps ks:List Str}{sp:Sp}{E:XK}{x m:Str}{p pos apos kpos:Pos}{e o:Expr}{es:List Expr}{kws:List Keyword}{te ta:TE}{t tk:TA}{nm:Option Str}
variable {g:List Value->List Value->List Value}{gV:List V->List V->List V}
end
structure gM (N P:List Str) (sc:Scope):Prop where
 kind:sc.kind=.function
 co:sc.isCoroutine=false
 gen:sc.isGenerator=false
 nd:N.Nodup
 pre:N.take P.length=P
 par:∀x∈P,sc.names.lookup x=some .local\/sc.names.lookup x=some .cell
 Jb:∀y∈sc.names,y.2≠ .free
theorem O7 {N Q:List Str}{sc:Scope}(h1:sc.kind=.function:=by rfl)(h2:sc.isCoroutine=false:=by rfl)(z:sc.isGenerator=false:=by rfl)(J:N.Nodup:=by decide +kernel)(L:N.take Q.length=Q:=by rfl)(U:∀x∈Q,sc.names.lookup x=some .local\/sc.names.lookup x=some .cell:=by decide +kernel)(Y:∀y∈sc.names,y.2≠ .free:=by decide +kernel):gM N Q sc:=⟨h1,h2,z,J,L,U,Y⟩
theorem CM {kindOf:Str->Option NameKind}{x:Str}:∀{binds:List (Str × Value)}{m:Str->Option Value},(∀v,(x,v) ∉ binds)->bindL kindOf binds m x=m x
 |[],_,_=>rfl
 |(n,v)::r,m,h=>by
  unfold bindL;rw[CM λw hw=>h w (Q0d _ hw)];split
  . have:x≠n:=by rintro rfl;exact h v Q05
    simp[this]
  . rfl
theorem CO {kindOf:Str->Option NameKind}{x:Str}:∀{binds:List (Str × Value)}{m:Str->Option Value},(∀v,(x,v) ∉ binds)->bindC kindOf binds m x=m x
 |[],_,_=>rfl
 |(n,v)::r,m,h=>by
  unfold bindC;rw[CO λw hw=>h w (Q0d _ hw)];split
  . rfl
  . have:x≠n:=by rintro rfl;exact h v Q05
    simp[this]
theorem CP {kindOf:Str->Option NameKind}{x:Str}{v:Value}:∀{P:List Str}{vs:List Value}{i:Nat}{m:Str->Option Value},P.Nodup->P[i]? =some x->vs[i]? =some v->kindOf x=some .local->
 bindL kindOf (P.zip vs) m x=some v
 |[],_,_,_,_,h,_,_=>by simp at h
 |_::_,[],_,_,_,_,h,_=>by simp at h
 |p::P,w::vs,0,m,z,h1,h2,hk=>by
  simp at h1 h2;subst h1;subst h2;show bindL kindOf ((p,w)::P.zip vs) m p=_;unfold bindL;rw[CM λv J=>(List.nodup_cons.mp z).1 (Q1k J).1,if_pos hk];simp
 |p::P,w::vs,i+1,m,z,h1,h2,hk=>by
  show bindL kindOf ((p,w)::P.zip vs) m x=_;unfold bindL;exact CP (i:=i) (List.nodup_cons.mp z).2 (by simpa using h1) (by simpa using h2) hk
theorem CQ {kindOf:Str->Option NameKind}{x:Str}{v:Value}:∀{P:List Str}{vs:List Value}{i:Nat}{m:Str->Option Value},P.Nodup->P[i]? =some x->vs[i]? =some v->kindOf x≠some .local->
 bindC kindOf (P.zip vs) m x=some v
 |[],_,_,_,_,h,_,_=>by simp at h
 |_::_,[],_,_,_,_,h,_=>by simp at h
 |p::P,w::vs,0,m,z,h1,h2,hk=>by
  simp at h1 h2;subst h1;subst h2;show bindC kindOf ((p,w)::P.zip vs) m p=_;unfold bindC;rw[CO λv J=>(List.nodup_cons.mp z).1 (Q1k J).1,if_neg hk];simp
 |p::P,w::vs,i+1,m,z,h1,h2,hk=>by
  show bindC kindOf ((p,w)::P.zip vs) m x=_;unfold bindC;exact CQ (i:=i) (List.nodup_cons.mp z).2 (by simpa using h1) (by simpa using h2) hk
noncomputable def start (N:List Str) (vs:List V):St:=vs.map some++List.replicate (N.length - vs.length) none
noncomputable def gD (CX:jU) (P:Program) (w:World) (K:W.Frag) (mg:Str->Option Value) (base:Heap) (N:List Str) (qual:Str) (scope:Scope) (f:Addr) (J:Value) (A:Around) (outer:List Env) (s:Shared) (H:Hp) (E:XK):Cx where
 prog:=P
 w:=w
 K:=K
 mg:=mg
 base:=base
 A:=A.deeper (envOfC qual scope s.heap.objs.size f J)
 N:=N
 s₀:=s
 H₀:=H
 env:=envOfC qual scope s.heap.objs.size f J
 outer:=outer
 stack:=envOfC qual scope s.heap.objs.size f J::outer
 ex:=[]
 calm:=true
 fn:=λ_=>true
 pn:=[]
 xe:=λe s'=>wpAny (model P w) (A.deeper (envOfC qual scope s.heap.objs.size f J)) (leaving (envOfC qual scope s.heap.objs.size f J) e) (λ_ z=>CX outer H s E e z) (λL z=>CX outer H s E L z) s'
theorem CS {sc:Scope}{n:Nat}{x:Str}(h:sc.names.lookup x=some .cell):∃c,(cellsFrom n sc.names []).lookup x=some c:=by
 have q:=W.cellsFrom_some sc.names n [] (.inl h);exact Option.isSome_iff_exists.mp q
theorem Jc {CX:jU}{P:Program}{w:World}{K:W.Frag}{mg:Str->Option Value}{base:Heap}{N ps:List Str}{qual:Str}{scope:Scope}{f:Addr}{cd:Value}{A:Around}{outer:List Env}{s s1:Shared}{H:Hp}{E:XK}{us:List Value}{vs:List V}
 (S:gM N ps scope) (hd:A.handled=none) (J:oW P w K mg base A outer s H) (hl:vs.length=ps.length) (r:Vals vs us)
 (x:InCallC s s.heap.objs.size (bindL (envOfC qual scope s.heap.objs.size f cd).kindOf (ps.zip us) λ_=>none) (cellsFrom (s.heap.objs.size+1) scope.names []) (bindC (envOfC qual scope s.heap.objs.size f cd).kindOf (ps.zip us) λ_=>none) s1):
 Inv (gD CX P w K mg base N qual scope f cd A outer s H E) [] (start N vs) H s1:=by
 have aa:ps.length<=N.length:=by have:=congrArg List.length S.pre;rw[Q0r] at this;omega
 obtain⟨h1,tk,rfl,hk⟩:=x.done;have U:∀b:Addr,b ∉ (gD CX P w K mg base N qual scope f cd A outer s H E).ex:=λb z=>absurd (show b∈([]:List Addr) from z) (by simp)
 refine⟨⟨J.mod,S.kind,rfl,rfl,Q00 _,λy z c h1 h2=>?_,λy L=>?_,λy c _ h=>?_,λ_=>hd,Around.frames_deeper J.frames,.inr ⟨rfl,rfl⟩,λb z=>absurd z (U b),J.bs,J.l5,λb _ _=>U b,λb z=>absurd z (U b),J.kX,J.nL⟩,
  rfl,J.bare,Un.kept hk,⟨_,x.toInCall.ns,λi y v h1 h2 h3=>?_⟩,λy c h=>⟨_,x.cell y c h⟩,J.hok.fresh (Q00 _),λy c h=>?_,λp hp=>absurd (show p∈([]:List (Addr × Obj)) from hp) (by simp),J.hok.kept hk,?_⟩
 . exact name_of_addr x.apart (PySem.mem_of_lookup h1) (PySem.mem_of_lookup h2)
 . have L:scope.names.lookup y=some .cell\/scope.names.lookup y=some .free:=L;rcases L with L|L
   . exact CS L
   . exact absurd rfl (S.Jb _ (PySem.mem_of_lookup L))
 . exact Q0k (x.above y c (PySem.mem_of_lookup h))
 . have hi:i<vs.length:=by
    unfold start at h2;by_cases hi:i<vs.length
    . exact hi
    . rw[Q1t (by simpa using hi)] at h2;rw[Q3] at h2;split at h2 <;> cases h2
   have ha:vs[i]? =some v:=by
    unfold start at h2;rw[Q2d (by simpa using hi),Q0f] at h2
    cases e:vs[i]? with
    |none=>rw[e] at h2;cases h2
    |some a=>rw[e] at h2;cases h2;rfl
   obtain⟨u,hu,rv⟩:=r.get ha
   have hp:ps[i]? =some y:=by
    rw[<-S.pre,List.getElem?_take_of_lt (by omega)];exact h1
   have Y:ps.Nodup:=by rw[<-S.pre];exact S.nd.sublist (List.take_sublist _ _)
   refine⟨u,rv,?_⟩;rcases S.par y (Q0s hp) with k|k
   . exact .inl ⟨k,CP Y hp hu k⟩
   . obtain⟨c,e⟩:=CS (n:=s.heap.objs.size+1) k;refine .inr ⟨.inl k,c,e,?_⟩;have q:=x.cell y c e;rw[CQ Y hp hu (by show scope.names.lookup y≠_;rw[k];decide)] at q;exact q
 . exact J.hok.fresh (Q0k (x.above y c (PySem.mem_of_lookup h)))
 . unfold start;show _=N.length;rw[Q0a,Q04,Q1e];omega
theorem vG {CX:jU}{P:Program}{w:World}{K:W.Frag}{mg:Str->Option Value}{base:Heap}{k:Nat}{f:Addr}{name qual:Str}{L:Arguments}{body:List Stmt}{scope:Scope}{dV kV ab pm z ct oc:Value}{an od:Option Addr}
 {ae:Array (Option Value)} {N ps:List Str} {sp:Sp} (lk:K.lookup f=some ⟨oc,od,.func (W.fnOf name qual L body scope dV kV ab pm an z ct),ae⟩) (af:W.codeIn K z qual=true) (S:gM N ps scope)
 (len:∀vs H Q E,sp vs H Q E->vs.length=ps.length)
 (Y:∀(A:Around) (outer:List Env) (s:Shared) (H:Hp) (vs:List V) (Q:VK) (E:XK),ie k (A.deeper (envOfC qual scope s.heap.objs.size f z))->sp vs H Q E->
   ∃t,j4 (gD CX P w K mg base N qual scope f z A outer s H E) body t/\t { nx:=λ_ H'=>Q .non H',rt:=Q } (start N vs) H):
 e_ P w K mg base CX (k+1) f (W.fnOf name qual L body scope dV kV ab pm an z ct) ps sp:=by
 refine⟨len,λA outer s H args us vs Q E hr e0 hb r ac=>?_⟩;have hl:=len _ _ _ _ ac;have KX:K.In s.heap:=e0.mod.oH.keeps λb o e=>(e0.bs b o e).1;have ag:s.heap.NoLimit:=e0.mod.nolimit.keeps λb o e=>(e0.bs b o e).1
 have aa:∀y∈ps.zip us,scope.names.lookup y.1=some .local\/(scope.names.lookup y.1=some .cell/\((cellsFrom (s.heap.objs.size+1) scope.names []).lookup y.1).isSome=true):=λ⟨n,v⟩ hy=>by
  rcases S.par n (Q1k hy).1 with q|q
  . exact .inl q
  . exact .inr ⟨q,W.cellsFrom_some _ _ _ (.inl q)⟩
 refine codeAny_call_function hr.depth (KX _ _ lk) rfl S.co S.gen rfl (W.codeRec_of KX af) (hb _ _ _ _ ?_);refine wpAny_newFunctionEnv_cells S.kind aa λenv he s1 x=>?_;subst he;refine⟨ag.keeps x.toInCall.keep,codeAny_func ?_⟩;obtain⟨t,ht,hq⟩:=Y A outer s H vs Q E (hr.deeper _) ac;have I:Inv (gD CX P w K mg base N qual scope f z A outer s H E) [] (start N vs) H s1:=Jc S hr.hd e0 hl r x;refine Q0l (ht [] s1 (start N vs) H _ I hq) (λfl s' hs=>?_) λe s' hs=>hs
 have fin:∀{U:St} {H':Hp} {v:V} {u:Value},Inv (gD CX P w K mg base N qual scope f z A outer s H E) [] U H' s'->RelV v u->Q v H'->CE outer P w H s Q u s':=
  λ{U H' v u} J rv q=>⟨v,H',J.os,J.bare,J.base,J.hok,rv,q⟩
 cases fl with
 |ret u=>
  obtain⟨v,U,H',J,rv,q⟩:=hs;exact fin J rv q
 |next=>
  obtain⟨U,H',J,q⟩:=hs;exact fin (v:=V.non) (u:=Value.none) J rfl q
 |brk=>
  obtain⟨_,_,_,q⟩:=hs;exact False.elim q
 |cont=>
  obtain⟨_,_,_,q⟩:=hs;exact False.elim q
section
variable {X:Cx}{x:Str}{p pos:Pos}{e:Expr}{es:List Expr}{t:TA}{id T:String}{r:List V->Hp->VK->Prop}
def CU (r:List V->Hp->VK->Prop) (t:TA):TE:=λσ H Q=>t σ H λvs H1=>r vs H1 Q
theorem gA (hc:kI X (.builtin id) r)(L:Gl X x)(U:X.mg x=none)(Y:bootBuiltins x=some (.builtin id))(ha:PA X (e::es) t)(hn:x≠"__name__":=by decide)(z:(x == ("__debug__":Str))=false:=by decide)
 (he:starEach (e::es) X.env=(false,eval e X.env)::starEach es X.env:=by rfl) (J:(backTo pos (starEach es X.env)).any (·.1)=false:=by rfl):PE X (.Call (.Name x p) (e::es) [] pos) (CU r t):=by
 intro pins s σ H Q I h;refine wpAny_Call_Name_kw (mB I L U Y ?_ hn z);exact PyProof.Rows.callWith_builtin1 (gy (ha pos pins s σ H _ I h) λus s1 ⟨vs,H1,I1,r1,q1⟩=>hc pins s1 σ H1 vs us Q I1 r1 q1) he J
theorem jZ (hc:kI X (.type T) r)(L:Gl X x)(U:X.mg x=none)(Y:bootBuiltins x=some (.type T))(ha:PA X (e::es) t)(hn:x≠"__name__":=by decide)(z:(x == ("__debug__":Str))=false:=by decide)
 (he:starEach (e::es) X.env=(false,eval e X.env)::starEach es X.env:=by rfl) (J:(backTo pos (starEach es X.env)).any (·.1)=false:=by rfl):PE X (.Call (.Name x p) (e::es) [] pos) (CU r t):=by
 intro pins s σ H Q I h;refine wpAny_Call_Name_kw (mB I L U Y ?_ hn z);exact PyProof.Rows.callWith_type1 (gy (ha pos pins s σ H _ I h) λus s1 ⟨vs,H1,I1,r1,q1⟩=>hc pins s1 σ H1 vs us Q I1 r1 q1) he J
end
end L2
local macro_rules|`(tactic|ac_rfl)=>`(tactic|try dsimp only[L2.gD,L2.Cx.gE])
namespace HT
open PyProof.Rows
section
open SeqAt
open PySem.AutoSeq1 (wpAny_loadPart')
open MeetsSeq MeetsSeq2 MeetsSeq3
end
section
variable {prog:Program}{w:World}{A:Around}{E:Value->Shared->Prop}{s:Shared}
theorem Jd {t b:Addr}{vs z:List Value}{Q:Value->Shared->Prop}(ht:IsTup s.heap t vs.toArray)(hb:IsTup s.heap b z.toArray)(hv:vs≠[])
 (h1:z=[]->Q (.ref t) s) (h2:z≠[]->Q (.ref s.heap.objs.size) { s with heap:=s.heap.push { cls:=.type "tuple",data:=.seq (vs++z).toArray } })
 (hsz:vs.length+z.length<=sizeLine):wpAny (model prog w) A (binaryOp .Add (.ref t) (.ref b)) Q E s:=by
 obtain⟨⟨cls,dd,data,sl⟩,ho,hc,n,hd⟩:=id ht;obtain⟨⟨ab,L,data2,U⟩,J,Y,n2,aa⟩:=id hb;simp only at hc hd Y aa;subst hc hd Y aa;have e:vs.toArray++z.toArray=(vs++z).toArray:=by simp
 by_cases hw:z=[]
 . exact concat_meets ⟨_,ho,rfl⟩ ⟨_,J,rfl⟩ noFill_tuple_add seq_tuple_add PySem.F.slot_tuple_add PySem.F.entry_tuple_add (PySem.F.args_tuple_add_2 _ _)
    (tuple_addW1 t b vs.toArray z.toArray n n2 dd L sl U (by simpa using hv) (by simp[hw])) ⟨ho,J,h1 hw⟩
 . refine concat_meets ⟨_,ho,rfl⟩ ⟨_,J,rfl⟩ noFill_tuple_add seq_tuple_add PySem.F.slot_tuple_add PySem.F.entry_tuple_add (PySem.F.args_tuple_add_2 _ _)
    (tuple_addW2 t b vs.toArray z.toArray n n2 dd L sl U (by simpa using hv) (by simpa using hw) (by rw[Q07,Q07];exact hsz)) ⟨ho,J,?_⟩
   rw[e];exact h2 hw
noncomputable def gG (n d:Nat):Option Int->Nat
 |none=>d
 |some v=>if v<0 then(v+(n:Int)).toNat else min v.toNat n
theorem CV (n d:Nat):gG n d none=d:=rfl
theorem CY (n d k:Nat):gG n d (some (k:Int))=min k n:=by
 show(if(k:Int)<0 then((k:Int)+(n:Int)).toNat else min (k:Int).toNat n)=min k n;rw[if_neg (by omega),Q2e]
theorem Je (n d:Nat)(J:d<=n)(o:Option Int):gG n d o<=n:=by
 cases o with
 |none=>exact J
 |some v=>
  show(if v<0 then(v+(n:Int)).toNat else min v.toNat n)<=n;by_cases z:v<0
  . rw[if_pos z];omega
  . rw[if_neg z];exact Nat.min_le_right _ _
theorem CZ (v:Int)(n d:Nat):(if v<0 then max (v+(n:Int)) 0 else min v (n:Int))=((gG n d (some v):Nat):Int):=by
 show(if v<0 then max (v+(n:Int)) 0 else min v (n:Int))=(((if v<0 then(v+(n:Int)).toNat else min v.toNat n):Nat):Int);by_cases z:v<0
 . simp only[if_pos z];omega
 . simp only[if_neg z];omega
theorem Jf (lo hi:Option Int)(n:Nat):Builtin.Slice.sliceAdjust lo hi 1 (n:Int)=(((gG n 0 lo:Nat):Int),((gG n n hi:Nat):Int)):=by
 have h1:¬((1:Int)<0):=by omega
 unfold Builtin.Slice.sliceAdjust;simp only[h1,if_false];refine Prod.ext ?_ ?_
 . cases lo with
   |none=>rfl
   |some v=>exact CZ v n 0
 . cases hi with
   |none=>rfl
   |some v=>exact CZ v n n
theorem Jg (i j:Nat):Builtin.Slice.slicePlaces (i:Int) (j:Int) 1=j - i:=by
 unfold Builtin.Slice.slicePlaces;have h1:(1:Int) > 0:=by omega
 simp only[h1,if_true,Int.ediv_one];split <;> omega
theorem C0 {v:Value}{o:Option Int}{Q:Option Int->Shared->Prop}(p:IsPart v o)(h:Q o s):wpAny (model prog w) A (Builtin.Slice.slicePartIndex v) Q E s:=by
 cases p with
 |none=>exact slicePart_none h
 |int i t=>exact slicePart_int h
theorem C1 {Y:Addr}{L U:Value}{lo hi:Option Int}{n:Nat}{Q:Int × Int × Nat->Shared->Prop}(hs:s.heap.IsSliceOf Y L U .none)(pl:IsPart L lo)(pu:IsPart U hi)
 (h:Q (((gG n 0 lo:Nat):Int),1,gG n n hi - gG n 0 lo) s):wpAny (model prog w) A (Builtin.Slice.sliceApplied (.ref Y) (pure (n:Int))) Q E s:=by
 obtain⟨os,z,aa,J⟩:=id hs;unfold Builtin.Slice.sliceApplied Builtin.Slice.sliceFields;refine Q0 (Q0 (wpAny_field z J (x:=L) rfl (Q0 (wpAny_field z J (x:=U) rfl (Q0 (wpAny_field z J (x:=.none) rfl (Q02 ?_)))))));refine Q0 (slicePart_none ?_);show wpAny _ _ (if((1:Int) == 0)=true then _ else _) _ _ s;rw[if_neg (by decide)];refine Q0 (C0 pl (Q0 (C0 pu (Q0 (Q02 ?_)))));show wpAny _ _ (match Builtin.Slice.sliceAdjust lo hi 1 (n:Int) with|(lo,hi)=>pure (lo,(1:Int),Builtin.Slice.slicePlaces lo hi 1)) _ _ s;rw[Jf lo hi n];show wpAny _ _ (pure (((gG n 0 lo:Nat):Int),(1:Int),Builtin.Slice.slicePlaces ((gG n 0 lo:Nat):Int) ((gG n n hi:Nat):Int) 1)) _ _ s;rw[Jg];exact Q02 h
theorem Jh (xs:Array Value)(i k:Nat):((List.range k).filterMap λ(m:Nat)=>xs[((i:Int)+(m:Int) * 1).toNat]?).toArray=((xs.toList.drop i).take k).toArray:=by
 have e:(λ(m:Nat)=>xs[((i:Int)+(m:Int) * 1).toNat]?)=λm=>xs[i+m]? :=by
  funext m;have:((i:Int)+(m:Int) * 1).toNat=i+m:=by omega
  rw[this]
 rw[e];have:=pick_run xs i k;rw[List.filterMap_map] at this;have z:((λx=>xs[x]?) ∘ λx=>i+x)=λm=>xs[i+m]? :=rfl;rw[z] at this;rw[this]
theorem Ji {t L:Addr}{z:Array Value}{vl vu:Value}{lo hi:Option Int}{Q:Value->Shared->Prop}(ht:IsTup s.heap t z)(hs:s.heap.IsSliceOf L vl vu .none)(pl:IsPart vl lo)(pu:IsPart vu hi)
 (hw:¬(gG z.size 0 lo=0/\gG z.size z.size hi=z.size))
 (h:Q (.ref s.heap.objs.size) { s with heap:=s.heap.push { cls:=.type "tuple",data:=.seq ((z.toList.drop (gG z.size 0 lo)).take (gG z.size z.size hi - gG z.size 0 lo)).toArray } })
 (hsz:z.size<=sizeLine):wpAny (model prog w) A (getItem (.ref t) (.ref L)) Q E s:=by
 have J:sizeOk (.seq ((z.toList.drop (gG z.size 0 lo)).take (gG z.size z.size hi - gG z.size 0 lo)).toArray):=by
  show((z.toList.drop (gG z.size 0 lo)).take (gG z.size z.size hi - gG z.size 0 lo)).toArray.size<=sizeLine;rw[Q07,Q0r,Q13,Q1c];omega
 have hj:gG z.size z.size hi<=z.size:=Je _ _ (Q00 _) hi;obtain⟨os,U,Y,ac⟩:=id hs;have aa:s.TypeIs (.ref L) "slice":=⟨os,U,Y⟩;unfold getItem
 try with_reducible refine wpAny_holding ?_
 first|refine Q0 (Q02 ?_)|skip
 refine Q0 (wpAny_sequenceKey ht.typeIs (by decide) ?_)
 refine Q0 (wpAny_callSpecial?_slot (name:=Str.ofString "__getitem__") ht.typeIs PyProof.Rows.slot_tuple_getitem
  (wpAny_call_entry PyProof.Rows.slot_tuple_getitem ht.typeIs entry_tuple_getitem ?_ (args_tuple_getitem _ _)))
 show wpAny _ _ (Builtin.Tuple.tupleItemsOf (.ref t) >>= _) _ _ s;refine Q0 (tupleItemsOf_ ht ?_);refine Q0 (wpAny_typeOf aa ?_);rw[if_pos (by decide)];refine Q0 (C1 hs pl pu ?_)
 have ab:¬((((gG z.size 0 lo:Nat):Int) == 0 && (1:Int) == 1 && (gG z.size z.size hi - gG z.size 0 lo) == z.size)=true):=by
  intro q;rw[Bool.and_eq_true,Bool.and_eq_true] at q;have q1:((gG z.size 0 lo:Nat):Int)=0:=eq_of_beq q.1.1;have q2:gG z.size z.size hi - gG z.size 0 lo=z.size:=eq_of_beq q.2;exact hw ⟨by omega,by omega⟩
 show wpAny _ _ (if(((gG z.size 0 lo:Nat):Int) == 0 && (1:Int) == 1 && (gG z.size z.size hi - gG z.size 0 lo) == z.size)=true then _ else _) _ _ s;rw[if_neg ab,Jh]
 first
  |exact Q0 (m:=Builtin.Tuple.tupleExact _) (wpAny_newObj_type (Q02 ⟨_,rfl,Q02 h⟩) J)
  |exact Q0 (m:=Builtin.Tuple.tupleExact _) (wpAny_newObj_type (Q0 (Q02 (Q02 ⟨_,rfl,Q02 h⟩))) J)
  |exact Q0 (Q0 (m:=Builtin.Tuple.tupleExact _) (wpAny_newObj_type (Q02 (Q02 ⟨_,rfl,Q02 h⟩)) J))
  |exact Q0 (Q0 (m:=Builtin.Tuple.tupleExact _) (wpAny_newObj_type (Q02 ⟨_,rfl,Q02 h⟩) J))
end
end HT
namespace L2
open Spec PyProof.Rows
noncomputable abbrev TO:=St->Hp->(Option Int->Hp->Prop)->Prop
def PO (X:Cx) (e:Option Expr) (t:TO):Prop:=
 ∀(pins:List (Addr × Obj)) (s:Shared) (σ:St) (H:Hp) (Q:Option Int->Hp->Prop),Inv X pins σ H s->t σ H Q->
  wpAny (model X.prog X.w) X.A (evalPart e X.env) (λu s'=>∃o H',Inv X pins σ H' s'/\IsPart u o/\Q o H') X.xe s
def C2:TO:=λ_ H Q=>Q none H
def Jj (t:TE):TO:=λσ H Q=>t σ H λx H1=>∃i,x=.int i/\Q (some i) H1
section
variable {X:Cx}{e:Expr}{te:TE}{lo hi:Option Expr}{tl th:TO}{pos p2:Pos}
theorem oY:PO X none C2:=by
 intro pins s σ H Q I h;rw[evalPart_none];exact Q02 ⟨none,H,I,.none,h⟩
theorem oZ (h:PE X e te):PO X (some e) (Jj te):=by
 intro pins s σ H Q I hw;rw[evalPart_some];refine gy (h pins s σ H _ I hw) λu U zq=>?_;obtain⟨x,H1,z,J,L⟩:=zq;obtain⟨i,rfl,q⟩:=L;obtain⟨t,rfl⟩:=J;exact⟨some i,H1,z,.int i t,q⟩
def q_ (X:Cx) (r:V->Option Int->Option Int->Hp->VK->Prop):Prop:=
 ∀(pins:List (Addr × Obj)) (s:Shared) (σ:St) (H:Hp) (x:V) (v z J:Value) (lo hi:Option Int) (L:Addr) (Q:VK),Inv X pins σ H s->RelV x v->s.heap.IsSliceOf L z J .none->IsPart z lo->IsPart J hi->r x lo hi H Q->
  ∃T id,typeLookup (.type T) "__getitem__"=pure (some (.builtin id))/\s.TypeIs v T/\wpAny (model X.prog X.w) X.A (getItem v (.ref L)) (EP X pins σ Q) X.xe s
def Jk (r:V->Option Int->Option Int->Hp->VK->Prop) (te:TE) (tl th:TO):TE:=λσ H Q=>te σ H λx H1=>tl σ H1 λl H2=>th σ H2 λu z=>r x l u z Q
theorem o4 {r:V->Option Int->Option Int->Hp->VK->Prop}(Y:q_ X r)(he:PE X e te)(hl:PO X lo tl)(hu:PO X hi th):PE X (.Subscript e (.Slice lo hi none p2) pos) (Jk r te tl th):=by
 intro pins s σ H Q I h;refine Subscript_ (gy (he pins s σ H _ I h) λv s1 zq=>?_);obtain⟨x,H1,I1,r1,q1⟩:=zq;refine wpAny_Slice (gy (hl pins s1 σ H1 _ I1 q1) λJ s2 ⟨l,H2,I2,pl,q2⟩=>gy (hu pins s2 σ H2 _ I2 q2) λL z zq=>?_);obtain⟨u,U,I3,pu,q3⟩:=zq;rw[evalPart_none];refine Q02 ?_;have I4:Inv X pins σ U { z with heap:=z.heap.push { cls:=.type "slice",data:=.fields #[J,L,.none] } }:=I3.kept (t':=z.toks) λb ob q=>Q06 _ q;obtain⟨T,id,hT,ht,hg⟩:=Y pins { z with heap:=z.heap.push { cls:=.type "slice",data:=.fields #[J,L,.none] } } σ U x v J L l u z.heap.objs.size Q I4 r1 (Heap.IsSliceOf.new ..) pl pu q3;show wpAny (model X.prog X.w) X.A (subscriptTail e (.Slice lo hi none p2) v (.ref z.heap.objs.size)) (EP X pins σ Q) X.xe { z with heap:=z.heap.push { cls:=.type "slice",data:=.fields #[J,L,.none] } };exact tail_any (ops:=[.ref z.heap.objs.size,v]) ht hT hg (by with_unfolding_all rfl)
noncomputable def j8 (xs:List V) (lo hi:Option Int):List V:=(xs.drop (HT.gG xs.length 0 lo)).take (HT.gG xs.length xs.length hi - HT.gG xs.length 0 lo)
theorem vH (xs:List V)(lo hi:Option Int):(j8 xs lo hi).length<=xs.length:=by
 unfold j8;rw[Q0r,Q13];omega
def Jl (K:W.Frag):V->Option Int->Option Int->Hp->VK->Prop:=λx lo hi H Q=>∃a xs,x=.ref a/\fU K H a xs/\
 ¬(HT.gG xs.length 0 lo=0/\HT.gG xs.length xs.length hi=xs.length)/\∀p,H p=none->Q (.ref p) (upd H p (.tup (j8 xs lo hi)))
theorem Jm:q_ X (Jl X.K):=by
 intro pins s σ H x v vl vu lo hi sl Q I U Y pl pu h;obtain⟨a,xs,rfl,hx,hw,q⟩:=h
 cases U;obtain⟨J,r,ht,L⟩:=I.tuple hx;have z:J.toArray.size=xs.length:=by rw[Q07];exact r.length.symm
 refine⟨"tuple",_,PyProof.Rows.slot_tuple_getitem.lookup,ht.typeIs,?_⟩;refine HT.Ji ht Y pl pu (by rw[z];exact hw) ?_ (by rw[z];exact L);rw[z];refine⟨.ref s.heap.objs.size,_,I.laid (t':=s.toks) (o:=.tup (j8 xs lo hi)) (λb ob q=>Q06 _ q) (Q00 _) ?_,rfl,q _ (I.hok.fresh (Q00 _))⟩;exact⟨Q0b (vH xs lo hi) L,_,(r.drop (HT.gG xs.length 0 lo)).take (HT.gG xs.length xs.length hi - HT.gG xs.length 0 lo),IsTup.new _ _⟩
def C3 (K:W.Frag):R2:=λx y H Q=>∃a b xs ys,x=.ref a/\y=.ref b/\fU K H a xs/\fU K H b ys/\xs≠[]/\xs.length+ys.length<=sizeLine/\
 (ys=[]->Q (.ref a) H)/\(ys≠[]->∀p,H p=none->Q (.ref p) (upd H p (.tup (xs++ys))))
theorem Vals.vI {xs:List V}{us:List Value}(r:Vals xs us):us=[]↔xs=[]:=by
 cases r with
 |nil=>simp
 |cons _ _=>simp
theorem C4:jc X (binaryOp .Add) (C3 X.K):=by
 intro pins s σ H x y v u Q I rx ry h;obtain⟨a,b,xs,ys,rfl,rfl,ha,hb,hx,U,q1,q2⟩:=h
 cases rx
 cases ry;obtain⟨aa,L,p1,_⟩:=I.tuple ha;obtain⟨Y,J,p2,_⟩:=I.tuple hb;refine HT.Jd p1 p2 (λz=>hx (L.vI.mp z)) (λz=>⟨.ref a,H,I,rfl,q1 (J.vI.mp z)⟩) (λz=>?_) (by rw[<-L.length,<-J.length];exact U);refine⟨.ref s.heap.objs.size,_,I.laid (t':=s.toks) (o:=.tup (xs++ys)) (λb ob q=>Q06 _ q) (Q00 _) ?_,rfl,q2 (λw=>z (J.vI.mpr w)) _ (I.hok.fresh (Q00 _))⟩;exact⟨by rw[Q0a];exact U,_,L.append J,IsTup.new _ _⟩
end
noncomputable def m4 (n:Nat) (i:Int):Option Nat:=if 0<=i then(if i<n then some i.toNat else none) else if -(n:Int)<=i then some (i+n).toNat else none
noncomputable def jo {α:Type}(xs:List α) (i:Int):Option α:=(m4 xs.length i).bind λj=>xs[j]?
theorem C5 {n:Nat}{i:Int}{j:Nat}(h:m4 n i=some j):seqIndex? i n=some j/\j<n/\ -(n:Int)<=i/\i<n:=by
 unfold m4 at h;by_cases z:0<=i
 . rw[if_pos z] at h;by_cases h1:i<n
   . rw[if_pos h1] at h;have e:i.toNat=j:=Option.some.inj h;exact⟨by rw[seqIndex_of z h1,e],by omega,by omega,h1⟩
   . rw[if_neg h1] at h;cases h
 . rw[if_neg z] at h;by_cases h1: -(n:Int)<=i
   . rw[if_pos h1] at h;have e:(i+n).toNat=j:=Option.some.inj h;exact⟨by rw[seqIndex_neg (by omega) h1,e],by omega,h1,by omega⟩
   . rw[if_neg h1] at h;cases h
theorem vJ {α:Type}{xs:List α}{i:Int}{v:α}(h:jo xs i=some v):∃j,seqIndex? i xs.length=some j/\xs[j]? =some v/\j<xs.length/\ -(xs.length:Int)<=i/\i<xs.length:=by
 unfold jo at h
 cases e:m4 xs.length i with
 |none=>rw[e] at h;cases h
 |some j=>
  rw[e] at h;obtain⟨h1,h2,z,J⟩:=C5 e;exact⟨j,h1,h,h2,z,J⟩
theorem lF {α:Type}{xs:List α}{j:Nat}{v:α}(h:xs[j]? =some v):jo xs (j:Int)=some v:=by
 have z:j<xs.length:=(List.getElem?_eq_some_iff.mp h).1
 have e:m4 xs.length (j:Int)=some j:=by
  unfold m4;rw[if_pos (by omega),if_pos (by omega)];simp
 unfold jo;rw[e];exact h
def vK (b:Expr):Prop:=∀o i,subscripted b false o i=operate [o,i] (getItem o i)
def tE (X:Cx) (r:R2):Prop:=
 ∀(value z:Expr) (pins:List (Addr × Obj)) (s:Shared) (σ:St) (H:Hp) (x y:V) (v u:Value) (Q:VK),Inv X pins σ H s->RelV x v->RelV y u->r x y H Q->
  subscripted z false v u=operate [v,u] (getItem v u)->wpAny (model X.prog X.w) X.A (subscriptTail value z v u) (EP X pins σ Q) X.xe s
def vL (X:Cx) (id:String) (r:V->List V->Hp->VK->Prop):Prop:=
 ∀(pins:List (Addr × Obj)) (s:Shared) (σ:St) (H:Hp) (x:V) (xs:List V) (v:Value) (us:List Value) (Q:VK),Inv X pins σ H s->RelV x v->Vals xs us->r x xs H Q->
  wpAny (model X.prog X.w) X.A (call (.builtin id) (v::us)) (EP X pins σ Q) X.xe s
section
variable {X:Cx}{a b:Expr}{ta tb:TE}{pos:Pos}
theorem m7 {r:R2}(z:tE X r)(J:PE X a ta)(L:PE X b tb)(U:vK b):PE X (.Subscript a b pos) (iC r ta tb):=by
 intro pins s σ H Q I h;exact Subscript_ (vp J L I h λv u Y x y H2 I2 rx ry q=>z a b pins Y σ H2 x y v u Q I2 rx ry q (U _ _))
def C6 (K:W.Frag):R2:=λx y H Q=>∃p xs i v,x=.ref p/\y=.int i/\fY K H p xs/\jo xs i=some v/\Q v H
def jq (K:W.Frag):R2:=λx y H Q=>∃p xs i v,x=.ref p/\y=.int i/\fU K H p xs/\jo xs i=some v/\Q v H
def Jn:R2:=λx y H Q=>∃z i c,x=.str z/\y=.int i/\z.length<=sizeLine/\jo z.cps.toList i=some c/\Q (.str ⟨#[c]⟩) H
theorem Jo:tE X (C6 X.K):=by
 intro value Y pins s σ H x y v u Q I rx ry h hs;obtain⟨p,xs,i,z,rfl,rfl,hq,he,q⟩:=h
 cases rx;obtain⟨t,rfl⟩:=ry;obtain⟨L,r,pl,hz⟩:=I.list hq;obtain⟨j,h1,h2,h3,h4,h5⟩:=vJ he;obtain⟨w,ew,U⟩:=r.get h2;have hl:=r.length;have hn:=pO;have fin:EP X pins σ Q w s:=⟨z,H,I,U,q⟩;by_cases h0:0<=i
 . have J:i.toNat=j:=by
    rw[seqIndex_of h0 h5] at h1;exact Option.some.inj h1
   exact item_listR pl.isList h0 (by omega) (by rw[J];simpa using ew) fin hs
 . have J:(i+(L.toArray.size:Int)).toNat=j:=by
    rw[seqIndex_neg (by omega) h4] at h1;rw[Q07,<-hl];exact Option.some.inj h1
   exact subscriptTail_builtinR (x:=w) pl.isList.typeIs slot_list_getitem.lookup
    (wpAny_getItem_list_neg (Q:=λr s'=>r=w/\EP X pins σ Q r s') pl.isList (by omega) (by rw[Q07] <;> omega) (by omega) (by rw[J];simpa using ew) ⟨rfl,fin⟩) hs
theorem Jp:tE X (jq X.K):=by
 intro value L pins s σ H x y v u Q I U Y h hs;obtain⟨p,xs,i,z,rfl,rfl,hq,he,q⟩:=h
 cases U;obtain⟨t,rfl⟩:=Y;obtain⟨aa,r,pl,hz⟩:=I.tuple hq;obtain⟨j,h1,h2,h3,h4,h5⟩:=vJ he;obtain⟨w,ew,J⟩:=r.get h2;have hl:=r.length;have hn:=pO;have fin:EP X pins σ Q w s:=⟨z,H,I,J,q⟩
 exact subscriptTail_builtinR (x:=w) pl.typeIs slot_tuple_getitem.lookup
  (getItem_tuple (j:=j) (Q:=λr s'=>r=w/\EP X pins σ Q r s') pl (by omega) (by omega) (by rw[Q07,<-hl];exact h1) (by simpa using ew) ⟨rfl,fin⟩) hs
theorem o5:tE X Jn:=by
 intro value J pins s σ H x y v u Q I L U h Y;obtain⟨z,i,c,rfl,rfl,hz,he,q⟩:=h;obtain⟨t,rfl⟩:=L;obtain⟨t',rfl⟩:=U;obtain⟨j,h1,h2,h3,h4,h5⟩:=vJ he;have hl:z.cps.toList.length=z.length:=by simp[Str.length]
 rw[hl] at h1 h4 h5;have hn:=pO
 exact tail_any (typeIs_str s z t) slot_str_getitem.lookup (getItem_str (c:=c) (by
  have e1:decide (i< -(2 ^ 63:Int))=false:=decide_eq_false (by omega);have e2:decide (i ≥ 2 ^ 63)=false:=decide_eq_false (by omega);rw[e1,e2,Bool.or_false]) (by rw[h1];simpa using h2) ⟨.str ⟨#[c]⟩,H,I.tok _,⟨_,rfl⟩,q⟩) Y
theorem Jq (z:List Value)(n j:Nat)(u:Value):Obj.mapSeq (·.setIfInBounds j u) { cls:=.type "list",data:=.seq z.toArray n }={ cls:=.type "list",data:=.seq (z.set j u).toArray n }:=by
 simp[Obj.mapSeq]
theorem Inv.lst {pins:List (Addr × Obj)}{σ:St}{H:Hp}{s:Shared}{p:Addr}{xs:List V}(I:Inv X pins σ H s)(h:H p=some (.lst xs)):
 ∃(J:List Value) (n:Nat),Vals xs J/\s.heap.get? p=some { cls:=.type "list",data:=.seq J.toArray n }/\xs.length<=sizeLine:=by
 obtain⟨z,J,n,r,e⟩:=I.hok p _ h;exact⟨J,n,r,e,z⟩
theorem Inv.Jr {pins:List (Addr × Obj)}{σ:St}{H:Hp}{s:Shared}{p:Addr}{xs ys:List V}{z its':List Value}{n J:Nat}{f:Obj->Obj}(I:Inv X pins σ H s)(h:H p=some (.lst xs))
 (U:s.heap.get? p=some { cls:=.type "list",data:=.seq z.toArray n }) (L:f { cls:=.type "list",data:=.seq z.toArray n }={ cls:=.type "list",data:=.seq its'.toArray J }) (r:Vals ys its') (Y:ys.length<=sizeLine) (t:Nat):
 Inv X pins σ (upd H p (.lst ys)) { s with heap:=s.heap.update p f,toks:=t }:=by
 have e:(s.heap.update p f).get? p=some { cls:=.type "list",data:=.seq its'.toArray J }:=by
  rw[Q1l f U (by rw[L] <;> rfl),L]
 refine I.write (x:=p) (e:=p) (by rw[h];trivial) (.inl rfl) (λb u hb q=>(Q14 _ _ (Ne.symm hb)).trans q) ⟨_,e⟩ ?_;exact⟨Y,its',J,r,e⟩
def Js:V->V->V->Hp->(Hp->Prop)->Prop:=λo i v H Q=>∃p xs k j,o=.ref p/\i=.int k/\H p=some (.lst xs)/\m4 xs.length k=some j/\Q (upd H p (.lst (xs.set j v)))
theorem set_list:Cq X Js:=by
 intro pins s σ H o i v ov iv u Q I ro ri rv h;obtain⟨p,xs,k,j,rfl,rfl,hp,hj,q⟩:=h
 cases ro;obtain⟨t,rfl⟩:=ri;obtain⟨z,n,r,J,hz⟩:=I.lst hp;obtain⟨h1,h2,L,U⟩:=C5 hj;have hl:=r.length;have hn:=pO
 have Y:Inv X pins σ (upd H p (.lst (xs.set j v))) { s with heap:=s.heap.update p (Obj.mapSeq (·.setIfInBounds j u)) }:=
  I.Jr hp J (Jq z n j u) (r.set rv j) (by rw[List.length_set];exact hz) s.toks
 by_cases h0:0<=k
 . have hk:k.toNat=j:=by
    rw[seqIndex_of h0 U] at h1;exact Option.some.inj h1
   exact W.ki_setAt J h0 (by omega) (by rw[Q07,<-hl];exact U) (by rw[hk];exact⟨_,Y,q⟩)
 . have hk:(k+(z.toArray.size:Int)).toNat=j:=by
    rw[seqIndex_neg (by omega) L] at h1;rw[Q07,<-hl];exact Option.some.inj h1
   exact W.ki_setBack J (by omega) (by rw[Q07,<-hl];exact L) (by omega) (by rw[hk];exact⟨_,Y,q⟩)
theorem Jt (lo hi:Option Int)(n:Nat):(sliceBounds lo hi none n).1=((HT.gG n 0 lo:Nat):Int)/\(sliceBounds lo hi none n).2.1=((HT.gG n n hi:Nat):Int)/\(sliceBounds lo hi none n).2.2=1:=by
 refine⟨?_,?_,rfl⟩
 . cases lo with
   |none=>simp[sliceBounds,HT.gG]
   |some i=>
    simp only[sliceBounds,HT.gG,Q30,show(1:Int) > 0 by decide,if_true];by_cases h:i<0
    . simp only[h,if_true] <;> omega
    . simp only[h,if_false] <;> omega
 . cases hi with
   |none=>simp[sliceBounds,HT.gG]
   |some i=>
    simp only[sliceBounds,HT.gG,Q30,show(1:Int) > 0 by decide,if_true];by_cases h:i<0
    . simp only[h,if_true] <;> omega
    . simp only[h,if_false] <;> omega
theorem Ju (z:List Value)(lo hi:Option Int):slicePick z.toArray lo hi none=((z.drop (HT.gG z.length 0 lo)).take (HT.gG z.length z.length hi - HT.gG z.length 0 lo)).toArray:=by
 obtain⟨h1,h2,J⟩:=Jt lo hi z.toArray.size;unfold slicePick;rw[h1,h2,J];simp only[sliceRange_one,pick_run,Q07] <;> rfl
def Jv (K:W.Frag):V->Option Int->Option Int->Hp->VK->Prop:=λx lo hi H Q=>∃a xs,x=.ref a/\fY K H a xs/\∀p,H p=none->Q (.ref p) (upd H p (.lst (j8 xs lo hi)))
theorem Jw:q_ X (Jv X.K):=by
 intro pins s σ H x v vl vu lo hi sl Q I J L pl U h;obtain⟨a,xs,rfl,Y,q⟩:=h
 cases J;obtain⟨aa,r,ht,hz⟩:=I.list Y;have z:=r.length;refine⟨"list",_,slot_list_getitem.lookup,ht.isList.typeIs,?_⟩;refine wpAny_getItem_list_slice ht.isList L pl U .none (by simp) ?_ (by rw[Q07] <;> omega);rw[Ju,<-z];refine⟨.ref s.heap.objs.size,_,I.laid (t':=s.toks) (o:=.lst (j8 xs lo hi)) (λb ob q=>Q06 _ q) (Q00 _) ?_,rfl,q _ (I.hok.fresh (Q00 _))⟩;exact⟨Q0b (vH xs lo hi) hz,_,0,(r.drop (HT.gG xs.length 0 lo)).take (HT.gG xs.length xs.length hi - HT.gG xs.length 0 lo),Q0h _ rfl⟩
noncomputable def m8:V->Bool
 | .non=>true
 | .bl _=>true
 | .int _=>true
 | .str _=>true
 |_=>false
noncomputable def m9:V->V->Bool
 | .non,.non=>true
 | .bl a,.bl b=>a == b
 | .bl a,.int b=>(if a then 1 else 0) == b
 | .int a,.bl b=>a == (if b then 1 else 0)
 | .int a,.int b=>a == b
 | .str a,.str b=>a == b
 |_,_=>false
theorem Jx {A:Around}{s:Shared}{y x:V}{u v:Value}(J:RelV y u)(z:RelV x v)(U:m8 y=true)(L:m8 x=true):SeqAt.EqAt A s u v (m9 y x):=by
 cases y with
 |non=>
  cases J
  cases x with
  |non=>cases z;exact SeqAt.EqAt.same _
  |bl b=>cases z;exact SeqAt.EqAt.none_bool b
  |int b=>obtain⟨t,rfl⟩:=z;exact SeqAt.EqAt.none_int b t
  |str b=>obtain⟨t,rfl⟩:=z;exact SeqAt.EqAt.none_str b t
  |_=>exact absurd (show false=true from L) Bool.false_ne_true
 |bl a=>
  cases J
  cases x with
  |non=>cases z;exact SeqAt.EqAt.bool_none a
  |bl b=>cases z;exact SeqAt.EqAt.bool_bool a b
  |int b=>obtain⟨t,rfl⟩:=z;exact SeqAt.EqAt.bool_int a b t
  |str b=>obtain⟨t,rfl⟩:=z;exact SeqAt.EqAt.bool_str a b t
  |_=>exact absurd (show false=true from L) Bool.false_ne_true
 |int a=>
  obtain⟨t',rfl⟩:=J
  cases x with
  |non=>cases z;exact SeqAt.EqAt.int_none a t'
  |bl b=>cases z;exact SeqAt.EqAt.int_bool a t' b
  |int b=>obtain⟨t,rfl⟩:=z;exact SeqAt.EqAt.int_int a t' b t
  |str b=>obtain⟨t,rfl⟩:=z;exact SeqAt.EqAt.int_str a t' b t
  |_=>exact absurd (show false=true from L) Bool.false_ne_true
 |str a=>
  obtain⟨t',rfl⟩:=J
  cases x with
  |non=>cases z;exact SeqAt.EqAt.str_none a t'
  |bl b=>cases z;exact SeqAt.EqAt.str_bool a t' b
  |int b=>obtain⟨t,rfl⟩:=z;exact SeqAt.EqAt.str_int a t' b t
  |str b=>obtain⟨t,rfl⟩:=z;exact SeqAt.EqAt.str_str a t' b t
  |_=>exact absurd (show false=true from L) Bool.false_ne_true
 |_=>exact absurd (show false=true from U) Bool.false_ne_true
noncomputable def kr (x:V) (u:Value):Bool:=match u with
 | .none=>m9 .non x
 | .bool b=>m9 (.bl b) x
 | .int i _=>m9 (.int i) x
 | .str z _=>m9 (.str z) x
 |_=>false
theorem C7 {x y:V}{u:Value}(r:RelV y u)(f:m8 y=true):kr x u=m9 y x:=by
 cases y with
 |non=>cases r;rfl
 |bl b=>cases r;rfl
 |int i=>obtain⟨t,rfl⟩:=r;rfl
 |str z=>obtain⟨t,rfl⟩:=r;rfl
 |_=>exact absurd (show false=true from f) Bool.false_ne_true
theorem ra {x:V}:∀{xs:List V}{us:List Value},Vals xs us->xs.all m8=true->us.any (kr x)=xs.any λy=>m9 y x
 |_,_,.nil,_=>rfl
 |y::xs,u::us,.cons r t,f=>by
  rw[Q2f,Bool.and_eq_true] at f;rw[Q1f,Q1f,C7 r f.1,ra t f.2]
theorem rb {A:Around}{s:Shared}{x:V}{v:Value}(J:RelV x v)(L:m8 x=true):∀{xs:List V}{us:List Value},Vals xs us->xs.all m8=true->∀u∈us,SeqAt.EqAt A s u v (kr x u)
 |_,_,.nil,_=>λu z=>by cases z
 |y::xs,u::us,.cons r t,f=>λU z=>by
  rw[Q2f,Bool.and_eq_true] at f;rcases List.mem_cons.mp z with rfl|z
  . rw[C7 r f.1];exact Jx r J f.1 L
  . exact rb J L t f.2 U z
noncomputable def inV (x:V) (xs:List V):Bool:=xs.any λy=>m9 y x
def rd (K:W.Frag) (z:Bool):R2:=λx y H Q=>∃p xs,y=.ref p/\(fY K H p xs\/fU K H p xs)/\m8 x=true/\xs.all m8=true/\Q (.bl (if z then !inV x xs else inV x xs)) H
theorem Jy:jc X (compareOp .In) (rd X.K false):=by
 intro pins s σ H x y v u Q I L Y h;obtain⟨p,xs,rfl,J,U,fs,q⟩:=h
 cases Y;rcases J with J|J
 . obtain⟨z,r,pl,hz⟩:=I.list J;refine SeqAt.in_listAt (kr x) pl.isList (λw hw=>rb L U r fs w (by simpa using hw)) ⟨.bl _,H,I,rfl,?_⟩;rw[show z.toArray.any (kr x)=z.any (kr x) by simp,ra r fs];exact q
 . obtain⟨z,r,pl,hz⟩:=I.tuple J;refine SeqAt.in_tupleAt (kr x) pl (λw hw=>rb L U r fs w (by simpa using hw)) ⟨.bl _,H,I,rfl,?_⟩;rw[show z.toArray.any (kr x)=z.any (kr x) by simp,ra r fs];exact q
theorem vM:jc X (compareOp .NotIn) (rd X.K true):=by
 intro pins s σ H x y v u Q I L Y h;obtain⟨p,xs,rfl,J,U,fs,q⟩:=h
 cases Y;rcases J with J|J
 . obtain⟨z,r,pl,hz⟩:=I.list J;refine SeqAt.notIn_listAt (kr x) pl.isList (λw hw=>rb L U r fs w (by simpa using hw)) ⟨.bl _,H,I,rfl,?_⟩;rw[show z.toArray.any (kr x)=z.any (kr x) by simp,ra r fs];exact q
 . obtain⟨z,r,pl,hz⟩:=I.tuple J;refine SeqAt.notIn_tupleAt (kr x) pl (λw hw=>rb L U r fs w (by simpa using hw)) ⟨.bl _,H,I,rfl,?_⟩;rw[show z.toArray.any (kr x)=z.any (kr x) by simp,ra r fs];exact q
theorem i9:kI X (.builtin "len") (λxs H Q=>∃p ys,xs=[.ref p]/\(fY X.K H p ys\/fU X.K H p ys)/\Q (.int ys.length) H):=by
 intro pins s σ H xs us Q I r h;obtain⟨p,ys,rfl,J,q⟩:=h;obtain⟨u,rfl,Y⟩:=vals1 r
 cases Y;have hn:=pO;rcases J with J|J
 . obtain⟨U,L,pl,hz⟩:=I.list J;have z:=L.length;exact Calls.call_len_list pl.isList (by simp only[Q07] <;> omega) ⟨.int ys.length,H,I.tok _,⟨s.toks+1,by rw[Q07,z]⟩,q⟩
 . obtain⟨U,L,pl,hz⟩:=I.tuple J;have z:=L.length;exact len_tuple pl (by simp only[Q07] <;> omega) ⟨.int ys.length,H,I.tok _,⟨s.toks+1,by rw[Q07,z]⟩,q⟩
theorem Jz:kI X (.builtin "len") (λxs H Q=>∃z,xs=[.str z]/\z.length<=sizeLine/\Q (.int z.length) H):=by
 intro pins s σ H xs us Q I r h;obtain⟨z,rfl,J,q⟩:=h;obtain⟨u,rfl,t,rfl⟩:=vals1 r;have L:=pO;exact len_str (by omega) ⟨.int z.length,H,I.tok _,⟨_,rfl⟩,q⟩
theorem pQ:kI X (.type "list") (λxs H Q=>∃p ys,xs=[.ref p]/\(fY X.K H p ys\/fU X.K H p ys)/\∀l,H l=none->Q (.ref l) (upd H l (.lst ys))):=by
 intro pins s σ H xs us Q I r h;obtain⟨p,ys,rfl,L,q⟩:=h;obtain⟨u,rfl,rx⟩:=vals1 r
 cases rx
 have fin:∀(z:List Value),Vals ys z->ys.length<=sizeLine->∀(h':Heap) (c':Nat),(∀b o',s.heap.get? b=some o'->h'.get? b=some o')->
  h'.get? s.heap.objs.size=some { cls:=.type "list",dict:=none,data:=.seq z.toArray c',slots:=#[] }->EP X pins σ Q (.ref s.heap.objs.size) { s with heap:=h' }:=λz J U h' c' kp e=>
  ⟨.ref s.heap.objs.size,_,I.laid (t':=s.toks) kp (Q00 _) (show iN X.prog X.w _ h' _ (.lst ys) from⟨U,z,c',J,e⟩),rfl,q _ (I.hok.fresh (Q00 _))⟩
 rcases L with L|L
 . obtain⟨z,J,pl,U⟩:=I.list L;have Y:=J.length;obtain⟨o,ho,hc,n,hd⟩:=pl.isList;exact call_list_seq p (.inl rfl) ho hc hd (λh' c' kp e=>fin z J U h' c' kp e) (by simp only[Q07] <;> omega)
 . obtain⟨z,J,pl,U⟩:=I.tuple L;have Y:=J.length;obtain⟨o,ho,hc,n,hd⟩:=pl;exact call_list_seq p (.inr rfl) ho hc hd (λh' c' kp e=>fin z J U h' c' kp e) (by simp only[Q07] <;> omega)
theorem o6:kI X (.type "tuple") (λxs H Q=>∃p ys,xs=[.ref p]/\((fY X.K H p ys/\∀l,H l=none->Q (.ref l) (upd H l (.tup ys)))\/(fU X.K H p ys/\Q (.ref p) H))):=by
 intro pins s σ H xs us Q I r h;obtain⟨p,ys,rfl,h⟩:=h;obtain⟨u,rfl,rx⟩:=vals1 r
 cases rx;rcases h with⟨J,q⟩|⟨J,q⟩
 . obtain⟨z,L,pl,U⟩:=I.list J;have aa:=L.length;refine call_tuple_list pl.isList (λh' kp=>?_) (by simp only[Q07] <;> omega);have Y:Inv X pins σ H { s with heap:=h' }:=I.kept (t':=s.toks) kp
   have I2:Inv X pins σ (upd H h'.objs.size (.tup ys)) { s with heap:=h'.push { cls:=.type "tuple",data:=.seq z.toArray } }:=
    Y.laid (t':=s.toks) (λb o e=>Q06 _ e) (Q00 _) (show iN X.prog X.w _ _ _ (.tup ys) from⟨U,z,L,IsTup.new _ _⟩)
   exact⟨.ref h'.objs.size,_,I2,rfl,q _ (Y.hok.fresh (Q00 _))⟩
 . obtain⟨z,L,pl,U⟩:=I.tuple J;exact call_tuple_same pl ⟨.ref p,H,I,rfl,q⟩
def C8 (K:W.Frag) (T:String) (x:V) (H:Hp):Prop:=match x with
 | .str _=>T="str"
 | .int _=>T="int"
 | .ref p=>(T="list"/\∃xs,fY K H p xs)\/(T="tuple"/\∃o,K.lookup p=some o/\o.cls=.type "tuple"/\o.dict=none)\/
    (T="dict"/\((∃kvs,H p=some (.dK kvs))\/∃kvs,H p=some (.dT kvs)))\/(T="set"/\∃S n,H p=some (.set S n))
 |_=>False
theorem JA {pins:List (Addr × Obj)}{σ:St}{H:Hp}{s:Shared}{T:String}{x:V}{v:Value}(I:Inv X pins σ H s)(r:RelV x v)(ty:C8 X.K T x H):
 s.TypeIs v T/\∀a,v=.ref a->∃U,s.heap.get? a=some U/\U.dict=none:=by
 cases x with
 |str z=>
  obtain⟨t,rfl⟩:=r
  cases(show T="str" from ty);exact⟨typeIs_str s z t,λ_ e=>nomatch e⟩
 |int i=>
  obtain⟨t,rfl⟩:=r
  cases(show T="int" from ty);exact⟨typeIs_int s i t,λ_ e=>nomatch e⟩
 |ref p=>
  cases r;rcases ty with⟨rfl,xs,Y⟩|⟨rfl,o,hk,hc,J⟩|⟨rfl,hk⟩|⟨rfl,S,n,hk⟩
  . obtain⟨aa,_,pl,_⟩:=I.list Y;refine⟨pl.isList.typeIs,λa e=>?_⟩
    cases e;obtain⟨o,n,e,c,J,_⟩:=pl;exact⟨o,e,J⟩
  . refine⟨⟨o,I.iQ p o hk,hc⟩,λa e=>?_⟩
    cases e;exact⟨o,I.iQ _ o hk,J⟩
  . have z:∃o,s.heap.get? p=some o/\o.ExactDict:=by
     rcases hk with⟨kvs,hk⟩|⟨kvs,hk⟩
     . obtain⟨_,_,_,_,o,_,_,e,ex,_⟩:=I.hok p _ hk;exact⟨o,e,ex⟩
     . obtain⟨_,_,_,_,o,_,_,e,ex,_⟩:=I.hok p _ hk;exact⟨o,e,ex⟩
    obtain⟨o,e,ex⟩:=z;refine⟨⟨o,e,ex.1⟩,λa L=>?_⟩
    cases L;exact⟨o,e,ex.2.1⟩
  . obtain⟨o,_,_,_,e,ex,_⟩:=I.hok p _ hk;refine⟨⟨o,e,ex.1⟩,λa L=>?_⟩
    cases L;exact⟨o,e,ex.2.1⟩
 |_=>exact False.elim ty
def JB (K:W.Frag) (T:String) (r:V->List V->Hp->VK->Prop) (to:TE) (t:TA):TE:=λσ H Q=>to σ H λx H1=>C8 K T x H1/\t σ H1 λxs H2=>r x xs H2 Q
variable {o e:Expr}{es:List Expr}{to:TE}{t:TA}{name:Str}{apos cpos:Pos}{T id:String}{r:V->List V->Hp->VK->Prop}
theorem rf (pa:PlainAttrs T)(slot:Slot T name id)(aa:typeOf (.builtin id)=pure (.type "method_descriptor"))(hm:vL X id r)(ho:PE X o to)(ha:PA X (e::es) t)
 (J:attributeBase o name X.env (eval o X.env)=eval o X.env:=by rfl)
 (Y:((backTo cpos (starEach (e::es) X.env)).all (λx=> !x.1) && (backToKw cpos (keywordEach [] X.env)).all (λx=>x.1.isSome)
   && decide ((e::es).length+([]:List Keyword).length+(if([]:List Keyword).isEmpty then 0 else 1)<30))=true:=by rfl)
 (L:(apos.endLine == cpos.line)=true:=by rfl) (hs:starEach (e::es) X.env=(false,eval e X.env)::starEach es X.env:=by rfl) (z:(backTo cpos (starEach es X.env)).any (·.1)=false:=by rfl):
 PE X (.Call (.Attribute o name apos) (e::es) [] cpos) (JB X.K T r to t):=by
 intro pins s σ H Q I h;refine wpAny_Call_method_late J Y L rfl (gy (ho pins s σ H _ I h) λv s1 zq=>?_);obtain⟨x,H1,I1,r1,ty,q1⟩:=zq;obtain⟨h1,h2⟩:=JA I1 r1 ty;refine⟨T,id,pa,slot,aa,h1,h2,?_⟩;have hA:=ha cpos pins s1 σ H1 _ I1 q1;rw[hs] at hA ⊢;refine Calls.callWith_builtin (by show(false || (backTo cpos (starEach es X.env)).any (·.1))=false;rw[z] <;> rfl) (Calls.evalArgs_plain ?_);exact gy hA λus s2 ⟨vs,H2,I2,r2,q2⟩=>hm pins s2 σ H2 x vs v us Q I2 r1 r2 q2
/- xs.append(e),list.index on a U tuple .. ac vL ab of 06m -/
end
def JC (X:Cx) (id:String) (r:V->List V->Hp->VK->Prop):Prop:=
 ∀(pins:List (Addr × Obj)) (s:Shared) (σ:St) (H:Hp) (x:V) (xs:List V) (v:Value) (us:List Value) (Q:VK),Inv X pins σ H s->RelV x v->Vals xs us->r x xs H Q->
  wpAny (model X.prog X.w) X.A (call (.builtin id) (v::us)) (EP X pins σ Q) X.xe s
theorem Vals.one:∀{x:V}{us:List Value},Vals [x] us->∃u,us=[u]/\RelV x u
 |_,_,.cons r .nil=>⟨_,rfl,r⟩
section
variable {X:Cx}{pins:List (Addr × Obj)}{σ:St}{H:Hp}{s:Shared}{l b:Addr}{xs ys zs:List V}
theorem Inv.JD {z its':List Value}{n:Nat}{f:Array Value->Array Value}{t':Nat}(I:Inv X pins σ H s)(J:H l=some (.lst xs))
 (e:s.heap.get? l=some { cls:=.type "list",data:=.seq z.toArray n }) (L:f z.toArray=its'.toArray) (U:Vals ys its') (Y:ys.length<=sizeLine):
 Inv X pins σ (upd H l (.lst ys)) { s with heap:=s.heap.update l (Obj.mapSeq f),toks:=t' }:=by
 have q:=PySem.IsL.update e f;rw[L] at q;refine I.write (x:=l) (e:=l) (by rw[J];exact trivial) (.inl rfl) (λb' u hb hu=>(Q14 s.heap (Obj.mapSeq f) (Ne.symm hb)).trans hu) ⟨_,q⟩ ?_;exact⟨Y,its',_,U,q⟩
theorem Inv.JE {z:List Value}{t':Nat}(I:Inv X pins σ H s)(J:Vals ys z)(L:ys.length<=sizeLine):
 Inv X pins σ (upd H s.heap.objs.size (.lst ys)) { s with heap:=s.heap.push { cls:=.type "list",data:=.seq z.toArray },toks:=t' }:=
 I.laid (λ_ _ q=>Q06 _ q) (Q00 _) ⟨L,z,0,J,Q0h _ rfl⟩
theorem Inv.fresh (I:Inv X pins σ H s):H s.heap.objs.size=none:=I.hok.fresh (Q00 _)
theorem Inv.vN (I:Inv X pins σ H s)(L:H l=some (.lst xs)):xs.length<=sizeLine/\∃(J:List Value) (n:Nat),Vals xs J/\xs.length=J.length/\s.heap.get? l=some { cls:=.type "list",data:=.seq J.toArray n }:=by
 obtain⟨z,J,n,r,e⟩:=I.hok l _ L;exact⟨z,J,n,r,r.length,e⟩
end
section
variable {X:Cx}
def JF:V->List V->Hp->VK->Prop:=λx vs H Q=>∃l xs y,x=.ref l/\vs=[y]/\H l=some (.lst xs)/\xs.length<sizeLine/\Q .non (upd H l (.lst (xs++[y])))
theorem tF:JC X "list.append" JF:=by
 intro pins s σ H x vs v us Q I U Y h;obtain⟨l,xs,y,rfl,rfl,L,hz,q⟩:=h
 cases U;obtain⟨u,rfl,ru⟩:=Y.one;obtain⟨z,J,n,r,hl,e⟩:=I.vN L;refine call_meets F.slot_list_append ⟨_,e,rfl⟩ F.entry_list_append (F.args_list_append_2 _ _) (PySem.list_append l J.toArray n u (by rw[Q07];omega)) ⟨e,?_⟩;refine⟨.non,_,I.JD (its':=J++[u]) L e (by simp) (r.append (.cons ru .nil)) ?_,rfl,q⟩;rw[Q0a,Q15];omega
def JG:R2:=λx y H Q=>∃l b xs zs,x=.ref l/\y=.ref b/\H l=some (.lst xs)/\H b=some (.lst zs)/\xs.length+zs.length<=sizeLine/\∀p,H p=none->Q (.ref p) (upd H p (.lst (xs++zs)))
theorem pR:jc X (binaryOp .Add) JG:=by
 intro pins s σ H x y v u Q I U Y h;obtain⟨l,b,xs,zs,rfl,rfl,hH,hB,hz,q⟩:=h
 cases U
 cases Y;obtain⟨z,L,n,r,hl,e⟩:=I.vN hH;obtain⟨z2,J,n2,r2,aa,e2⟩:=I.vN hB;refine PySem.P.add_list e e2 ?_ (by rw[Q07,Q07];omega);have ea:L.toArray++J.toArray=(L++J).toArray:=by simp
 rw[ea];exact⟨.ref _,_,I.JE (t':=s.toks) (r.append r2) (by rw[Q0a];omega),rfl,q _ I.fresh⟩
end
section
variable {prog:Program}{w:World}{A:Around}{E:Value->Shared->Prop}{s:Shared}
end
section
variable {X:Cx}
end
section
variable {κ:Type} [DecidableEq κ]
noncomputable def gO (kvs:List (κ × V)) (k:κ):Option V:=(kvs.find? λz=>decide (z.1=k)).map (·.2)
noncomputable def putK (kvs:List (κ × V)) (k:κ) (v:V):List (κ × V):=
 if(kvs.any λz=>decide (z.1=k))=true then kvs.map (λz=>if z.1=k then(z.1,v) else z) else kvs++[(k,v)]
theorem k7 {p:κ × V}{r:List (κ × V)}{k:κ}(e:p.1=k):gO (p::r) k=some p.2:=by simp[gO,Q1g,e]
theorem k8 {p:κ × V}{r:List (κ × V)}{k:κ}(e:¬p.1=k):gO (p::r) k=gO r k:=by simp[gO,Q1g,e]
theorem mE (k:κ):∀kvs:List (κ × V),(kvs.any λz=>decide (z.1=k))=(gO kvs k).isSome
 |[]=>rfl
 |p::r=>by
  rw[Q1f];by_cases e:p.1=k
  . simp only[k7 e,decide_eq_true e,Bool.true_or,Option.isSome_some]
  . rw[k8 e,decide_eq_false e,Bool.false_or];exact mE k r
theorem C9 (k j:κ)(y:V):∀kvs:List (κ × V),gO (kvs.map λJ=>if J.1=k then(J.1,y) else J) j=(gO kvs j).map λx=>if j=k then y else x
 |[]=>rfl
 |p::r=>by
  have L:=C9 k j y r;rw[Q0q];by_cases h:p.1=k
  . rw[if_pos h];by_cases e:p.1=j
    . rw[k7 (p:=(p.1,y)) e,k7 e,Q1u,if_pos (e.symm.trans h)]
    . rw[k8 (p:=(p.1,y)) e,k8 e,L]
  . rw[if_neg h];by_cases e:p.1=j
    . rw[k7 (p:=p) e,k7 e,Q1u,if_neg (λz=>h (e.trans z))]
    . rw[k8 (p:=p) e,k8 e,L]
theorem C_ (k j:κ)(y:V):∀kvs:List (κ × V),gO kvs k=none->gO (kvs++[(k,y)]) j=if j=k then some y else gO kvs j
 |[],_=>by
  by_cases e:k=j
  . rw[if_pos e.symm];exact k7 (p:=(k,y)) e
  . rw[if_neg (λz=>e z.symm)];exact k8 (p:=(k,y)) e
 |p::r,J=>by
  rw[Q31];have hk:¬p.1=k:=λz=>by rw[k7 z] at J;cases J
  rw[k8 hk] at J;have L:=C_ k j y r J;by_cases e:p.1=j
  . rw[k7 e,k7 e,if_neg (λz=>hk (e.trans z))]
  . rw[k8 e,k8 e,L]
theorem Dd (kvs:List (κ × V))(k j:κ)(y:V):gO (putK kvs k y) j=if j=k then some y else gO kvs j:=by
 unfold putK;by_cases a:(kvs.any λz=>decide (z.1=k))=true
 . rw[if_pos a,C9];rw[mE] at a;by_cases e:j=k
   . obtain⟨x,J⟩:=Option.isSome_iff_exists.mp a;rw[if_pos e,e,J,Q1u,if_pos rfl]
   . rw[if_neg e]
     cases gO kvs j with
     |none=>rfl
     |some x=>rw[Q1u,if_neg e]
 . rw[if_neg a];refine C_ k j y kvs ?_;rw[mE] at a
   cases q:gO kvs k with
   |none=>rfl
   |some x=>rw[q] at a;exact(a rfl).elim
theorem De (kvs:List (κ × V))(k:κ)(v:V):(putK kvs k v).length<=kvs.length+1:=by
 unfold putK;split
 . rw[Q04];omega
 . rw[Q0a,Q0j,Q2g];omega
theorem jX.rg {o:Option V}{u:Option Value}(r:jX o u):o.isSome=u.isSome:=by
 cases o with
 |none=>cases u with
  |none=>rfl
  |some _=>exact(show False from r).elim
 |some _=>cases u with
  |none=>exact(show False from r).elim
  |some _=>rfl
theorem KV.val {kvs:List (κ × V)}{vs:List (κ × Value)}(r:KV kvs vs)(k:κ):jX (gO kvs k) (valueAt vs k):=by
 unfold KV at r
 induction r with
 |nil=>exact True.intro
 |@cons p q ps J h t U=>
  obtain⟨h1,h2⟩:=h;by_cases e:p.1=k
  . have L:q.1=k:=h1.symm.trans e;have b:valueAt (q::J) k=some q.2:=by simp[valueAt,Q1g,L]
    rw[k7 e,b];exact h2
  . have L:¬q.1=k:=λz=>e (h1.trans z);have b:valueAt (q::J) k=valueAt J k:=by simp[valueAt,Q1g,L]
    rw[k8 e,b];exact U
theorem KV.any {kvs:List (κ × V)}{vs:List (κ × Value)}(r:KV kvs vs)(k:κ):(kvs.any λz=>decide (z.1=k))=vs.any λz=>decide (z.1=k):=by
 unfold KV at r
 induction r with
 |nil=>rfl
 |cons h t J=>rw[Q1f,Q1f,J,h.1]
theorem KV.repl {kvs:List (κ × V)}{vs:List (κ × Value)}(r:KV kvs vs)(k:κ){y:V}{u:Value}(L:RelV y u):
 KV (kvs.map λJ=>if J.1=k then(J.1,y) else J) (vs.map λJ=>if J.1=k then(J.1,u) else J):=by
 unfold KV at r ⊢
 induction r with
 |nil=>exact .nil
 |@cons p q ps Y h t U=>
  rw[Q0q,Q0q];refine .cons ?_ U;obtain⟨h1,h2⟩:=h;by_cases e:p.1=k
  . rw[if_pos e,if_pos (h1.symm.trans e)];exact⟨h1,L⟩
  . rw[if_neg e,if_neg (λz=>e (h1.trans z))];exact⟨h1,h2⟩
theorem KV.put {kvs:List (κ × V)}{vs:List (κ × Value)}(r:KV kvs vs)(k:κ){y:V}{u:Value}(z:RelV y u):KV (putK kvs k y) (stored vs k u):=by
 unfold putK stored;rw[r.any k];by_cases e:(vs.any λJ=>decide (J.1=k))=true
 . rw[if_pos e,if_pos e];exact r.repl k z
 . rw[if_neg e,if_neg e];exact Paired.snoc r ⟨rfl,z⟩
theorem KV.length {kvs:List (κ × V)}{vs:List (κ × Value)}(r:KV kvs vs):kvs.length=vs.length:=Paired.length r
end
theorem rh {P:Program}{w:World}{k:Key}{u:Value}(r:RelV (kV k) u):(iW P w).is k u=true:=by
 cases k with
 |inl i=>obtain⟨t,e⟩:=(show ∃t,u=Value.int i t from r);subst e;exact HW P w i t
 |inr x=>obtain⟨t,e⟩:=(show ∃t,u=Value.str x t from r);subst e;exact HX P w x t
theorem Df {P:Program}{w:World}:∀{ks:List Key}{us:List Value},Vals (ks.map kV) us->ItemsAre (iW P w) ks us
 |[],_,r=>by rw[List.map_nil] at r;cases r;exact .nil
 |k::ks,_,r=>by
  rw[Q0q] at r
  cases r with
  |cons h t=>exact .cons (rh h) (Df t)
abbrev KT (H:Hp):List (List Key × V)->List (List Key × Addr × Value)->Prop:=Paired λp q=>p.1=q.1/\H q.2.1=some (.tup (p.1.map kV))/\RelV p.2 q.2.2
theorem KT.val {H:Hp}{kvs:List (List Key × V)}{xs:List (List Key × Addr × Value)}(r:KT H kvs xs)(k:List Key):jX (gO kvs k) ((atKey xs k).map (·.2)):=by
 induction r with
 |nil=>exact True.intro
 |@cons p q ps J h t U=>
  obtain⟨h1,_,h2⟩:=h;by_cases e:p.1=k
  . have L:q.1=k:=h1.symm.trans e;have b:atKey (q::J) k=some q.2:=by simp[atKey,Q1g,L]
    rw[k7 e,b];exact h2
  . have L:¬q.1=k:=λz=>e (h1.trans z);have b:atKey (q::J) k=atKey J k:=by simp[atKey,Q1g,L]
    rw[k8 e,b];exact U
theorem KT.repl {H:Hp}{kvs:List (List Key × V)}{xs:List (List Key × Addr × Value)}(r:KT H kvs xs)(k:List Key){y:V}{u:Value}(L:RelV y u):
 KT H (kvs.map λJ=>if J.1=k then(J.1,y) else J) (xs.map (putAt k u)):=by
 induction r with
 |nil=>exact .nil
 |@cons p q ps qs h t U=>
  rw[Q0q,Q0q];refine .cons ?_ U;obtain⟨h1,h2,Y⟩:=h;unfold putAt;by_cases e:p.1=k
  . rw[if_pos e,if_pos (h1.symm.trans e)];exact⟨h1,h2,L⟩
  . rw[if_neg e,if_neg (λz=>e (h1.trans z))];exact⟨h1,h2,Y⟩
theorem KT.put {H:Hp}{kvs:List (List Key × V)}{xs:List (List Key × Addr × Value)}(r:KT H kvs xs)(k:List Key){b:Addr}{y:V}{u:Value}(J:H b=some (.tup (k.map kV)))(z:RelV y u):
 KT H (putK kvs k y) (storedH xs k b u):=by
 have e:(kvs.any λL=>decide (L.1=k))=(atKey xs k).isSome:=by
  rw[mE,(r.val k).rg,Q2h]
 unfold putK storedH;rw[e];by_cases q:(atKey xs k).isSome=true
 . rw[if_pos q,if_pos q];exact r.repl k z
 . rw[if_neg q,if_neg q];exact Paired.snoc r ⟨rfl,J,z⟩
theorem KT.keeps {H H':Hp}{kvs:List (List Key × V)}{xs:List (List Key × Addr × Value)}(r:KT H kvs xs)(ht:∀b ys,H b=some (.tup ys)->H' b=some (.tup ys)):KT H' kvs xs:=
 Paired.sO r λ_ _ z=>⟨z.1,ht _ _ z.2.1,z.2.2⟩
section
variable {P:Program}{w:World}{H:Hp}{h:Heap}{a:Addr}
theorem Dg {u:HO}(ok:iG P w H h)(e:Rd H a u):iN P w H h a u:=e.ok ok
theorem pT {kvs:List (Key × V)}(ok:iG P w H h)(e:Rd H a (.dK kvs)):kvs.length<=sizeLine/\(a == sysModules)=false/\∃vs,KV kvs vs/\h.DictOf (iW P w) a vs:=
 show iN P w H h a (.dK kvs) from Dg ok e
theorem tG {kvs:List (Key × V)}(ok:iG P w H h)(e:H a=some (.dK kvs)):kvs.length<=sizeLine/\(a == sysModules)=false/\∃vs,KV kvs vs/\h.DictOf (iW P w) a vs:=pT ok (.inl e)
theorem rj {ks:List Key}(ok:iG P w H h)(e:H a=some (.tup (ks.map kV))):(tupleKind (iW P w)).is h ks a:=by
 obtain⟨_,z,r,o,h1,h2,n,J⟩:=(show iN P w H h a (.tup (ks.map kV)) from ok a _ e);exact⟨o,z.toArray,n,h1,h2,J,by simpa using Df r⟩
theorem rl {kvs:List (List Key × V)}(ok:iG P w H h)(e:Rd H a (.dT kvs)):kvs.length<=sizeLine/\(a == sysModules)=false/\
 ∃xs,KT H kvs xs/\h.DictOfH (tupleKind (iW P w)) a xs:=by
 obtain⟨z,y,xs,r,o,es,U,h1,h2,Y,h4,h5⟩:=(show iN P w H h a (.dT kvs) from Dg ok e);refine⟨z,y,xs,r,o,es,U,h1,h2,Y,h4,λx J=>?_,h5⟩
 have all:∀{l:List (List Key × V)} {m:List (List Key × Addr × Value)},KT H l m->∀x∈m,(tupleKind (iW P w)).is h x.1 x.2.1:=by
  intro l m q
  induction q with
  |nil=>intro x J;exact nomatch J
  |@cons p q ps qs L t ih=>
   intro x J;rcases List.mem_cons.mp J with e|J
   . subst e;exact rj ok (by rw[<-L.1];exact L.2.1)
   . exact ih x J
 exact all r x J
theorem JH {kvs:List (List Key × V)}(ok:iG P w H h)(e:H a=some (.dT kvs)):kvs.length<=sizeLine/\(a == sysModules)=false/\
 ∃xs,KT H kvs xs/\h.DictOfH (tupleKind (iW P w)) a xs:=rl ok (.inl e)
end
def ig (H:Hp) (a:Addr) (y:V) (r:Option V):Prop:=
 (∃kvs k,Rd H a (.dK kvs)/\y=kV k/\r=gO kvs k)\/∃kvs k b,Rd H a (.dT kvs)/\y=.ref b/\H b=some (.tup (k.map kV))/\r=gO kvs k
def kK (H:Hp) (a:Addr) (y v:V) (H':Hp):Prop:=
 (∃kvs k,H a=some (.dK kvs)/\y=kV k/\kvs.length<sizeLine/\H'=upd H a (.dK (putK kvs k v)))\/
 ∃kvs k b,H a=some (.dT kvs)/\y=.ref b/\H b=some (.tup (k.map kV))/\kvs.length<sizeLine/\H'=upd H a (.dT (putK kvs k v))
theorem ig.k {H:Hp}{a:Addr}{kvs:List (Key × V)}{k:Key}(e:H a=some (.dK kvs)):ig H a (kV k) (gO kvs k):=.inl ⟨kvs,k,.inl e,rfl,rfl⟩
theorem kK.k {H:Hp}{a:Addr}{kvs:List (Key × V)}{k:Key}{v:V}(e:H a=some (.dK kvs))(hl:kvs.length<sizeLine):kK H a (kV k) v (upd H a (.dK (putK kvs k v))):=.inl ⟨kvs,k,e,rfl,hl,rfl⟩
section
variable {X:Cx}{pins:List (Addr × Obj)}{σ:St}{H:Hp}{s:Shared}{a:Addr}{y v:V}{u r:Value}{o:Option V}{A:Around}{E:Value->Shared->Prop}
theorem Inv.big (I:Inv X pins σ H s):sysModules<s.heap.objs.size:=by
 have h:mainGlobals<s.heap.objs.size:=(I.mod.glob.keeps I.bk).lt;exact Nat.lt_trans (by decide) h
theorem JI {Q:Value->Shared->Prop}(hu:A.units+1<cLine)(I:Inv X pins σ H s)(g:ig H a y (some v))(ry:RelV y u)(h:∀U s',Inv X pins σ H s'->RelV v U->Q U s'):
 wpAny (model X.prog X.w) A (getItem (.ref a) u) Q E s:=by
 rcases g with⟨kvs,k,e,Y,l⟩|⟨kvs,k,b,e,Y,eb,l⟩
 . subst Y;obtain⟨z,hd,vs,J,dd⟩:=pT I.hok e;obtain⟨U,hw,L⟩:=jX.some_of (v:=v) (o:=valueAt vs k) (by rw[l];exact J.val k);exact wpAny_getItem_of (rh ry) dd.mapOf hw (h U _ (I.tok _) L)
 . subst Y
   cases(show u=Value.ref b from ry);obtain⟨z,hd,xs,J,dd⟩:=rl I.hok e;obtain⟨U,hw,L⟩:=jX.some_of (v:=v) (o:=(atKey xs k).map (·.2)) (by rw[l];exact J.val k);obtain⟨p,hp,aa⟩:=Option.map_eq_some_iff.mp hw;refine wpAny_getItem_heap (tupleKind_room_in1 hu) (rj I.hok eb) dd hp ?_;rw[aa];exact h U _ (I.tok _) L
theorem JJ {Q:Value->Shared->Prop}(hu:A.units+1<cLine)(I:Inv X pins σ H s)(g:ig H a y o)(ry:RelV y u)(h:∀s',Inv X pins σ H s'->Q (.bool o.isSome) s'):
 wpAny (model X.prog X.w) A (compareOp .In u (.ref a)) Q E s:=by
 rcases g with⟨kvs,k,e,L,l⟩|⟨kvs,k,b,e,L,eb,l⟩
 . subst L;obtain⟨z,U,vs,J,Y⟩:=pT I.hok e;refine wpAny_in_of (rh ry) U Y.mapOf ?_;rw[<-(J.val k).rg,<-l];exact h _ (I.tok _)
 . subst L
   cases(show u=Value.ref b from ry);obtain⟨z,U,xs,J,Y⟩:=rl I.hok e;refine wpAny_in_heap (tupleKind_room_in1 hu) (rj I.hok eb) U Y ?_;have q:=(J.val k).rg;rw[Q2h] at q;rw[<-q,<-l];exact h _ (I.tok _)
theorem JK {Q:Value->Shared->Prop}(hu:A.units+1<cLine)(I:Inv X pins σ H s)(g:ig H a y o)(ry:RelV y u)(h:∀s',Inv X pins σ H s'->Q (.bool (!o.isSome)) s'):
 wpAny (model X.prog X.w) A (compareOp .NotIn u (.ref a)) Q E s:=by
 rcases g with⟨kvs,k,e,L,l⟩|⟨kvs,k,b,e,L,eb,l⟩
 . subst L;obtain⟨z,U,vs,J,Y⟩:=pT I.hok e;refine wpAny_notIn_of (rh ry) U Y.mapOf ?_;rw[<-(J.val k).rg,<-l];exact h _ (I.tok _)
 . subst L
   cases(show u=Value.ref b from ry);obtain⟨z,U,xs,J,Y⟩:=rl I.hok e;refine wpAny_notIn_heap (tupleKind_room_in1 hu) (rj I.hok eb) U Y ?_;have q:=(J.val k).rg;rw[Q2h] at q;rw[<-q,<-l];exact h _ (I.tok _)
theorem vO {h':Heap}{t':Nat}{J:HO}(I:Inv X pins σ H s)(mu:qO (H a))(L:Heap.SameBut a s.heap h')(U:∃q,h'.get? a=some q)(new:iN X.prog X.w (upd H a J) h' a J):
 Inv X pins σ (upd H a J) { s with heap:=h',toks:=t' }:=
 I.write (x:=a) (e:=a) mu (.inl rfl) (λb q Y z=>(L.2 b Y).trans z) U new
theorem Dh {P:Program}{w:World}{H':Hp}{h':Heap}{kvs:List (Key × V)}{vs:List (Key × Value)}(z:kvs.length<=sizeLine)(L:(a == sysModules)=false)(J:KV kvs vs)(U:h'.DictOf (iW P w) a vs):
 iN P w H' h' a (.dK kvs):=⟨z,L,vs,J,U⟩
theorem JL {H':Hp}{Q:Unit->Shared->Prop}(hu:A.units+1<cLine)(I:Inv X pins σ H s)(g:kK H a y v H')(ry:RelV y u)(rv:RelV v r)(h:∀s',Inv X pins σ H' s'->Q () s'):
 wpAny (model X.prog X.w) A (setItem (.ref a) u r) Q E s:=by
 rcases g with⟨kvs,k,e,Y,l,eH⟩|⟨kvs,k,b,e,Y,eb,l,eH⟩
 . subst Y eH;obtain⟨z,hd,vs,J,dd⟩:=tG I.hok e;have hz:vs.length<=sizeLine:=by rw[<-J.length];exact z
   have hl:(putK kvs k v).length<=sizeLine:=by have:=De kvs k v;omega
   refine wpAny_setItem_pairs (hsz:=hz) (rh ry) dd λh' L hs=>h _ ?_;have he:∃q,h'.get? a=some q:=let⟨q,_,_,U,_⟩:=L;⟨q,U⟩
   exact vO I (by rw[e];exact True.intro) hs he (Dh hl hd (J.put k rv) L)
 . subst Y eH
   cases(show u=Value.ref b from ry);obtain⟨z,hd,xs,J,dd⟩:=JH I.hok e;have hz:xs.length<=sizeLine:=by rw[<-Paired.length J];exact z
   have hl:(putK kvs k v).length<=sizeLine:=by have:=De kvs k v;omega
   refine wpAny_setItem_heap (hsz:=hz) (tupleKind_room_in1 hu) (rj I.hok eb) dd λh' L hs=>h _ ?_;obtain⟨q,es,ep,U,h2,h3,h4,_,h5⟩:=L;refine vO I (by rw[e];exact True.intro) hs ⟨q,U⟩ ⟨hl,hd,_,(J.put k eb rv).keeps λc ys ec=>?_,q,es,ep,U,h2,h3,h4,h5⟩;rw[fV (jz ec e (λz=>nomatch z))];exact ec
end
section
variable {X:Cx}{pins:List (Addr × Obj)}{σ:St}{H:Hp}{s:Shared}{a:Addr}{kvs:List (Key × V)}{k:Key}{u:Value}{A:Around}{E:Value->Shared->Prop}
theorem JM {Q:Value->Shared->Prop}(I:Inv X pins σ H s)(e:Rd H a (.dK kvs))(h:∀t s',Inv X pins σ H s'->Q (.int kvs.length t) s'):wpAny (model X.prog X.w) A (call (.builtin "len") [.ref a]) Q E s:=by
 obtain⟨z,L,vs,J,U⟩:=pT I.hok e;refine call_len_dict L U (by rw[<-J.length];rw[sizeLine_eq] at z;omega) ?_;rw[<-J.length];exact h _ _ (I.tok _)
end
def Di (i:Expr):Prop:=∀z J,subscripted i false z J=operate [z,J] (getItem z J)
theorem JN {prog:Program}{w:World}{A:Around}{E:Value->Shared->Prop}{s:Shared}{env:Env}{value z:Expr}{pos:Pos}{T id:String}{Q:Value->Shared->Prop}
 (hl:typeLookup (.type T) "__getitem__"=pure (some (.builtin id))) (hs:Di z)
 (h:wpAny (model prog w) A (eval value env) (λo U=>wpAny (model prog w) A (eval z env) (λi J=>J.TypeIs o T/\wpAny (model prog w) A (getItem o i) Q E J) E U) E s):
 wpAny (model prog w) A (eval (.Subscript value z pos) env) Q E s:=by
 refine Subscript_ (Q0l h (λo U aa=>Q0l aa (λi J L=>?_) λ_ _ x=>x) λ_ _ x=>x);obtain⟨hT,L⟩:=L;unfold subscriptTail;refine Q0 ?_;rw[getitemInPython_of_ne hT.not_modules];refine Q0 (wpAny_specialOf hT hl ?_)
 have fin:wpAny (model prog w) A (subscripted z false o i) (λr Y=>wpAny (model prog w) A (letTemporaryGo value o r >>= λ_=>pure r) Q E Y) E J:=by
  rw[hs o i];exact wpAny_operating (Q0l L (λr Y ab=>Q0 (wpAny_letTemporaryGo (Q02 ab))) λ_ _ x=>x)
 first
  |exact Q02 (Q0 fin)
  |exact Q0 (Q02 (Q0 fin))
  |exact Q0 fin
theorem JO {X:Cx}{pins:List (Addr × Obj)}{σ:St}{H:Hp}{s:Shared}{a:Addr}{y:V}{o:Option V}(I:Inv X pins σ H s)(g:ig H a y o):s.TypeIs (.ref a) "dict":=by
 rcases g with⟨kvs,k,e,_,_⟩|⟨kvs,k,b,e,_,_,_⟩
 . obtain⟨_,_,vs,_,z⟩:=pT I.hok e;exact z.typeIs
 . obtain⟨_,_,xs,_,z⟩:=rl I.hok e;exact z.typeIs
def JP (td ty:TE):TE:=λσ H Q=>td σ H λx H1=>ty σ H1 λy H2=>∃a v,x=.ref a/\ig H2 a y (some v)/\Q v H2
def JQ (ty td:TE):TE:=λσ H Q=>ty σ H λy H1=>td σ H1 λx H2=>∃a o,x=.ref a/\ig H2 a y o/\Q (.bl o.isSome) H2
def JR (ty td:TE):TE:=λσ H Q=>ty σ H λy H1=>td σ H1 λx H2=>∃a o,x=.ref a/\ig H2 a y o/\Q (.bl (!o.isSome)) H2
def JS (td ty tv:TE):TS:=λD σ H=>tv σ H λv H1=>td σ H1 λx H2=>ty σ H2 λy J=>∃a z,x=.ref a/\kK J a y v z/\D.nx σ z
section
variable {X:Cx}{o i e value:Expr}{pos pos' tpos:Pos}{td ty tv:TE}
theorem jr (L:X.A.units+1<cLine)(U:PE X o td)(hi:PE X i ty)(Y:Di i):PE X (.Subscript o i pos) (JP td ty):=by
 intro pins s σ H Q I h;refine JN PySem.F.slot_dict_getitem.lookup Y (gy (U pins s σ H _ I h) λu s1 ⟨x,H1,I1,rx,q1⟩=>gy (hi pins s1 σ H1 _ I1 q1) λiv s2 zq=>?_);obtain⟨y,H2,J,ry,a,v,ex,g,q2⟩:=zq;subst ex;obtain rfl:u=Value.ref a:=rx;exact⟨JO J g,JI L J g ry λw' s3 I3 z=>⟨v,H2,I3,z,q2⟩⟩
theorem vP (z:X.A.units+1<cLine)(hi:PE X i ty)(J:PE X o td):PC X .In i o (JQ ty td):=by
 intro pins s σ H Q I h;refine gy (hi pins s σ H _ I h) λiv L ⟨y,H1,U,Y,q1⟩=>gy (J pins L σ H1 _ U q1) λu s2 zq=>?_;obtain⟨x,H2,I2,rx,a,ov,ex,g,q2⟩:=zq;subst ex;obtain rfl:u=Value.ref a:=rx;exact JJ z I2 g Y λs3 I3=>⟨.bl ov.isSome,H2,I3,rfl,q2⟩
theorem vQ (z:X.A.units+1<cLine)(hi:PE X i ty)(J:PE X o td):PC X .NotIn i o (JR ty td):=by
 intro pins s σ H Q I h;refine gy (hi pins s σ H _ I h) λiv L ⟨y,H1,U,Y,q1⟩=>gy (J pins L σ H1 _ U q1) λu s2 zq=>?_;obtain⟨x,H2,I2,rx,a,ov,ex,g,q2⟩:=zq;subst ex;obtain rfl:u=Value.ref a:=rx;exact JK z I2 g Y λs3 I3=>⟨.bl (!ov.isSome),H2,I3,rfl,q2⟩
theorem mF (z:X.A.units+1<cLine)(J:PE X o td)(hi:PE X i ty)(L:PE X value tv)(U:swapsWith value (some (.Subscript o i pos')) pos.line X.env=pure false):
 PS X (.Assign [.Subscript o i pos'] value pos) (JS td ty tv):=by
 intro pins s σ H D I h;refine wpAny_Assign_Subscript (gy (L pins s σ H _ I h) λr Y ⟨v,H1,I1,rv,q1⟩=>gy (J pins Y σ H1 _ I1 q1) λu s2 ⟨x,H2,I2,rx,q2⟩=>gy (hi pins s2 σ H2 _ I2 q2) λiv s3 zq=>?_) U;obtain⟨y,H3,I3,ry,a,H4,ex,g,q3⟩:=zq;subst ex;obtain rfl:u=Value.ref a:=rx;exact JL z I3 g ry rv λs4 I4=>⟨σ,H4,I4,q3⟩
end
theorem JT {P:Program}{w:World}{H:Hp}(h:Heap)(z:sysModules<h.objs.size):iN P w H (h.push { cls:=.type "dict",data:=.dict #[] }) h.objs.size (.dK []):=
 ⟨Q0g _,beq_eq_false_iff_ne.mpr (Ne.symm (Q08 z)),[],.nil,Heap.DictOf.new h⟩
def JU:TE:=λ_ H Q=>∀p,H p=none->Q (.ref p) (upd H p (.dK []))
section
variable {X:Cx}{pos:Pos}
theorem pU:PE X (.Dict [] [] pos) JU:=λpins s σ H Q I h=>
 wpAny_Dict_empty ⟨.ref s.heap.objs.size,_,I.laid (a:=s.heap.objs.size) (o:=.dK []) (t':=s.toks) (λ_ _ q=>Q06 _ q) (Q00 _) (JT s.heap I.big),rfl,h _ (I.hok.fresh (Q00 _))⟩
end
section
variable {X:Cx}{pins:List (Addr × Obj)}{σ:St}{H:Hp}{s:Shared}{a:Addr}{y d:V}{u r:Value}{o:Option V}{A:Around}{E:Value->Shared->Prop}
end
section
variable {X:Cx}{o e f:Expr}{apos cpos:Pos}{td ty tx:TE}
end
section
variable {X:Cx}{pins:List (Addr × Obj)}{σ:St}{H:Hp}{s:Shared}{a:Addr}{kvs:List (Key × V)}{A:Around}{E:Value->Shared->Prop}
end
section
variable {X:Cx}{pins:List (Addr × Obj)}{σ:St}{H:Hp}{s:Shared}{a:Addr}{y:V}{u:Value}{A:Around}{E:Value->Shared->Prop}
end
end L2
namespace Dj
open W Calls PyProof.Rows
theorem JV {P:Params}{h:Heap}:∀(ns:List Int) (vs:List Value),WellAll P h vs (ns.map WData.int)->IntsAre vs ns:=by
 intro ns
 induction ns with
 |nil=>
  intro vs w;rw[List.map_nil] at w
  cases w;exact .nil
 |cons n ns z=>
  intro vs w;rw[Q0q] at w
  cases w with
  |cons a b=>
   cases a;exact .cons _ _ (z _ b)
theorem JW {l:OpenLaw}{n:Nat}(hn:l.most=some n){P:Params}{h:Heap}{args:List WData}{z:List Value}
 (J:l.row.toRowW.claim.pre args=true) (aa:WellAll P h z args):
 ∃a vs ns,z=[Value.ref a]/\args=[WData.list (ns.map WData.int)]/\h.get? a=some { cls:=.type "list",data:=.seq vs.toArray }/\IntsAre vs ns/\ns.length<=n:=by
 have ab:WShape.hasAll [] args [.list .int]=true:=(pre_splitW J).1;have hc:l.pre.holds [] { args:=args }=true:=(pre_splitW J).2;obtain⟨d,r,rfl,h1,h2⟩:=hasAllW_cons ab;obtain rfl:=hasAllW_nil h2;obtain⟨xs,rfl,h3⟩:=hasW_list h1;obtain⟨ns,rfl⟩:=items_int h3
 have L:ns.length<=n:=by
  unfold OpenLaw.pre at hc
  have Y:(WTm.not (.lt (.lit (.int (n:Int))) (.len (.arg 0)))).holds [] { args:=[.list (ns.map .int)] }=true:=by
   have Y:=(holds_andW hc).1;rw[hn] at Y;exact Y
  have h5:=condW_of Y (w_not (w_lt w_lit (w_len_list (w_arg rfl))));rw[Q04] at h5;refine Q1d λq=>?_;have q':(n:Int)<((ns.length:Nat):Int):=by omega
  first
   |(rw[decide_eq_true q'] at h5;exact absurd h5 (by decide))
   |(simp at h5;omega)
 cases aa with
 |cons w1 w2=>
  cases w2
  cases w1 with
  |list ho U=>exact⟨_,_,ns,rfl,rfl,ho,JV ns _ U,L⟩
theorem JX (l:OpenLaw)(args:List WData):l.row.toRowW.claim.post args (.bool true) args=true:=
 postW_of (r:=l.row.toRowW) (X:=(true == true))
  (show WShape.has [] (.bool true) .bool=true by first|rfl|decide|simp[WShape.has,WShape.arms,WShape.armsAll])
  (show(WTm.eq .res (.lit (.bool true))).value [] { args:=args,res:=some (.bool true),after:=args }=some (.bool (true == true)) from w_eq_bool (w_res rfl) w_lit) rfl
theorem JY {l:OpenLaw}{n:Nat}{q:Program}{loose:List Str}{XP:(Str->Option Value)->Heap->Prop}{YP:World->Heap->Prop}{d:DefRec}
 (hn:l.most=some n) (ae:d.params.defaults=[])
 (call:∀(w:World) (s₀ z:Shared) (mg mb:Str->Option Value) (U:Addr) (o:Obj) (pm cd J:Value) (a:Addr) (vs:List Value) (ns:List Int),
   Ground q loose [] XP w s₀ mg mb z.heap->YP w z.heap->
   z.heap.get? U=some o->o.data=.func (docDef d.name d.params d.body d.scope pm cd J)->z.heap.CodeRec cd d.name->mg d.name=some (.ref U)->
   z.heap.get? a=some { cls:=.type "list",data:=.seq vs.toArray }->IntsAre vs ns->ns.length<=n->z.gens=#[]->
   codeAny (model l.prog w) callerA (.call (.ref U) ⟨[.ref a],[]⟩) (λr s'=>r=.ok (.ret (.bool true))/\OldK z.heap s'.heap/\s'.os=z.os/\AllBare s'.gens) z):
 WalkO q loose XP YP l.row.toRowW d [] (λf vs=>PySem.call f vs):=by
 intro w s₀ z mg mb G Y U o pm cd J dV kV ho hd af hD ag hg args ai as aa aj ak ah al;obtain rfl:dV=.none:=Dflts.none hD ae;obtain rfl:kV=.none:=Dflts.noKw hD;obtain⟨a,vs,ns,rfl,rfl,ab,L,ac⟩:=JW hn aa ah;refine enter_call (codeAny_mono (call w s₀ z mg mb U o pm cd J a vs ns G Y ho (fd_plain hd) af ag ab L ac hg) λr s' hq=>?_);obtain⟨rfl,h2,h3,h4⟩:=hq;exact⟨.inl ⟨.bool true,.bool true,[],rfl,λ_=>rfl,.bool true,JX l _,λ_=>⟨List.Pairwise.nil,λ_ hm=>(nomatch hm)⟩⟩,h2,h3,h4⟩
section
variable {prog:Program}{w:World}{A:Around}{E:Value->Shared->Prop}{s:Shared}{K:Frag}
end
end Dj
namespace L2
open Spec PyProof.Rows
theorem Dk:∀{vs:List Value}{ns:List Int},IntsAre vs ns->Vals (ns.map V.int) vs
 |_,_,.nil=>.nil
 |_,_,.cons n t h=>.cons ⟨t,rfl⟩ (Dk h)
abbrev fW:jU:=λ_ _ _ _ _ _=>False
abbrev E0:XK:=λ_ _ _=>False
theorem k_ {X:Cx}:Passes fW X E0:=λ_ _ _ _ _ _ _ h=>h.elim
structure l8 (K:W.Frag) (x qual:Str) (st:Stmt) (f:Addr) (fd:FuncData):Prop where
 ex:∃(oc:Value) (od:Option Addr) (kV doc pm:Value) (an:Option Addr) (cdv ct:Value) (osl:Array (Option Value)),
  fd=W.fnOf x qual (jy st) (i3 st) (gn st) .none kV doc pm an cdv ct/\K.lookup f=some ⟨oc,od,.func fd,osl⟩/\W.codeIn K cdv qual=true
 kp:W.keepIn K (.ref f)=true
variable {P:Program}{w:World}{K:W.Frag}{mg:Str->Option Value}{base:Heap}
def FnBody (P:Program) (w:World) (K:W.Frag) (mg:Str->Option Value) (base:Heap) (N ps:List Str) (qual:Str) (st:Stmt) (f:Addr) (k:Nat) (vs:List V) (H:Hp) (Q:VK) (E:XK):Prop:=vs.length=ps.length/\∀(z:Value) (A:Around) (outer:List Env) (s:Shared),N.Nodup->ie k (A.deeper (envOfC qual (gn st) s.heap.objs.size f z))->(A.deeper (envOfC qual (gn st) s.heap.objs.size f z)).units+1<cLine->∃t,j4 (gD fW P w K mg base N qual (gn st) f z A outer s H E).gE (i3 st) t/\t { nx:=λ_ H'=>Q .non H',rt:=Q } (start N vs) H
theorem l8.ok {x qual:Str}{st:Stmt}{f:Addr}{fd:FuncData}{N ps:List Str}{k:Nat}{sp:Sp}(F:l8 K x qual st f fd)(S:gM N ps (gn st))
 (z:∀(vs:List V) (H:Hp) (Q:VK) (E:XK),sp vs H Q E->FnBody P w K mg base N ps qual st f k vs H Q E):e_ P w K mg base fW (k+1) f fd ps sp:=by
 obtain⟨oc,od,kV,aa,pm,an,J,ct,ab,rfl,lk,L⟩:=F.ex;refine vG lk L S (λvs H Q E h=>(z vs H Q E h).1) λA outer s H vs Q E Y U=>?_;obtain⟨t,h,q⟩:=(z vs H Q E U).2 J A outer s S.nd Y (Q1h (Q1v (by decide:1<=64) _) Y.units);exact⟨t,h.gE,q⟩
theorem l8.binds {x qual:Str}{st:Stmt}{f:Addr}{fd:FuncData}{ps:List Str}(F:l8 K x qual st f fd)
 (h:∀(kV z L:Value) (U:Option Addr) (J ct:Value) (us:List Value),us.length=ps.length->bindArgs (W.fnOf x qual (jy st) (i3 st) (gn st) .none kV z L U J ct) ⟨us,[]⟩=pure (ps.zip us)):Binds K fd ps []:=by
 obtain⟨oc,od,kV,z,L,U,J,ct,Y,rfl,lk,aa⟩:=F.ex;exact .all (h kV z L U J ct)
theorem pV {x qual:Str}{st:Stmt}{f:Addr}{oc:Value}{od U:Option Addr}{L:Array (Option Value)}{kV J Y z ct:Value}(l:K.lookup f=some ⟨oc,od,.func (W.fnOf x qual (jy st) (i3 st) (gn st) .none kV J Y U z ct),L⟩)
 (c:W.codeIn K z qual=true) (k:W.keepIn K (.ref f)=true):l8 K x qual st f (W.fnOf x qual (jy st) (i3 st) (gn st) .none kV J Y U z ct):=⟨⟨oc,od,kV,J,Y,U,z,ct,L,rfl,l,c⟩,k⟩
theorem tH {A:Around}{k:Nat}(z:ie k A):A.units+1<cLine:=Q1h (Q1v (by decide:1<=64) _) z.units
theorem i2 {n:Nat}(h:n<=1000):n<sizeLine:=Q1h h (by decide)
section
variable {X:Cx}
theorem pv (i:Nat){x:Str}{pos:Pos}(J:X.N[i]? =some x:=by rfl)(L:vh X.env.scope x:=by first|exact Or.inl rfl|exact Or.inr (Or.inl rfl)|exact Or.inr (Or.inr rfl))(U:(x == ("__debug__":Str))=false:=by decide)
 (z:(x == ("__classdict__":Str))=false:=by decide):PE X (.Name x pos) (gR i):=Ie J L U z
end
theorem gP {A B:Prop}(h:B):if false=true then A else B:=by
 rw[if_neg Bool.false_ne_true];exact h
theorem ix {A B:Prop}(h:A):if true=true then A else B:=by
 rw[if_pos rfl];exact h
theorem iS {c A B:Prop} [Decidable c](h1:c->A)(h2:¬c->B):if c then A else B:=by
 by_cases h:c
 . rw[if_pos h];exact h1 h
 . rw[if_neg h];exact h2 h
theorem ku {c A B:Prop} [Decidable c](hc:c)(h:B):if(!decide c)=true then A else B:=by
 rw[decide_eq_true hc];exact gP h
def Same (H H':Hp):Prop:=∀b o,H b=some o->H' b=some o
theorem Same.refl (H:Hp):Same H H:=λ_ _ h=>h
theorem Same.trans {H H1 H2:Hp}(a:Same H H1)(b:Same H1 H2):Same H H2:=λc o h=>b c o (a c o h)
theorem Same.free {H H':Hp}(e:Same H H'){l:Addr}(h:H' l=Option.none):H l=Option.none:=by
 cases q:H l with
 |none=>rfl
 |some o=>
  rw[e l o q] at h
  cases h
section
variable {X:Cx}
theorem Dl:kI X (.builtin "len") (λxs H Q=>∃a kvs,xs=[V.ref a]/\H a=some (.dK kvs)/\Q (.int kvs.length) H):=by
 intro pins s σ H xs us Q I r h;obtain⟨a,kvs,rfl,z,q⟩:=h;obtain⟨u,rfl,J⟩:=vals1 r
 cases J;exact JM I (.inl z) λt s' L=>⟨.int kvs.length,H,L,⟨t,rfl⟩,q⟩
end
section
variable {κ:Type} [DecidableEq κ]
theorem Dp {kvs:List (κ × V)}{k:κ}{v:V}(h:gO kvs k=some v):k∈kvs.map (·.1):=by
 have q:(kvs.any λz=>decide (z.1=k))=true:=by
  rw[mE,h]
  all_goals rfl
 obtain⟨p,hp,e⟩:=List.any_eq_true.mp q;exact List.mem_map.mpr ⟨p,hp,of_decide_eq_true e⟩
end
theorem Dq {g:Str->NameKind->NameKind}{x:Str}:∀names:List (Str × NameKind),
 (names.map λy=>(y.1,g y.1 y.2)).lookup x=(names.lookup x).map (g x)
 |[]=>rfl
 |(n,k)::r=>by
  show List.lookup x ((n,g n k)::_)=_;rw[Q16,Q16,Dq r]
  cases z:x == n with
  |true=>rw[eq_of_beq z];rfl
  |false=>rfl
noncomputable def mG (env:Env) (n:Str) (k:NameKind):NameKind:=
 if(k == .free && env.scope.kind == .function && env.kindOf n == some .cell)=true then .cell else k
theorem Dr (scope:Scope)(env:Env)(x:Str):
 (relabel scope env).names.lookup x=(scope.names.lookup x).map (mG env x):=by
 rw[<-Dq (g:=mG env) scope.names];show List.lookup x (scope.names.map _)=_;congr 1;apply Q1i;rintro⟨n,k⟩ _;show(if _ then _ else _)=(n,mG env n k);unfold mG;split <;> rfl
theorem JZ {env:Env}{x:Str}{k:NameKind}(h:mG env x k=.local):k=.local:=by
 unfold mG at h;split at h
 . cases h
 . exact h
theorem J0 {env:Env}{x:Str}{k:NameKind}(h:mG env x k=.cell):k=.free\/k=.cell:=by
 unfold mG at h;split at h
 . rename_i c;left;simp only[Bool.and_eq_true] at c;exact eq_of_beq c.1.1
 . exact .inr h
theorem J1 {env:Env}{x:Str}{k:NameKind}(h:mG env x k=.free):k=.free:=by
 unfold mG at h;split at h
 . cases h
 . exact h
theorem vR {env:Env}:∀(names:List (Str × NameKind)) (J:List (Str × Addr)),(∀y∈names,y.2=.free->∃c,env.cells.lookup y.1=some c)->
 (∀x c,J.lookup x=some c->env.cells.lookup x=some c)->
 ∃cl:List (Str × Addr),(forIn names J λy cs=>if(y.2 == NameKind.free)=true then(do let a <-cellOf env y.1;pure (ForInStep.yield ((y.1,a)::cs))) else pure (ForInStep.yield cs))=(pure cl:Sem _)/\
  (∀x c,cl.lookup x=some c->env.cells.lookup x=some c)/\(∀x,((x,NameKind.free)∈names\/(J.lookup x).isSome=true)->cl.lookup x=env.cells.lookup x)
 |[],J,_,L=>⟨J,rfl,L,λx z=>by
    rcases z with z|z
    . cases z
    . obtain⟨c,e⟩:=Option.isSome_iff_exists.mp z;rw[e,L x c e]⟩
 |(n,k)::r,J,U,L=>by
  by_cases hk:k=.free
  . subst hk;obtain⟨c,e⟩:=U (n,.free) Q05 rfl;have e:env.cells.lookup n=some c:=e
    have aa:∀x d,((n,c)::J).lookup x=some d->env.cells.lookup x=some d:=λx d h=>by
     rw[Q16] at h
     cases z:x == n with
     |true=>
      rw[z] at h
      cases h;rw[eq_of_beq z];exact e
     |false=>
      rw[z] at h;exact L x d h
    obtain⟨cl,h1,h2,Y⟩:=vR r ((n,c)::J) (λy hy=>U y (Q0d _ hy)) aa;refine⟨cl,?_,h2,λx z=>Y x ?_⟩
    . rw[Q32];have ec:cellOf env n=pure c:=by unfold cellOf;rw[e]
      simp only[beq_self_eq_true,if_true,ec,pure_bind];exact h1
    . rcases z with z|z
      . rcases List.mem_cons.mp z with q|q
        . right
          cases q;rw[Q16,beq_self_eq_true];rfl
        . exact .inl q
      . right;rw[Q16]
        cases x == n with
        |true=>rfl
        |false=>exact z
  . obtain⟨cl,h1,h2,Y⟩:=vR r J (λy hy=>U y (Q0d _ hy)) L;refine⟨cl,?_,h2,λx z=>Y x ?_⟩
    . rw[Q32];have eb:(k == NameKind.free)=false:=by simpa using hk
      simp only[eb,Bool.false_eq_true,if_false,pure_bind];exact h1
    . rcases z with z|z
      . rcases List.mem_cons.mp z with q|q
        . cases q;exact absurd rfl hk
        . exact .inl q
      . exact .inr z
theorem rm {scope:Scope}{env:Env}(J:∀y∈scope.names,y.2=.free->∃c,env.cells.lookup y.1=some c):
 ∃cl:List (Str × Addr),closureFor scope env=pure cl/\(∀x c,cl.lookup x=some c->env.cells.lookup x=some c)/\(∀x,(x,NameKind.free)∈scope.names->cl.lookup x=env.cells.lookup x):=by
 obtain⟨cl,h1,h2,L⟩:=vR scope.names [] J (λx c h=>by cases h);refine⟨cl,?_,h2,λx U=>L x (.inl U)⟩;unfold closureFor
 have e:(forIn scope.names ([]:List (Str × Addr)) λy z=>do
  let mut z:=z
  match y with
  |(name,kind)=>if(kind == NameKind.free)=true then z:=(name,<-cellOf env name)::z
  pure (ForInStep.yield z))=(pure cl:Sem _):=by
  rw[<-h1]
 first
  |exact(by simpa using e)
  |(show(forIn scope.names ([]:List (Str × Addr)) _ >>= λz=>pure z)=_;rw[bind_pure];exact e)
structure kM (X:Cx) (own:List Str) (scope:Scope):Prop where
 kind:scope.kind=.function
 cell:∀y∈scope.names,y.2≠ .cell
 names:∀y∈scope.names,y.2=.local->scope.names.lookup y.1=some .local
 free:∀y∈scope.names,y.2=.free->X.env.kindOf y.1=some .cell\/X.env.kindOf y.1=some .free
 nd:(own++X.N).Nodup
 outer:∀x∈X.N,scope.names.lookup x≠some .local
noncomputable def jL (X:Cx) (own:List Str) (scope:Scope) (cl:List (Str × Addr)) (C:Addr) (fp:List Addr) (z:Shared) (J:Hp):Cx:=
 { X with N:=own++X.N,s₀:=z,H₀:=J,env:=compEnvC scope cl C X.env,outer:=X.stack,ex:=fp,fn:=λ_=>false,pn:=[],xe:=λ_ _=>False }
def rn (X:Cx) (z:List Expr) (t:TT):Prop:=
 ∀(pins:List (Addr × Obj)) (s:Shared) (σ:St) (H:Hp) (Q:Bool->Hp->Prop),Inv X pins σ H s->t σ H Q->
  wpAny (model X.prog X.w) X.A (forIn z true λc r=>if r=true then do let ok <-isTrue c X.env (eval c X.env);pure (ForInStep.yield ok) else pure (ForInStep.yield r)) (TP X pins σ Q) X.xe s
def kx:TT:=λ_ H Q=>Q true H
theorem lb {X:Cx}:rn X [] kx:=λpins s σ H Q I h=>wpAny_tests_nil ⟨H,I,h⟩
theorem rq {X:Cx}{c:Expr}{t:TT}(h:PT X c t):rn X [c] t:=λpins s σ H Q I q=>wpAny_tests_one (h pins s σ H Q I q)
def Dt (k:Nat) (Y:TI) (g:TG) (tt:TT) (te:TE):TE:=λσ H Q=>Y σ H λJ H1=>
 ∃W:Nat->Nat->List V->Hp->Prop,(∃m,W 0 m [] H1)/\∀i m ys H,W i m ys H->
  (J.stop i H/\∀p,H p=none->Q (.ref p) (upd H p (.lst ys)))\/
  (J.go i H/\ys.length<sizeLine/\∀x H',J.mT i H x H'->g x (List.replicate k none++σ) H' λz H2=>z.drop k=σ/\
    tt z H2 λb U=>if b=true then te z U λy H4=>∃L,L<m/\W (i+1) L (ys++[y]) H4 else ∃L,L<m/\W (i+1) L ys U)
section
variable {prog:Program}{w:World}{A:Around}{R:Result->Shared->Prop}{s:Shared}
theorem J3 {ah J iter:Expr}{ai:List Expr}{scope:Scope}{pos:Pos}{it ag:Value}{env:Env}(I:Nat->Shared->Prop)
 (turn:∀n s,I n s->wpAny (model prog w) A (pyNext it) (λr L=>
   match r with
   |none=>R (.ok .next) L
   |some v=>wpAny (model prog w) A (letOwnedTupleGo J it v) (λ_ Y=>wpAny (model prog w) A (assign J env v) (λ_ aa=>
     wpAny (model prog w) A (forIn ai true λc r=>if r=true then do let ok <-isTrue c env (eval c env);pure (ForInStep.yield ok) else pure (ForInStep.yield r)) (λok U=>
      if ok=true then wpAny (model prog w) A (eval ah env) (λx ab=>
       wpAny (model prog w) A (call (.builtin "list.append") [ag,x]) (λ_ ac=>∃m,m<n/\I m ac) (λ_ _=>False) ab) (λ_ _=>False) U
      else ∃m,m<n/\I m U) (λ_ _=>False) aa) (λ_ _=>False) Y) (λ_ _=>False) L) (λ_ _=>False) s)
 (n:Nat) (h:I n s):
 codeAny (model prog w) A (.compLoop (.ListComp ah [⟨J,iter,ai,0⟩] scope pos) 0 it ag env) R s:=by
 refine codeAny_loop rfl I (λn s hI=>?_) n h;show wpAny _ A ((compTurn _ 0 it ag env).onRaise _) _ _ s;refine wpAny_noted ?_;rw[compTurn_list]
 have no:∀{α:Type} {t:Sem α} {Q Q':α->Shared->Prop} {E:Value->Shared->Prop} {s:Shared},wpAny (model prog w) A t Q (λ_ _=>False) s->(∀a s,Q a s->Q' a s)->wpAny (model prog w) A t Q' E s:=
  λh k=>Q0l h k λ_ _ z=>z.elim
 refine Q0 (wpAny_standAt (Q0 (no (turn n s hI) λr L ae=>?_)))
 cases r with
 |none=>exact Q02 ae
 |some v=>
  refine Q0 (no ae λ_ Y aj=>?_);refine Q0 (no aj λ_ aa ak=>Q0 (no ak λok U af=>?_))
  cases ok with
  |false=>exact Q02 ⟨rfl,af⟩
  |true=>
   refine Q0 (Q0 (no af λx ab al=>?_));exact Q0 (no al λ_ ac am=>Q02 (Q02 ⟨rfl,am⟩))
end
noncomputable abbrev ky (us:List Value) (n:Nat):Obj:={ cls:=.type "list",data:=.seq us.toArray n }
section
variable {X:Cx}{own:List Str}{scope:Scope}
theorem kM.cells (S:kM X own scope){pins:List (Addr × Obj)}{σ:St}{H:Hp}{s:Shared}(I:Inv X pins σ H s):
 ∀y∈scope.names,y.2=.free->∃c,X.env.cells.lookup y.1=some c:=λy z J=>I.ok.has y.1 (S.free y z J)
theorem kM.freeOf (S:kM X own scope){x:Str}(h:(relabel scope X.env).names.lookup x=some .cell\/(relabel scope X.env).names.lookup x=some .free):(x,NameKind.free)∈scope.names:=by
 rw[Dr] at h
 cases e:scope.names.lookup x with
 |none=>rw[e] at h;rcases h with h|h <;> cases h
 |some k=>
  rw[e] at h;have z:(x,k)∈scope.names:=PySem.mem_of_lookup e
  have hk:k=.free:=by
   rcases h with h|h
   . rcases J0 (Option.some.inj h) with q|q
     . exact q
     . exact absurd q (S.cell _ z)
   . exact J1 (Option.some.inj h)
  rw[<-hk];exact z
theorem kM.J4 (S:kM X own scope){x:Str}(z:x∈X.N):(relabel scope X.env).names.lookup x≠some .local:=λh=>by
 rw[Dr] at h
 cases e:scope.names.lookup x with
 |none=>rw[e] at h;cases h
 |some k=>
  rw[e] at h;have:=JZ (Option.some.inj h);subst this;exact S.outer x z e
theorem Du {k:Nat}{σ:St}{i:Nat}{v:V}(h:(List.replicate k none++σ)[i]? =some (some v)):k<=i/\σ[i - k]? =some (some v):=by
 by_cases hi:i<k
 . rw[Q2d (by simpa using hi),Q3] at h;split at h <;> cases h
 . refine⟨Q1d hi,?_⟩;rw[Q1t (by simpa using hi)] at h;simpa using h
theorem Inv.block {pins:List (Addr × Obj)}{σ:St}{H:Hp}{s:Shared}{fp:List Addr}{cl:List (Str × Addr)}{C D:Addr}{L:Heap}{m:Str->Option Value}{t':Nat}{us:List Value}{n:Nat}(I:Inv X pins σ H s)(S:kM X own scope)
 (hf:∀b∈fp,jO X pins H b) (ag:∀b∈fp,b<s.heap.objs.size)
 (J:∀x c,cl.lookup x=some c->X.env.cells.lookup x=some c) (aa:∀x,(x,NameKind.free)∈scope.names->cl.lookup x=X.env.cells.lookup x)
 (hC:s.heap.objs.size<=C) (hD:s.heap.objs.size<=D) (ah:D≠C) (hn:L.Ns C m) (Y:∀b o,s.heap.get? b=some o->L.get? b=some o) (af:L.get? D=some (ky us n)):
 Inv (jL X own scope cl C fp s H) [(D,ky us n)] (List.replicate own.length none++σ) H { s with heap:=L,toks:=t' }:=by
 have ok:=I.ok
 have pK:∀b:Addr,s.heap.objs.size<=b->b ∉ frs X.stack:=λb U z=>by
  rcases List.mem_cons.mp (I.pL b z) with e|e
  . exact absurd I.lt (by rw[<-e];exact Nat.not_lt.mpr U)
  . exact I.pK U e
 have fresh:∀b:Addr,s.heap.objs.size<=b->H b=none:=λb U=>I.hok.fresh U
 have al:∀x c,cl.lookup x=some c->c<s.heap.objs.size:=λx c e=>by
  obtain⟨v,q⟩:=I.cell x c (J x c e);exact q.lt
 refine⟨⟨ok.mod,S.kind,ok.glob,ok.blt,hC,λx y c e1 e2=>ok.inj x y c (J x c e1) (J y c e2),λx hx=>?_,λx c hx _=>(nomatch hx),ok.hd,ok.frames,.inl rfl,λb U=>?_,I.bs,Q0b ok.l5 I.sz,λb o e U=>?_,λb U z=>?_,I.stack,I.qQ⟩,
  rfl,I.bare,Un.kept Y,⟨m,hn,λi x v e1 e2 e3=>?_⟩,λx c e=>?_,fresh C hC,λx c e=>?_,λp hp=>?_,I.hok.kept Y,?_⟩
 . have hm:=S.freeOf (x:=x) hx;obtain⟨c,e⟩:=ok.has x (S.free _ hm rfl);exact⟨c,by rw[show(jL X own scope cl C fp s H).env.cells=cl from rfl,aa x hm];exact e⟩
 . refine⟨Q08 (Q0c (ag b U) hC),λx c e z=>?_⟩;exact(hf b U).2.2.2.2.1 x c (J x c e) z
 . rcases(hf b U).2.2.2.1 with z|z
   . exact ok.pJ b o e z
   . exact absurd (Q0c (Q01 e) (Q0b ok.l5 z)) (Q0p _)
 . rcases List.mem_cons.mp (I.pL b z) with q|q
   . exact(hf b U).2.1 q
   . exact(hf b U).2.2.1 q
 . obtain⟨hk,ai⟩:=Du e2
   have ab:X.N[i - own.length]? =some x:=by
    have e1:(own++X.N)[i]? =some x:=e1;rw[Q1t hk] at e1;exact e1
   have aj:x∈X.N:=Q0s ab
   have ac:(relabel scope X.env).names.lookup x=some .cell\/(relabel scope X.env).names.lookup x=some .free:=by
    rcases e3 with q|q
    . exact absurd q (S.J4 aj)
    . exact q
   have hm:=S.freeOf ac;have ae:=S.free _ hm rfl;obtain⟨mX,am,ak⟩:=I.loc;obtain⟨u,r,lk⟩:=ak _ x v ab ai (.inr ae);refine⟨u,r,.inr ⟨ac,?_⟩⟩;rcases lk with⟨q,_⟩|⟨_,c,ec,hc⟩
   . rcases ae with z|z
     . rw[z] at q;cases q
     . rw[z] at q;cases q
   . obtain⟨o,ho,hd⟩:=hc;exact⟨c,(aa x hm).trans ec,o,Y _ _ ho,hd⟩
 . obtain⟨v,o,ho,hd⟩:=I.cell x c (J x c e);exact⟨v,o,Y _ _ ho,hd⟩
 . exact I.jY x c (J x c e)
 . have e:p=(D,ky us n):=by
    have hp:p∈([]++[(D,ky us n)]:List (Addr × Obj)):=hp;simpa using hp
   subst e
   exact⟨af,fresh D hD,ah,pK D hD,λv z=>by
    have z:Data.seq us.toArray n=Data.cell v:=z
    cases z⟩
 . show _=(own++X.N).length;rw[Q0a,Q0a,Q1e,I.len]
theorem Inv.unblock {pins:List (Addr × Obj)}{σ aa:St}{H H3:Hp}{s s3:Shared}{fp:List Addr}{cl:List (Str × Addr)}{C D:Addr}{h':Heap}{us:List Value}{n:Nat}{ys:List V}{pl:List (Addr × Obj)}(I:Inv X pins σ H s)
 (hf:∀b∈fp,jO X pins H b) (J:Inv (jL X own scope cl C fp s H) pl aa H3 s3) (ab:(D,ky us n)∈pl) (hC:s.heap.objs.size<=C) (hD:s.heap.objs.size<=D) (ac:D≠C)
 (r:Vals ys us) (hz:ys.length<=sizeLine) (hs:Heap.SameBut C s3.heap h'):Inv X pins σ (upd H3 D (.lst ys)) { s3 with heap:=h' }/\H3 D=none:=by
 obtain⟨eD,Y,_,_,_⟩:=J.pin (D,ky us n) (Q09 _ ab);have nC:H3 C=none:=J.free;have kC:∀b o,b≠C->s3.heap.get? b=some o->h'.get? b=some o:=λb o L e=>(hs.2 b L).trans e;refine⟨I.call' (ch:=fp) J.os ⟨λb o e nb L U=>?_,λb o e nb L U=>?_,λb o e nb U=>?_,λb o e U=>?_,λb xs e=>?_,λb o u e=>?_,λb ps e=>?_⟩ (λb o e=>?_) J.bare (λb L=>?_),Y⟩
 . exact kC b o (Q08 (Q0c (Q01 e) hC)) (J.base.keep b o e nb L U)
 . obtain⟨sl,e1⟩:=J.base.slot b o e nb L U;exact⟨sl,kC b _ (Q08 (Q0c (Q01 e) hC)) e1⟩
 . rw[fV (Q08 (Q0c (Q01 e) hD))];exact J.base.free b o e nb U
 . obtain⟨o',e1⟩:=J.base.there b o e U;exact⟨o',kC b _ (Q08 (Q0c (Q01 e) hC)) e1⟩
 . have q:=J.base.tups b xs e;rw[fV (gc q Y)];exact q
 . have q:=J.base.j3 b o u e;rw[fV (gc q Y)];exact q
 . obtain⟨mo,q⟩:=J.base.km b ps e;exact⟨mo,by rw[fV (gc q Y)];exact q⟩
 . by_cases L:b=D
   . subst L;rw[fZ] at e;cases e;exact⟨hz,us,n,r,kC b _ ac eD⟩
   . rw[fV L] at e;refine(J.hok b o e).stay (λc v hc q=>kC c v ?_ q) (λc q=>by rw[fV (gc q Y)];exact q) λc xs q=>by rw[fV (gc q Y)];exact q
     rcases hc with z|z
     . rw[z];exact gc e nC
     . exact gc z nC
 . obtain⟨_,f1,_,f3,f4,f5⟩:=hf b L;exact⟨f3,f1,f4,f5⟩
theorem Dv {tg iter ar:Expr}{au:List Expr}{pos:Pos}{g:TG}{tt:TT}{te:TE}{pins:List (Addr × Obj)}{σ:St}{H2:Hp}{L:Shared}{it:Addr}{fp:List Addr}{tn:Nat->Heap->Prop}{J:It}{cl:List (Str × Addr)}{Fin:List V->Hp->Prop}{W:Nat->Nat->List V->Hp->Prop}{m0:Nat}
 {RR:Value->Addr->Result->Shared->Prop} (hc:X.calm=true) (S:kM X own scope) (ai:∀x c,cl.lookup x=some c->X.env.cells.lookup x=some c) (aH:∀x,(x,NameKind.free)∈scope.names->cl.lookup x=X.env.cells.lookup x)
 (I2:Inv X pins σ H2 L) (T:Turn X.prog X.w X.K tg J fp it tn) (ay:tn 0 L.heap) (f2:∀b∈fp,jO X pins H2 b) (w0:W 0 m0 [] H2)
 (turn:∀i m ys H,W i m ys H->(J.stop i H/\Fin ys H)\/
   (J.go i H/\ys.length<sizeLine/\∀x H',J.mT i H x H'->g x (List.replicate own.length none++σ) H' λav H2=>av.drop own.length=σ/\
     tt av H2 λb H3=>if b=true then te av H3 λy H4=>∃m',m'<m/\W (i+1) m' (ys++[y]) H4 else ∃m',m'<m/\W (i+1) m' ys H3))
 (hg:∀cl C fp ac ae,PG (jL X own scope cl C fp ac ae) tg g) (ht:∀cl C fp ac ae,rn (jL X own scope cl C fp ac ae) au tt) (he:∀cl C fp ac ae,PE (jL X own scope cl C fp ac ae) ar te)
 (aM:∀(C D:Addr) (s5:Shared) (H5:Hp) (ys:List V) (us:List Value) (k:Nat),L.heap.objs.size<=C->L.heap.objs.size<=D->D≠C->Inv (jL X own scope cl C fp L H2) [(D,ky us k)] (List.replicate own.length none++σ) H5 s5->Vals ys us->ys.length<=sizeLine->Fin ys H5->RR (.ref D) C (.ok .next) s5):
 wpAny (model X.prog X.w) X.A (newList []) (λaz af=>wpAny (model X.prog X.w) X.A (newFunctionEnv scope X.env.globals cl [] X.env.qual none .none (some X.env)) (λal aI=>
  codeAny (model X.prog X.w) X.A (.compStart (.ListComp ar [⟨tg,iter,au,0⟩] scope pos) 0 (.ref it) az { al with scope:=relabel scope X.env }) (RR az al.locals) aI) X.xe af) X.xe L:=by
 have ak:∀b∈fp,b<L.heap.objs.size:=λb U=>by
  obtain⟨o,e,_⟩:=T.obj _ _ ay b U;exact Q01 e
 refine wpAny_newObj_type (wpAny_newFunctionEnv S.cell (by intro y hy;simp at hy) (λag aa Y=>?_) S.kind);dsimp only at aa Y ⊢;generalize hG:L.heap.push { cls:=.type "list",dict:=none,data:=.seq ([]:List Value).toArray }=G at aa Y ⊢;have aA:G.objs.size=L.heap.objs.size+1:=by rw[<-hG,Q11]
 have hC:L.heap.objs.size<=G.objs.size:=by rw[aA];exact Q1 _
 have aw:L.heap.objs.size≠G.objs.size:=by rw[aA];exact Q08 (Q12 _)
 have aB:∀b o,L.heap.get? b=some o->ag.get? b=some o:=λb o e=>
  Y.extBut b o (Q08 (Q0c (Q01 e) hC)) (Q06 _ (hG ▸ Q06 _ e))
 have aJ:ag.get? L.heap.objs.size=some (ky [] 0):=Y.extBut _ _ aw (Q06 _ (hG ▸ Q0h _ rfl));have I3:=I2.block (cl:=cl) (t':=L.toks+([]:List (Str × Value)).length) S f2 ak ai aH hC (Q00 _) aw aa aB aJ;have aD:tn 0 ag:=T.keep _ _ _ ay λb _ o e=>aB b o e;have aN:∀b∈fp,H2 b=none:=λb U=>(f2 b U).1
 have aj:∀{H':Hp} {us:List Value} {n:Nat},(∀b∈fp,H' b=none)->∀b∈fp,jO (jL X own scope cl G.objs.size fp L H2) [(L.heap.objs.size,ky us n)] H' b:=λ{H' us n} hn b U=>by
  refine⟨hn b U,Q08 (Q0c (ak b U) hC),λz=>?_,.inl U,λx c e=>(f2 b U).2.2.2.2.1 x c (ai x c e),λp hp=>?_⟩
  . rcases List.mem_cons.mp (I2.pL b z) with q|q
    . exact(f2 b U).2.1 q
    . exact(f2 b U).2.2.1 q
  . have hp:p∈([]++[(L.heap.objs.size,ky us n)]:List (Addr × Obj)):=hp;have e:p=(L.heap.objs.size,ky us n):=by simpa using hp
    subst e;exact Q0u (ak b U)
 have am:∀af:Shared,af={ L with heap:=ag,toks:=L.toks+([]:List (Str × Value)).length }->
  codeAny (model X.prog X.w) X.A (.compLoop (.ListComp ar [⟨tg,iter,au,0⟩] scope pos) 0 (.ref it) (.ref L.heap.objs.size) (compEnvC scope cl G.objs.size X.env))
   (RR (.ref L.heap.objs.size) G.objs.size) af:=by
  rintro af rfl
  refine J3 (λn s'=>∃i ys us k H',Inv (jL X own scope cl G.objs.size fp L H2) [(L.heap.objs.size,ky us k)] (List.replicate own.length none++σ) H' s'/\Vals ys us/\ys.length<=sizeLine/\tn i s'.heap/\(∀b∈fp,H' b=none)/\W i n ys H')
   ?_ m0 ⟨0,[],[],0,H2,I3,.nil,Q0g _,aD,aN,w0⟩
  intro n s4 zq;obtain⟨i,ys,us,k,H4,I4,r4,z4,aE,aF,w4⟩:=zq;rcases turn i n ys H4 w4 with⟨stop,qn⟩|⟨go,aO,step⟩
  . refine gy (T.done (jL X own scope cl G.objs.size fp L H2) rfl rfl rfl hc i _ s4 _ H4 (λ_ _=>False) I4 (aj aF) aE stop) λr s5 ⟨hr,I5⟩=>?_;subst hr;exact aM G.objs.size L.heap.objs.size s5 H4 ys us k hC (Q00 _) aw I5 r4 z4 qn
  . refine gy (T.item (jL X own scope cl G.objs.size fp L H2) rfl rfl rfl hc i _ s4 _ H4 (λ_ _=>False) I4 (aj aF) aE go) λr s5 ⟨u,hr,h5⟩=>?_;subst hr;refine gy h5 λ_ s6 zq=>?_;obtain⟨x,H6,I6,r6,y6,ah,aP⟩:=zq;have aT:=I6.pinned (aj aP) (T.obj _ _ ah);refine gy (hg cl G.objs.size fp L H2 _ s6 _ H6 x u _ aT r6 (step x H6 y6)) λ_ s7 zq=>?_;obtain⟨ab,H7,I7,d7,q7⟩:=zq;refine gy (ht cl G.objs.size fp L H2 _ s7 ab H7 _ I7 q7) λb s8 ⟨H8,I8,q8⟩=>?_;have an:(List.replicate own.length none++σ).length=ab.length:=by rw[I7.len,<-I6.len]
    have ao:∀(j:Nat) v,(List.replicate own.length none++σ)[j]? =some (some v)->ab[j]? =some (some v):=λj v e=>by
     obtain⟨hk,e'⟩:=Du e;rw[<-d7,List.getElem?_drop] at e';rw[<-e'];congr 1;omega
    cases b with
    |false=>
     have q8:∃m',m'<n/\W (i+1) m' ys H8:=q8;obtain⟨m',hm,w8⟩:=q8;refine⟨m',hm,i+1,ys,us,k,H8,I8.mC.weak an ao,r4,z4,T.keep _ _ _ ah λb U o e=>?_,λb U=>?_,w8⟩
     . exact(I8.pin (b,o) (Q09 _ (Q09 _ (qV U e)))).1
     . obtain⟨o,e,d⟩:=T.obj _ _ ah b U;exact(I8.pin (b,o) (Q09 _ (Q09 _ (qV U e)))).2.1
    |true=>
     have q8:te ab H8 λy H9=>∃m',m'<n/\W (i+1) m' (ys++[y]) H9:=q8;show wpAny _ _ _ _ _ _;refine gy (he cl G.objs.size fp L H2 _ s8 ab H8 _ I8 q8) λyv s9 zq=>?_;obtain⟨y,H9,I9,r9,m',hm,w9⟩:=zq;obtain⟨eD,nD,aG,aU,_⟩:=I9.pin (L.heap.objs.size,ky us k) (Q09 _ (Q0t _ Q05));have hl:=r4.length;refine append_at (hsz:=by rw[Q07,<-hl];exact z4) eD λax ap aK=>?_
     have aq:∀b∈fp,∀o,s6.heap.get? b=some o->s9.heap.get? b=some o/\H9 b=none:=λb U o e=>by
      have q:=I9.pin (b,o) (Q09 _ (Q09 _ (qV U e)));exact⟨q.1,q.2.1⟩
     have aV:∀b∈fp,b≠L.heap.objs.size:=λb U=>Q08 (ak b U);have aW:Inv (jL X own scope cl G.objs.size fp L H2) [] ab H9 s9:=I9.oJ λp hp=>(nomatch hp)
     have aX:Inv (jL X own scope cl G.objs.size fp L H2) [] ab H9 { s9 with heap:=ax }:=
      aW.turned (t':=s9.toks) (λb o U e=>ap.extBut b o U e) nD aG (.inr (Q00 _)) (λx c e z=>by
        obtain⟨v,q⟩:=I2.cell x c (ai x c e);exact absurd q.lt (by rw[z];exact Q0p _)) λp hp=>(nomatch hp)
     have aY:Inv (jL X own scope cl G.objs.size fp L H2) [(L.heap.objs.size,ky (us++[yv]) (k+1))] ab H9 { s9 with heap:=ax }:=aX.oJ λp hp=>by
      have e:p=(L.heap.objs.size,ky (us++[yv]) (k+1)):=by simpa using hp
      subst e
      refine⟨?_,nD,aG,aU,λv z=>by
       have z:Data.seq (us++[yv]).toArray (k+1)=Data.cell v:=z
       cases z⟩
      show ax.get? _=some { cls:=.type "list",data:=.seq (us++[yv]).toArray (k+1) };rw[<-List.push_toArray];exact aK
     refine⟨m',hm,i+1,ys++[y],us++[yv],k+1,H9,aY.weak an ao,r4.append (.cons r9 .nil),by rw[Q0a,Q15];exact aO,T.keep _ _ _ ah λb U o e=>ap.extBut b o (aV b U) (aq b U o e).1,λb U=>?_,w9⟩;obtain⟨o,e,d⟩:=T.obj _ _ ah b U;exact(aq b U o e).2
 exact codeAny_compStart_list (am _ rfl) (T.self _ 0 _ _ _ aD (am _ rfl))
theorem j9 {tg iter Y:Expr}{aa:List Expr}{pos:Pos}{wi:TI}{g:TG}{tt:TT}{te:TE}(hc:X.calm=true)(S:kM X own scope)(hi:PI X tg iter wi)
 (hg:∀cl C fp z L,PG (jL X own scope cl C fp z L) tg g) (ht:∀cl C fp z L,rn (jL X own scope cl C fp z L) aa tt)
 (he:∀cl C fp z L,PE (jL X own scope cl C fp z L) Y te) (hs:∀x,foldedSetIterable iter X.env x=pure x:=by intro _;rfl):
 PE X (.ListComp Y [⟨tg,iter,aa,0⟩] scope pos) (Dt own.length wi g tt te):=by
 intro pins s σ H Q I h;obtain⟨cl,U,ab,ac⟩:=rm (S.cells I);rw[eval_ListComp];refine wpAny_comprehension_free (use:=none) rfl hs U S.kind S.names ?_;refine gy (hi pins s σ H _ I h) λv s1 h1=>gy h1 λaj s2 h2=>?_;obtain⟨it,fp,tn,J,H2,ae,I2,T,af,f2,W,⟨m0,w0⟩,turn⟩:=h2;subst ae;refine Dv (RR:=λag C=>compPost (model X.prog X.w) X.A X.xe none (EP X pins σ Q) ag C) hc S ab ac I2 T af f2 w0 turn hg ht he ?_;intro C D s5 H5 ys us k hC hD ah I5 r5 z5 fin;obtain⟨m5,n5,_⟩:=id I5.loc;refine⟨m5,n5,λh' ai=>?_⟩;obtain⟨I6,nD⟩:=I2.unblock f2 I5 Q05 hC hD ah r5 z5 ai;exact⟨.ref D,_,I6,rfl,fin _ nD⟩
theorem Dw {i:Nat}{y:Str}{py Y:Pos}{tg iter aa:Expr}{ab:List Expr}{pos:Pos}{wi:TI}{g:TG}{tt:TT}{te:TE}(hN:X.N.Nodup)(hy:X.N[i]? =some y)(hL:Loc X.env.scope y)(hc:X.calm=true)(S:kM X own scope)(hi:PI X tg iter wi)
 (hg:∀cl C fp L U,PG (jL X own scope cl C fp L U) tg g) (ht:∀cl C fp L U,rn (jL X own scope cl C fp L U) ab tt)
 (he:∀cl C fp L U,PE (jL X own scope cl C fp L U) aa te) (hf:X.fn y=true\/X.env.scope.names.lookup y=some .local:=by first|exact .inl rfl|exact .inr rfl|assumption)
 (ak:swapsWith (.ListComp aa [⟨tg,iter,ab,0⟩] scope pos) (some (.Name y py)) Y.line X.env=pure true:=by rfl) (hs:∀x,foldedSetIterable iter X.env x=pure x:=by intro _;rfl):
 PS X (.Assign [.Name y py] (.ListComp aa [⟨tg,iter,ab,0⟩] scope pos) Y) (pN (Dt own.length wi g tt te) (iY i)):=by
 intro pins s σ H E I h;obtain⟨cl,ac,ah,ai⟩:=rm (S.cells I);rw[exec_Assign_Name_used _ _ _ _ ak];refine Q0 (wpAny_standAt (Q0 ?_));show wpAny _ _ (do let _ <-comprehension _ scope X.env _ (newList []) false (eval iter X.env) (some (assign (.Name y py) X.env))) _ _ s
 refine Q0 (gy (wpAny_comprehension_free (use:=some (assign (.Name y py) X.env)) (Q:=λ_ s'=>SP X pins E .next s') rfl hs ac S.kind S.names
  (gy (hi pins s σ H _ I h) λv s1 h1=>gy h1 λaq s2 h2=>?_)) λ_ s' hq=>Q02 (Q02 hq))
 obtain⟨it,fp,tn,J,H2,al,I2,T,am,f2,W,⟨m0,w0⟩,turn⟩:=h2;subst al;refine Dv (RR:=λan C=>compPost (model X.prog X.w) X.A X.xe (some (assign (.Name y py) X.env)) (λ_ s'=>SP X pins E .next s') an C) hc S ah ai I2 T am f2 w0 turn hg ht he ?_;intro C D s5 H5 ys us k hC hD af I5 r5 z5 fin;obtain⟨m5,n5,_⟩:=id I5.loc;obtain⟨I6,nD⟩:=I2.unblock f2 I5 Q05 hC hD af r5 z5 (Heap.SameBut.refl C s5.heap);obtain⟨oC,es,ep,eC,dC,rC⟩:=id n5;have nC:upd H5 D (.lst ys) C=none:=by rw[fV (Ne.symm af)];exact I5.free
 have ag:C≠X.env.locals:=Q0u (Q0c I2.lt hC)
 have ae:∀x c,X.env.cells.lookup x=some c->c≠C:=λx c e z=>by
  obtain⟨v,q⟩:=I2.cell x c e;exact absurd q.lt (by rw[z];exact Nat.not_lt.mpr hC)
 have aj:∀p∈X.pn++pins,p.1≠C:=λp hp z=>by
  have:=Q01 (I2.pin p hp).1;rw[z] at this;exact absurd this (Nat.not_lt.mpr hC)
 have I7:Inv X (pins++[(C,oC)]) σ (upd H5 D (.lst ys)) s5:=by
  refine I6.oJ λp hp=>?_;rcases List.mem_append.mp hp with z|z
  . exact I6.pin p (Q09 _ z)
  . have e:p=(C,oC):=by simpa using z
    subst e
    exact⟨eC,nC,ag,I2.pK hC,λv z=>by
     have z:oC.data=Data.cell v:=z;rw[dC] at z;cases z⟩
 show wpAny _ _ (assign (.Name y py) X.env (.ref D)) _ _ s5;refine wpAny_assign_Name (qR (v:=.ref D) I7 hN hy hL rfl (λs8 I8=>?_) hf);obtain⟨ao,ar,_⟩:=I8.pin (C,oC) (Q09 _ (Q09 _ Q05));refine⟨_,⟨oC,es,ep,ao,dC,rC⟩,λh' ap=>?_⟩
 have I9:Inv X pins (σ.set i (some (.ref D))) (upd H5 D (.lst ys)) { s8 with heap:=h' }:=
  I8.mC.turned (t':=s8.toks) (λb o hb e=>(ap.2 b hb).trans e) nC ag (.inr (Q0b I2.sz hC)) ae aj
 exact⟨_,_,I9,fin _ nD⟩
end
section
variable {X:Cx}
theorem kN {e:Expr}:PE X e (λ_ _ _=>False):=λ_ _ _ _ _ _ h=>h.elim
theorem J5 {e:Expr}:PT X e (λ_ _ _=>False):=λ_ _ _ _ _ _ h=>h.elim
theorem iy:kI X (.builtin "isinstance") (λxs H Q=>∃x T t b,xs=[x,.ty T]/\kJ X.K H x t/\W.kitOne X.K t (.type T)=some b/\Q (.bl b) H):=by
 intro pins s σ H xs us Q I r h;obtain⟨x,T,t,b,rfl,ty,e,q⟩:=h;obtain⟨u,c,rfl,z,J⟩:=vals2 r
 cases J;exact IW I z ty e λtk=>⟨.bl b,H,I.tok tk,rfl,q⟩
theorem pW:kI X (.builtin "len") (λxs H Q=>(∃a kvs,xs=[V.ref a]/\H a=some (.dK kvs)/\Q (.int kvs.length) H)\/∃p ys,xs=[.ref p]/\(fY X.K H p ys\/fU X.K H p ys)/\Q (.int ys.length) H):=by
 intro pins s σ H xs us Q I r h;rcases h with h|h
 . exact Dl pins s σ H xs us Q I r h
 . exact i9 pins s σ H xs us Q I r h
theorem Dx:∀{ss:List Str}{vs:List Value},Vals (ss.map V.str) vs->StrsAre vs ss
 |[],_,r=>by cases r;exact .nil
 |y::r,_,h=>by
  cases h with
  |cons a b=>
   obtain⟨t,e⟩:=a;subst e;exact .cons y t (Dx b)
theorem Dy:∀{vs:List Value}{ss:List Str},StrsAre vs ss->Vals (ss.map V.str) vs
 |_,_,.nil=>.nil
 |_,_,.cons y t h=>.cons ⟨t,rfl⟩ (Dy h)
theorem J6:kI X (.builtin "sorted") (λxs H Q=>∃a ss,xs=[.ref a]/\fY X.K H a (ss.map V.str)/\ss.length<64/\
 ∀p z,H p=none->z.Perm ss->sortedS z=true->Q (.ref p) (upd H p (.lst (z.map V.str)))):=by
 intro pins s σ H xs us Q I r h;obtain⟨a,ss,rfl,U,aa,q⟩:=h;obtain⟨u,rfl,Y⟩:=vals1 r
 cases Y;obtain⟨J,L,pl,hz⟩:=I.list U;have hl:J.length=ss.length:=by rw[<-L.length,Q04]
 refine sorted_strs pl.isList (Dx L) (by omega) λout z h1 h2 h3=>?_;obtain⟨e,he⟩:=sortedAll_at s.heap J out;refine⟨.ref (s.heap.objs.size+1),upd H (s.heap.objs.size+1) (.lst (z.map V.str)),I.laid (t':=s.toks) (λ_ _=>sortedAll_old) (Q1 _) ?_,rfl,q _ z (I.hok.fresh (Q1 _)) h2 h3⟩;refine⟨?_,out.toList,e,Dy h1,he⟩;rw[Q04,h2.length_eq];have:ss.length<=1000:=by omega
 exact Q0k (i2 this)
noncomputable def o7 (z:List Value) (i:Nat):Bool:=match z[i]? with
 |some (.bool b)=>b
 |_=>false
theorem J7:∀{bs:List Bool}{z:List Value},Vals (bs.map V.bl) z->(List.range z.length).all (o7 z)=bs.all id:=by
 intro bs z r
 have key:∀i,i<bs.length->o7 z i=bs.getD i false:=λi hi=>by
  have e:(bs.map V.bl)[i]? =some (.bl bs[i]):=by rw[Q0f,Q03 hi];rfl
  obtain⟨u,L,U⟩:=r.get e
  cases U;unfold o7;rw[L,Q0e,Q03 hi];rfl
 have hl:z.length=bs.length:=by rw[<-r.length,Q04]
 rw[hl,Bool.eq_iff_iff,Q1j,Q1j];constructor
 . intro h b Y;obtain⟨i,hi,e⟩:=Q10 Y;have q:=h i (List.mem_range.mpr hi);rw[key i hi,Q0e,Q03 hi,Q33,e] at q;exact q
 . intro h i hi;have J:=List.mem_range.mp hi;rw[key i J,Q0e,Q03 J,Q33];exact h _ (Q1m J)
theorem pX (hc:X.calm=true):kI X (.builtin "all") (λxs H Q=>∃(a:Addr) (bs:List Bool),xs=[.ref a]/\fY X.K H a (bs.map V.bl)/\Q (.bl (bs.all id)) H):=by
 intro pins s σ H xs us Q I r h;obtain⟨a,bs,rfl,hq,q⟩:=h;obtain⟨u,rfl,ru⟩:=vals1 r
 cases ru;obtain⟨z,U,pl,hz⟩:=I.list hq;have Y:a<s.heap.objs.size:=by obtain⟨_,e,_⟩:=pl.isList;exact Q01 e
 refine call_all_walk (wpAny_pyIter_list pl.isList ?_);refine⟨s.heap.objs.size,_,_,_,_,_,o7 z,rfl,Walks.list (show X.A.in1.handled=none from I.ok.hd hc) s.heap.objs.size a (Q08 Y) z.toArray,⟨⟨_,Q0h _ rfl,rfl,rfl⟩,pl.isList.push _⟩,λi v s' Q' E' hP hQ=>?_,λh' tk hk=>?_⟩
 . have e:z[i]? =some v:=by simpa using hP
   have hi:i<z.length:=(List.getElem?_eq_some_iff.mp e).1;have hb:i<(bs.map V.bl).length:=by rw[U.length];exact hi
   obtain⟨w',ew,J⟩:=U.get (Q03 hb);rw[e] at ew;cases ew;rw[Q2i] at J
   cases J;refine wpAny_truthy_bool ?_;have L:o7 z i=bs[i]'(by simpa using hb):=by unfold o7;rw[e]
   rw[L] at hQ;exact hQ
 . have e:(List.range z.toArray.size).all (o7 z)=bs.all id:=by rw[Q07];exact J7 U
   rw[e];have ns:H s.heap.objs.size=none:=I.hok.fresh (Q00 _);refine⟨.bl (bs.all id),H,I.kept (h':=h') (t':=tk) λb o L=>hk b o ?_ (Q06 _ L),rfl,q⟩;intro hm;have:b=s.heap.objs.size:=by simpa using hm
   exact absurd (Q01 L) (by rw[this];exact Q0p _)
noncomputable def Ite (K:W.Frag) (a:Addr):It:=
 ⟨λi H=>∃xs x,fY K H a xs/\xs[i]? =some x,
  λi H x H'=>∃p y,H p=none/\x=.ref p/\(∀xs,fY K H a xs->xs[i]? =some y)/\H'=upd H p (.tup [.int i,y]),
  λi H=>∃xs,fY K H a xs/\xs.length<=i⟩
theorem J8 {P:Program}{w:World}{K:W.Frag}{ac:List Expr}{k:Nat}{tpos:Pos}{a e it:Addr}(aa:e≠it):
 Turn P w K (.Tuple ac k tpos) (Ite K a) [e,it] e (λi h=>∃L,IsEnum h e it (i:Int) L/\h.IsListIter it a i) where
 mem:=by simp
 obj:=λi h st b J=>by
  obtain⟨L,h1,h2⟩:=st;have J:b=e\/b=it:=by simpa using J
  rcases J with rfl|rfl
  . exact⟨_,h1,λv z=>by
     have z:Data.fields _=Data.cell v:=z
     cases z⟩
  . obtain⟨o,q,c,d⟩:=h2;exact⟨o,q,λv z=>by rw[d] at z;cases z⟩
 keep:=λi h h' st k=>by
  obtain⟨L,h1,h2⟩:=st;exact⟨L,k e (by simp) _ h1,h2.at λo q=>k it (by simp) o q⟩
 item:=by
  intro X hP hw hK hc i pins s σ H E I hf st hg;subst hP hw hK;obtain⟨L,h1,h2⟩:=st;obtain⟨xs,x,hq,hx⟩:=hg;obtain⟨ae,rv,p,hz⟩:=I.list hq;obtain⟨u,hu,ru⟩:=rv.get hx;obtain⟨e0,e1,e2,e3,e4,e5⟩:=hf e (by simp);obtain⟨f0,f1,f2,f3,f4,f5⟩:=hf it (by simp);have Y:H s.heap.objs.size=none:=I.hok.fresh (Q00 _);refine wpAny_pyNext_enum_item h1 h2 p.isList (x:=u) (by simpa using hu) aa λh' q1 q2 q3 q4 q5=>?_;refine⟨_,rfl,wpAny_letOwnedTupleGo_enum (s:={ s with heap:=h',toks:=s.toks+1 }) q1 λU g1 g2=>?_⟩;have af:∀b o,s.heap.get? b=some o->b≠s.heap.objs.size:=λb o q=>Q08 (Q01 q);have kk:∀b o,b≠e->b≠it->s.heap.get? b=some o->U.get? b=some o:=λb o n1 n2 q=>g2.extBut b o n1 (q5 b o n1 n2 q);have pe:s.heap.objs.size≠e:=Q0u (Q01 h1);have tup:U.get? s.heap.objs.size=some { cls:=.type "tuple",data:=.seq #[.int i s.toks,u] }:=g2.extBut _ _ pe q3
  have I1:Inv X pins σ (upd H s.heap.objs.size (.tup [.int i,x])) { s with heap:=U,toks:=s.toks+1 }:=by
   refine I.step (g':=s.gens) (d':=s.drawn) (ch:=[e,it]) (λb J=>?_) (λb o _ _ hc q _=>?_) (λb o _ _ hc q _=>?_) (λb o _ q n=>?_) (λb o hc q=>?_) (λb ys q=>?_) (λb o v q=>?_) (λb ps q=>?_) (λm hm=>?_) (λb o q=>?_) I.bare
   . have J:b=e\/b=it:=by simpa using J
     rcases J with rfl|rfl
     . exact⟨e3,e1,e4,e5⟩
     . exact⟨f3,f1,f4,f5⟩
   . exact kk b o (λz=>hc (by simp[z])) (λz=>hc (by simp[z])) q
   . exact⟨o.slots,kk b o (λz=>hc (by simp[z])) (λz=>hc (by simp[z])) q⟩
   . rw[fV (af b o q)];exact n
   . exact⟨o,kk b o (λz=>hc (by simp[z])) (λz=>hc (by simp[z])) q⟩
   . rw[fV (gc q Y)];exact q
   . rw[fV (gc q Y)];exact q
   . exact⟨#[],by rw[fV (gc q Y),q];simp⟩
   . obtain⟨o,es,ep,ho,r⟩:=hm;exact⟨o,es,ep,kk _ o (Ne.symm e1) (Ne.symm f1) ho,r⟩
   . by_cases J:b=s.heap.objs.size
     . subst J;rw[fZ] at q;cases q;refine⟨zp,[.int i s.toks,u],.cons ⟨_,rfl⟩ (.cons ru .nil),?_⟩;exact⟨_,tup,rfl,_,rfl⟩
     . rw[fV J] at q;refine(I.hok b o q).stay (λc v ab z=>kk c v ?_ ?_ z) (λc z=>by rw[fV (gc z Y)];exact z) λc ys z=>by rw[fV (gc z Y)];exact z
       . rcases ab with z|z
         . rw[z];exact gc q e0
         . exact gc z e0
       . rcases ab with z|z
         . rw[z];exact gc q f0
         . exact gc z f0
  refine⟨.ref s.heap.objs.size,_,I1,rfl,⟨s.heap.objs.size,x,Y,rfl,λys hy=>by rw[I.sU hy hq];exact hx,rfl⟩,⟨u,?_,q2.extBut g2.extBut (Ne.symm aa)⟩,λb J=>?_⟩
  . have ei:((i+1:Nat):Int)=(i:Int)+1:=by omega
    show IsEnum U e it ((i+1:Nat):Int) u;rw[ei];exact g1
  . have ag:b=e\/b=it:=by simpa using J
    have ah:b<s.heap.objs.size:=by
     rcases ag with rfl|rfl
     . exact Q01 h1
     . obtain⟨o,q,_⟩:=h2;exact Q01 q
    rw[fV (Q08 ah)];exact(hf b J).1
 done:=by
  intro X hP hw hK hc i pins s σ H E I hf st hg;subst hP hw hK;obtain⟨L,h1,h2⟩:=st;obtain⟨xs,hq,hx⟩:=hg;obtain⟨ae,rv,p,hz⟩:=I.list hq;obtain⟨f0,f1,f2,f3,f4,f5⟩:=hf it (by simp);have hl:=rv.length;exact wpAny_pyNext_enum_end (I.ok.hd hc) h1 h2 p.isList (by simp;omega) λh' eb=>⟨rfl,I.turned (t':=s.toks) (λb o J q=>eb b o J q) f0 f1 f3 f4 f5⟩
 self:=λA i s Q E st q=>by
  obtain⟨L,h1,_⟩:=st;exact wpAny_pyIter_enum h1 q
def J9 (K:W.Frag) (ta:TA):TI:=λσ H R=>ta σ H λvs H1=>∃a,vs=[.ref a]/\(∃xs,fY K H1 a xs)/\R (Ite K a) H1
theorem J_:bootBuiltins "enumerate"=some (.type "enumerate"):=by decide +kernel
theorem tJ {a:Expr}{ta:TA}{p pos tpos:Pos}{U:List Expr}{k:Nat}(hg:Gl X "enumerate")(hm:X.mg "enumerate"=none)(ha:PA X [a] ta)(hs:starEach [a] X.env=[(false,eval a X.env)]:=by rfl):
 PI X (.Tuple U k tpos) (.Call (.Name "enumerate" p) [a] [] pos) (J9 X.K ta):=by
 intro pins s σ H R I h;refine Call_ (mB I hg hm J_ (PyProof.Rows.callWith_type1 (gy (ha pos pins s σ H _ I h) λus J zq=>?_) hs rfl));obtain⟨vs,H1,Y,r1,q1⟩:=zq;obtain⟨l,e,⟨xs,hq⟩,q⟩:=q1;subst e;obtain⟨u,rfl,ru⟩:=vals1 r1
 cases ru;obtain⟨aa,rv,pl,hz⟩:=Y.list hq;refine call_enumerate_list pl.isList λh' q1 q2 q3 q4=>?_;refine wpAny_pyIter_enum q1 ?_;have I2:Inv X pins σ H1 { J with heap:=h' }:=Y.kept (t':=J.toks) q4;refine⟨J.heap.objs.size+1,[J.heap.objs.size+1,J.heap.objs.size],_,_,H1,rfl,I2,J8 (Q0u (Q12 _)),⟨.none,q1,q2⟩,λb L=>?_,q⟩
 have L:J.heap.objs.size<=b:=by
  have L:b=J.heap.objs.size+1\/b=J.heap.objs.size:=by simpa using L
  rcases L with z|z
  . rw[z];exact Q1 _
  . rw[z];exact Q00 _
 exact Y.nM L (Y.hok.fresh L)
theorem boot_zip:bootBuiltins "zip"=some (.type "zip"):=by decide +kernel
theorem Kb:jc X (binaryOp .Mult) (λx y H Q=>∃z i,x=.str z/\y=.int i/\MulOk z i/\Q (.str (Txt.mul z i)) H):=by
 intro pins s σ H x y v u Q I J L h;obtain⟨z,i,rfl,rfl,ok,q⟩:=h;obtain⟨t,rfl⟩:=J;obtain⟨t',rfl⟩:=L;exact SB.mul ok λt2 k=>⟨.str (Txt.mul z i),H,I.tok k,⟨_,rfl⟩,q⟩
theorem DA {v:Value}{o:Option Int}(h:IsPart v o):(v=.none/\o=none)\/∃i t,v=.int i t/\o=some i:=by
 cases h with
 |none=>exact .inl ⟨rfl,rfl⟩
 |int i t=>exact .inr ⟨i,t,rfl,rfl⟩
theorem DB:q_ X (λx lo hi H Q=>∃z,x=.str z/\z.length<=sizeLine/\Q (.str (Txt.slice z lo hi)) H):=by
 intro pins s σ H x v vl vu lo hi sl Q I rx hs pl pu h;obtain⟨z,rfl,hz,q⟩:=h;obtain⟨t,rfl⟩:=rx
 have fin:∀{lo hi:Option Int} (q:Q (.str (Txt.slice z lo hi)) H),(Txt.slice z lo hi).length<=sizeLine/\∀t' k,EP X pins σ Q (.str (Txt.slice z lo hi) t') { s with toks:=k }:=
  λq=>⟨Q0b (Txt.slice_le z _ _) hz,λt' k=>⟨.str _,H,I.tok k,⟨t',rfl⟩,q⟩⟩
 refine⟨"str",_,F.slot_str_getitem.lookup,typeIs_str _ _ _,?_⟩;obtain⟨o,J,hc,L⟩:=hs;rcases DA pl with⟨U,rfl⟩|⟨i,Y,U,rfl⟩ <;> rcases DA pu with⟨e2,rfl⟩|⟨j,tj,e2,rfl⟩ <;> subst U <;> subst e2
 . exact wpAny_getItem_str_slice (l:=none) (u:=none) (st:=none) ⟨o,J,hc,L⟩ rfl (post_val_or_str (fin q))
 . exact wpAny_getItem_str_slice (l:=none) (u:=some (j,tj)) (st:=none) ⟨o,J,hc,L⟩ rfl (post_val_or_str (fin q))
 . exact wpAny_getItem_str_slice (l:=some (i,Y)) (u:=none) (st:=none) ⟨o,J,hc,L⟩ rfl (post_val_or_str (fin q))
 . exact wpAny_getItem_str_slice (l:=some (i,Y)) (u:=some (j,tj)) (st:=none) ⟨o,J,hc,L⟩ rfl (post_val_or_str (fin q))
end
theorem yes {σ:St}{H:Hp}{Q:Bool->Hp->Prop}(h:Q true H):kx σ H Q:=h
section
variable {K:W.Frag}{σ:St}{H:Hp}{Q:VK}{D:Ends}
theorem l9 {i:Nat}{a b:Str}{T U:TS}(h:σ[i]? =some (some (.str a)))(z:decide (V.str a=V.str b)=true)(q:T D σ H):pM (mD (iC oU (gR i) (tC (.str b)))) T U D σ H:=
 ⟨_,h,rfl,_,rfl,by rw[z];exact ix q⟩
theorem iT {i:Nat}{a b:Str}{T U:TS}(h:σ[i]? =some (some (.str a)))(z:decide (V.str a=V.str b)=false)(q:U D σ H):pM (mD (iC oU (gR i) (tC (.str b)))) T U D σ H:=
 ⟨_,h,rfl,_,rfl,by rw[z];exact gP q⟩
theorem l_ {i:Nat}{p:Addr}{xs:List V}{a b:Str}{T U:TS}(h:σ[i]? =some (some (.ref p)))(h2:H p=some (.tup xs))(z:xs[0]? =some (.str a))(J:decide (V.str a=V.str b)=true)(q:T D σ H):
 pM (mD (iC oU (iC (jq K) (gR i) (tC (.int 0))) (tC (.str b)))) T U D σ H:=
 ⟨_,h,p,xs,0,.str a,rfl,rfl,fU.of h2,lF (j:=0) z,rfl,_,rfl,by rw[J];exact ix q⟩
theorem iU {i:Nat}{p:Addr}{xs:List V}{a b:Str}{T U:TS}(h:σ[i]? =some (some (.ref p)))(h2:H p=some (.tup xs))(z:xs[0]? =some (.str a))(J:decide (V.str a=V.str b)=false)(q:U D σ H):
 pM (mD (iC oU (iC (jq K) (gR i) (tC (.int 0))) (tC (.str b)))) T U D σ H:=
 ⟨_,h,p,xs,0,.str a,rfl,rfl,fU.of h2,lF (j:=0) z,rfl,_,rfl,by rw[J];exact gP q⟩
end
end L2
namespace L2
noncomputable def vS (own N:List Str) (scope sc:Scope):Bool:=
 scope.names.all (λy=>decide (y.2≠ .cell)) && scope.names.all (λy=>decide (y.2=.local->scope.names.lookup y.1=some .local)) &&
 scope.names.all (λy=>decide (y.2=.free->sc.names.lookup y.1=some .cell\/sc.names.lookup y.1=some .free)) && decide (own++N).Nodup && N.all λx=>decide (scope.names.lookup x≠some .local)
theorem kM.of {X:Cx}{own N:List Str}{scope sc:Scope}(z:X.env.scope=sc)(J:X.N=N)(k:scope.kind=.function)(c:vS own N scope sc=true):kM X own scope:=by
 unfold vS at c;simp only[Bool.and_eq_true,Q1j,decide_eq_true_eq] at c;obtain⟨⟨⟨⟨L,U⟩,Y⟩,c4⟩,c5⟩:=c;exact⟨k,L,U,λy hy hf=>by rw[show X.env.kindOf y.1=X.env.scope.names.lookup y.1 from rfl,z];exact Y y hy hf,by rw[J];exact c4,by rw[J];exact c5⟩
end L2
namespace m_
open W PyProof.Rows
noncomputable def gU {α:Type}(f:Nat->Nat->Bool):KasT α->α
 | .ret a=>a
 | .ask i j k=>gU f (k (f i j))
theorem pY {α z:Type}(f:Nat->Nat->Bool)(g:α->KasT z):∀t:KasT α,gU f (t.bind g)=gU f (g (gU f t))
 | .ret _=>rfl
 | .ask i j k=>pY f g (k (f i j))
def Bn {α:Type}(n:Nat) (R:α->Prop):KasT α->Prop
 | .ret a=>R a
 | .ask i j k=>i<n/\j<n/\∀b,Bn n R (k b)
theorem Bn.bind {α z:Type}{n:Nat}{R:α->Prop}{S:z->Prop}{g:α->KasT z}:∀{t:KasT α},Bn n R t->(∀a,R a->Bn n S (g a))->Bn n S (t.bind g)
 | .ret a,h,k=>k a h
 | .ask i j q,h,k=>⟨h.1,h.2.1,λb=>Bn.bind (h.2.2 b) k⟩
theorem DC {α:Type}{n:Nat}{R:α->Prop}{f:Nat->Nat->Bool}{z:Nat->Nat->(Bool->Shared->Prop)->Shared->Prop}{Q:α->Shared->Prop}{s:Shared}
 (h:∀i j (C:Bool->Shared->Prop),i<n->j<n->C (f i j) s->z i j C s):∀{t:KasT α},Bn n R t->Q (gU f t) s->t.kasWp z Q s
 | .ret a,_,q=>q
 | .ask i j k,b,q=>h i j _ b.1 b.2.1 (DC h (b.2.2 (f i j)) q)
def Lt (n:Nat) (p:Array Nat):Prop:=0<n/\∀x∈p,x<n
theorem Lt.at {n:Nat}{p:Array Nat}(h:Lt n p)(i:Nat):p.getD i 0<n:=by
 rw[Q1n]
 cases e:p[i]? with
 |none=>exact h.1
 |some x=>exact h.2 x (Array.mem_of_getElem? e)
theorem Lt.perm {n:Nat}{p q:Array Nat}(h:Lt n p)(hp:q.Perm p):Lt n q:=⟨h.1,λx z=>h.2 x (hp.mem_iff.mp z)⟩
theorem ng (p:Array Nat)(i j:Nat):(kas_rev p i j).Perm p:=mirror_perm _ _ _ _
theorem Kc (p:Array Nat)(i j:Nat):(kas_rev p i j).size=p.size:=mirror_size _ _ _ _
theorem vT {n:Nat}{p:Array Nat}(h:Lt n p):∀f m,Bn n (λ_=>True) (kas_asc p f m)
 |0,_=>trivial
 |f+1,m=>⟨h.at _,h.at _,λb=>by
   cases b with
   |true=>exact trivial
   |false=>exact vT h f (m+1)⟩
theorem tK {n:Nat}:∀f (p:Array Nat) m q,Lt n p->Bn n (λr:Array Nat × Nat × Nat=>Lt n r.1) (kas_desc f p m q)
 |0,_,_,_,h=>h
 |f+1,p,m,q,h=>⟨h.at _,h.at _,λb=>by
   cases b with
   |true=>
    show Bn n _ (if q > 0 then kas_desc f (kas_rev p (m - (q+1)) m) (m+1) 0 else kas_desc f p (m+1) 0);split
    . exact tK f _ _ _ (h.perm (ng _ _ _))
    . exact tK f _ _ _ h
   |false=>
    refine⟨h.at _,h.at _,λd=>?_⟩
    cases d with
    |true=>exact h
    |false=>exact tK f _ _ _ h⟩
theorem DE {n m r:Nat}{p:Array Nat}(h:Lt n p):Bn n (λq:Nat × Array Nat=>Lt n q.2) (kas_tail3 m r p):=
 (vT (h.perm (ng _ _ _)) _ _).bind λ_ _=>h.perm (ng _ _ _)
theorem DF {n m r:Nat}{p:Array Nat}(h:Lt n p):Bn n (λq:Nat × Array Nat=>Lt n q.2) (kas_descPart m r p):=by
 refine(tK _ _ _ _ h).bind λa z=>?_;split
 . exact DE (z.perm (ng _ _ _))
 . exact DE z
theorem Ke {n r:Nat}{p:Array Nat}(h:Lt n p):Bn n (λq:Nat × Array Nat=>Lt n q.2) (kas_count r p):=by
 refine(vT h _ _).bind λa _=>?_;split
 . exact h
 split
 . refine⟨h.at _,h.at _,λb=>?_⟩
   cases b with
   |true=>exact h
   |false=>exact DF (h.perm (ng _ _ _))
 . exact DF h
theorem vU {n k:Nat}{p:Array Nat}(h:Lt n p):∀f l r,Bn n (λ_=>True) (kas_place p k f l r)
 |0,_,_=>trivial
 |f+1,l,r=>by
  unfold kas_place;split
  . exact trivial
  . refine⟨h.at _,h.at _,λb=>?_⟩
    cases b with
    |true=>exact vU h f _ _
    |false=>exact vU h f _ _
theorem DG {n:Nat}:∀f (p:Array Nat) k,Lt n p->Bn n (λ_=>True) (kas_bin f p k)
 |0,_,_,_=>trivial
 |f+1,p,k,h=>(vU h _ _ _).bind λl _=>DG f _ _ (h.perm (bubble_perm _ _ _))
theorem Kf {n:Nat}(z:0<n):Bn n (λ_=>True) (kas_sort n):=by
 have h:Lt n (List.toArray (List.range n)):=⟨z,λx J=>by simpa using J⟩;refine(Ke h).bind λr L=>?_;split
 . exact DG _ _ _ L
 . exact trivial
section
variable {O:KeyOrd}(key:Nat->O.α)
noncomputable def hU:Nat->Nat->Bool:=λi j=>O.blt (key i) (key j)
noncomputable def Kp (p:Array Nat) (i:Nat):O.α:=key (p.getD i 0)
def kO (p:Array Nat) (k:Nat):Prop:=∀i j,i<=j->j<k->O.kle (Kp key p i) (Kp key p j)
def lG (p:Array Nat) (k:Nat):Prop:=∀i j,i<=j->j<k->O.kle (Kp key p j) (Kp key p i)
variable {key}
theorem kO.succ {p:Array Nat}{n:Nat}(h:kO key p n)(h1:1<=n)(e:O.kle (Kp key p (n - 1)) (Kp key p n)):kO key p (n+1):=by
 intro i j z L;by_cases J:j<n
 . exact h i j z J
 . have:j=n:=by omega
   subst this;by_cases hi:i=j
   . subst hi;exact KeyOrd.kle_refl _
   . exact KeyOrd.kle_trans (h i (j - 1) (by omega) (by omega)) e
theorem lG.succ {p:Array Nat}{n:Nat}(h:lG key p n)(h1:1<=n)(e:O.kle (Kp key p n) (Kp key p (n - 1))):lG key p (n+1):=by
 intro i j z L;by_cases J:j<n
 . exact h i j z J
 . have:j=n:=by omega
   subst this;by_cases hi:i=j
   . subst hi;exact KeyOrd.kle_refl _
   . exact KeyOrd.kle_trans e (h i (j - 1) (by omega) (by omega))
theorem rz {p q:Array Nat}{i j:Nat}(h:p[i]? =q[j]?):Kp key p i=Kp key q j:=by
 unfold Kp;rw[Q1n,Q1n,h]
theorem vV {p:Array Nat}{i j:Nat}(z:j<=p.size)(k:Nat):Kp key (kas_rev p i j) k=if i<=k/\k<j then Kp key p (i+j - 1 - k) else Kp key p k:=by
 have e:=getElem?_mirror_all (i:=i) z k;by_cases h1:i<=k/\k<j
 . rw[if_pos h1] at e ⊢;exact rz e
 . rw[if_neg h1] at e ⊢;exact rz e
theorem vW {p:Array Nat}{i j:Nat}(J:j<=p.size)(z:∀k,i<=k->k<j->Kp key p k=Kp key p (j - 1))(k:Nat):Kp key (kas_rev p i j) k=Kp key p k:=by
 rw[vV J];split
 . rw[z _ (by omega) (by omega),z k (by omega) (by omega)]
 . rfl
theorem Kg {p:Array Nat}{src d:Nat}(z:src<p.size)(J:d<=src)(k:Nat):
 Kp key (bubble p src d) k=if k=src - d then Kp key p src else if src - d<k/\k<=src then Kp key p (k - 1) else Kp key p k:=by
 have e:=getElem?_bubble z d J k;by_cases h1:k=src - d
 . rw[if_pos h1] at e ⊢;exact rz e
 . rw[if_neg h1] at e ⊢;by_cases h2:src - d<k/\k<=src
   . rw[if_pos h2] at e ⊢;exact rz e
   . rw[if_neg h2] at e ⊢;exact rz e
theorem lG.congr {p q:Array Nat}{n:Nat}(h:lG key p n)(e:∀k,Kp key q k=Kp key p k):lG key q n:=λi j a b=>by
 rw[e,e];exact h i j a b
theorem vX {p:Array Nat}:∀f n,1<=n->kO key p n->n<=gU (hU key) (kas_asc p f n)/\gU (hU key) (kas_asc p f n)<=n+f/\kO key p (gU (hU key) (kas_asc p f n))/\
 (gU (hU key) (kas_asc p f n)<n+f->O.klt (Kp key p (gU (hU key) (kas_asc p f n))) (Kp key p (gU (hU key) (kas_asc p f n) - 1)))
 |0,n,_,h=>⟨Q00 _,Q00 _,h,λz=>absurd z (Q0p _)⟩
 |f+1,n,h1,h=>by
  have e:gU (hU key) (kas_asc p (f+1) n)=gU (hU key) (if O.blt (Kp key p n) (Kp key p (n - 1))=true then .ret n else kas_asc p f (n+1)):=rfl;rw[e]
  cases c:O.blt (Kp key p n) (Kp key p (n - 1)) with
  |true=>
   rw[if_pos rfl];exact⟨Q00 _,Q1o _ _,h,λ_=>c⟩
  |false=>
   rw[if_neg (by simp)];obtain⟨U,Y,J,L⟩:=vX f (n+1) (by omega) (h.succ h1 c);exact⟨by omega,by omega,J,λz=>L (by omega)⟩
structure DI (O:KeyOrd) (key:Nat->O.α) (p₀:Array Nat) (p:Array Nat) (n q:Nat):Prop where
 perm:p.Perm p₀
 non:lG key p n
 one:q+1<=n
 size:n<=p.size
 eq:∀k,n - (q+1)<=k->k<n->Kp key p k=Kp key p (n - 1)
theorem tL {z:Array Nat}:∀f (p:Array Nat) n q,DI O key z p n q->n+f<=z.size->
 ∃L J U,gU (hU key) (kas_desc f p n q)=(L,J,U)/\DI O key z L J U/\J<=n+f
 |0,p,n,q,d,_=>⟨p,n,q,rfl,d,Q00 _⟩
 |f+1,p,n,q,d,hs=>by
  have hsz:p.size=z.size:=d.perm.size_eq
  have e:gU (hU key) (kas_desc (f+1) p n q)=gU (hU key) (if O.blt (Kp key p n) (Kp key p (n - 1))=true then(if q > 0 then kas_desc f (kas_rev p (n - (q+1)) n) (n+1) 0 else kas_desc f p (n+1) 0)
   else .ask (p.getD (n - 1) 0) (p.getD n 0) λd=>if d=true then .ret (p,n,q) else kas_desc f p (n+1) (q+1)):=rfl
  rw[e];have one:=d.one
  cases c:O.blt (Kp key p n) (Kp key p (n - 1)) with
  |true=>
   rw[if_pos rfl];have cl:O.kle (Kp key p n) (Kp key p (n - 1)):=KeyOrd.kle_of_klt c;by_cases hq:q > 0
   . rw[if_pos hq];have ek:∀k,Kp key (kas_rev p (n - (q+1)) n) k=Kp key p k:=vW d.size d.eq
     have d':DI O key z (kas_rev p (n - (q+1)) n) (n+1) 0:=⟨(ng _ _ _).trans d.perm,(d.non.succ (by omega) cl).congr ek,by omega,by rw[Kc];omega,λk h1 h2=>by
      have:k=n:=by omega
      subst this;rfl⟩
     obtain⟨L,J,U,Y,r2,r3⟩:=tL f _ _ _ d' (by omega);exact⟨L,J,U,Y,r2,by omega⟩
   . rw[if_neg hq]
     have d':DI O key z p (n+1) 0:=⟨d.perm,d.non.succ (by omega) cl,by omega,by omega,λk h1 h2=>by
      have:k=n:=by omega
      subst this;rfl⟩
     obtain⟨L,J,U,Y,r2,r3⟩:=tL f _ _ _ d' (by omega);exact⟨L,J,U,Y,r2,by omega⟩
  |false=>
   rw[if_neg (by simp)];have e2:gU (hU key) (.ask (p.getD (n - 1) 0) (p.getD n 0) λd=>if d=true then .ret (p,n,q) else kas_desc f p (n+1) (q+1))=gU (hU key) (if O.blt (Kp key p (n - 1)) (Kp key p n)=true then .ret (p,n,q) else kas_desc f p (n+1) (q+1)):=rfl;rw[e2]
   cases c2:O.blt (Kp key p (n - 1)) (Kp key p n) with
   |true=>
    rw[if_pos rfl];exact⟨p,n,q,rfl,d,by omega⟩
   |false=>
    rw[if_neg (by simp)];have ee:Kp key p n=Kp key p (n - 1):=O.total _ _ c c2
    have d':DI O key z p (n+1) (q+1):=⟨d.perm,d.non.succ (by omega) (by rw[ee];exact KeyOrd.kle_refl _),by omega,by omega,λk h1 h2=>by
     show Kp key p k=Kp key p n;by_cases hk:k=n
     . rw[hk]
     . rw[ee];exact d.eq k (by omega) (by omega)⟩
    obtain⟨L,J,U,Y,r2,r3⟩:=tL f _ _ _ d' (by omega);exact⟨L,J,U,Y,r2,by omega⟩
def rA (O:KeyOrd) (key:Nat->O.α) (z:Array Nat) (nrem:Nat) (r:Nat × Array Nat):Prop:=r.2.Perm z/\1<=r.1/\r.1<=nrem/\kO key r.2 r.1
theorem DH {z p:Array Nat}{n nrem:Nat}(hp:p.Perm z)(h1:1<=n)(Y:n<=nrem)(hs:nrem<=z.size)(h:lG key p n):rA O key z nrem (gU (hU key) (kas_tail3 n nrem p)):=by
 have hsz:p.size=z.size:=hp.size_eq;unfold kas_tail3;rw[pY]
 have J:kO key (kas_rev p 0 n) n:=λi j U hj=>by
  rw[vV (by omega),vV (by omega),if_pos (by omega),if_pos (by omega)];exact h _ _ (by omega) (by omega)
 obtain⟨a1,a2,L,_⟩:=vX (key:=key) (p:=kas_rev p 0 n) (nrem - n) n h1 J;exact⟨(ng _ _ _).trans hp,by show 1<=gU _ _;omega,by show gU _ _<=nrem;omega,L⟩
theorem DJ {z p:Array Nat}{n nrem:Nat}(hp:p.Perm z)(h1:1<=n)(hn:n+1<=nrem)(hs:nrem<=z.size)(h:lG key p (n+1)):rA O key z nrem (gU (hU key) (kas_descPart n nrem p)):=by
 have hsz:p.size=z.size:=hp.size_eq;unfold kas_descPart;rw[pY]
 have d:DI O key z p (n+1) 0:=⟨hp,h,by omega,by omega,λk h1 h2=>by
  have:k=n:=by omega
  subst this;rfl⟩
 obtain⟨U,L,Y,r1,J,r3⟩:=tL (key:=key) (nrem - (n+1)) p (n+1) 0 d (by omega);rw[r1];have o:=J.one;have sz:=J.size;have aa:U.size=z.size:=J.perm.size_eq;by_cases hq:Y > 0
 . show rA O key z nrem (gU (hU key) (if Y > 0 then kas_tail3 L nrem (kas_rev U (L - (Y+1)) L) else kas_tail3 L nrem U));rw[if_pos hq];exact DH ((ng _ _ _).trans J.perm) (by omega) (by omega) hs (J.non.congr (vW J.size J.eq))
 . show rA O key z nrem (gU (hU key) (if Y > 0 then kas_tail3 L nrem (kas_rev U (L - (Y+1)) L) else kas_tail3 L nrem U));rw[if_neg hq];exact DH J.perm (by omega) (by omega) hs J.non
theorem Kh {p:Array Nat}{nrem:Nat}(h1:1<=nrem)(hs:nrem<=p.size):rA O key p nrem (gU (hU key) (kas_count nrem p)):=by
 unfold kas_count;rw[pY]
 obtain⟨z,a2,L,a4⟩:=vX (key:=key) (p:=p) (nrem - 1) 1 (Q00 _) (λi j J hj=>by
  have U:i=0:=by omega
  have Y:j=0:=by omega
  subst U;subst Y;exact KeyOrd.kle_refl _)
 generalize gU (hU key) (kas_asc p (nrem - 1) 1)=n at *;by_cases hn:n=nrem
 . rw[if_pos (by simpa using hn)];exact⟨Array.Perm.refl _,z,by show n<=nrem;omega,L⟩
 . rw[if_neg (by simpa using hn)];have cl:O.klt (Kp key p n) (Kp key p (n - 1)):=a4 (by omega);by_cases hg:n > 1
   . rw[if_pos hg]
     have e:gU (hU key) (.ask (p.getD 0 0) (p.getD (n - 1) 0) λc=>if c=true then .ret (n,p) else kas_descPart n nrem (kas_rev p 0 n))=
      gU (hU key) (if O.blt (Kp key p 0) (Kp key p (n - 1))=true then .ret (n,p) else kas_descPart n nrem (kas_rev p 0 n)):=rfl
     rw[e]
     cases c:O.blt (Kp key p 0) (Kp key p (n - 1)) with
     |true=>
      rw[if_pos rfl];exact⟨Array.Perm.refl _,z,by show n<=nrem;omega,L⟩
     |false=>
      rw[if_neg (by simp)]
      have all:∀k,0<=k->k<n->Kp key p k=Kp key p (n - 1):=λk _ hk=>by
       have c':O.kle (Kp key p (n - 1)) (Kp key p 0):=c;exact KeyOrd.kle_antisymm (L k (n - 1) (by omega) (by omega)) (KeyOrd.kle_trans c' (L 0 k (by omega) hk))
      have ek:∀k,Kp key (kas_rev p 0 n) k=Kp key p k:=vW (by omega) all;refine DJ (ng _ _ _) z (by omega) hs (lG.congr (lG.succ (n:=n) (λi j J hj=>?_) z (KeyOrd.kle_of_klt cl)) ek);rw[all i (by omega) (by omega),all j (by omega) (by omega)];exact KeyOrd.kle_refl _
   . rw[if_neg hg];have:n=1:=by omega
     subst this;refine DJ (Array.Perm.refl _) z (by omega) hs (lG.succ (n:=1) (λi j J hj=>?_) z (KeyOrd.kle_of_klt cl));have U:i=0:=by omega
     have Y:j=0:=by omega
     subst U;subst Y;exact KeyOrd.kle_refl _
theorem vY {p:Array Nat}{k:Nat}(h:kO key p k):∀f l r,l<=r->r<=k->r - l<=f->(∀i,i<l->O.kle (Kp key p i) (Kp key p k))->(∀i,r<=i->i<k->O.klt (Kp key p k) (Kp key p i))->
 ∃m,gU (hU key) (kas_place p k f l r)=m/\m<=k/\(∀i,i<m->O.kle (Kp key p i) (Kp key p k))/\(∀i,m<=i->i<k->O.klt (Kp key p k) (Kp key p i))
 |0,l,r,h1,h2,U,z,J=>⟨l,rfl,by omega,z,λi a b=>J i (by omega) b⟩
 |f+1,l,r,h1,h2,U,z,J=>by
  by_cases L:l ≥ r
  . refine⟨l,?_,by omega,z,λi a b=>J i (by omega) b⟩;unfold kas_place;rw[if_pos L];rfl
  . have e:gU (hU key) (kas_place p k (f+1) l r)=gU (hU key) (if O.blt (Kp key p k) (Kp key p ((l+r) / 2))=true then kas_place p k f l ((l+r) / 2) else kas_place p k f ((l+r) / 2+1) r):=by
     show gU (hU key) (if l ≥ r then .ret l else _)=_;rw[if_neg L];rfl
    rw[e]
    cases c:O.blt (Kp key p k) (Kp key p ((l+r) / 2)) with
    |true=>
     rw[if_pos rfl];exact vY h f _ _ (by omega) (by omega) (by omega) z λi a b=>KeyOrd.klt_of_klt_of_kle (show O.klt _ _ from c) (h _ _ a b)
    |false=>
     rw[if_neg (by simp)];exact vY h f _ _ (by omega) h2 (by omega) (λi a=>KeyOrd.kle_trans (h i ((l+r) / 2) (by omega) (by omega)) (show O.kle _ _ from c)) J
theorem DK:∀f (p:Array Nat) k,kO key p k->k+f<=p.size->(gU (hU key) (kas_bin f p k)).Perm p/\kO key (gU (hU key) (kas_bin f p k)) (k+f)
 |0,p,k,h,_=>⟨Array.Perm.refl _,h⟩
 |f+1,p,k,h,hs=>by
  have e:gU (hU key) (kas_bin (f+1) p k)=gU (hU key) (kas_bin f (bubble p k (k - gU (hU key) (kas_place p k k 0 k))) (k+1)):=by
   show gU (hU key) ((kas_place p k k 0 k).bind λl=>kas_bin f (bubble p k (k - l)) (k+1))=_;rw[pY]
  rw[e];obtain⟨m,em,m1,m2,m3⟩:=vY h k 0 k (Q0g _) (Q00 _) (Q00 _) (λi z=>absurd z (Q34 _)) (λi a b=>absurd a (by omega));rw[em];have L:=λi=>Kg (key:=key) (p:=p) (src:=k) (d:=k - m) (by omega) (by omega) i;have hm:k - (k - m)=m:=by omega
  rw[hm] at L
  have hS:kO key (bubble p k (k - m)) (k+1):=by
   intro i j U hj;rw[L i,L j];by_cases Y:i=m
   . rw[if_pos Y];by_cases J:j=m
     . rw[if_pos J];exact KeyOrd.kle_refl _
     . rw[if_neg J,if_pos (by omega)];exact KeyOrd.kle_of_klt (m3 _ (by omega) (by omega))
   . rw[if_neg Y];by_cases li:m<i/\i<=k
     . rw[if_pos li,if_neg (by omega),if_pos (by omega)];exact h _ _ (by omega) (by omega)
     . rw[if_neg li];by_cases J:j=m
       . rw[if_pos J];exact m2 i (by omega)
       . rw[if_neg J];by_cases lj:m<j/\j<=k
         . rw[if_pos lj];exact h _ _ (by omega) (by omega)
         . rw[if_neg lj];exact h _ _ U (by omega)
  obtain⟨b1,b2⟩:=DK f (bubble p k (k - m)) (k+1) hS (by rw[bubble_size];omega);exact⟨b1.trans (bubble_perm _ _ _),by rw[show k+(f+1)=k+1+f by omega];exact b2⟩
theorem Ki {n:Nat}(hn:1<=n):(gU (hU key) (kas_sort n)).toList.Perm (List.range n)/\((gU (hU key) (kas_sort n)).toList.map key).Pairwise O.kle:=by
 have Y:(List.toArray (List.range n)).size=n:=by simp
 obtain⟨z,c2,c3,c4⟩:=Kh (key:=key) (p:=List.toArray (List.range n)) (nrem:=n) hn (by omega)
 have main:(gU (hU key) (kas_sort n)).Perm (List.toArray (List.range n))/\kO key (gU (hU key) (kas_sort n)) n:=by
  unfold kas_sort;rw[pY];generalize gU (hU key) (kas_count n (List.toArray (List.range n)))=r at *;obtain⟨m,p⟩:=r;have hsz:p.size=n:=by rw[z.size_eq,Y]
  by_cases hm:m<n
  . show(gU (hU key) (if m<n then kas_bin (n - max m 1) p (max m 1) else .ret p)).Perm _/\kO key (gU (hU key) (if m<n then kas_bin (n - max m 1) p (max m 1) else .ret p)) n;rw[if_pos hm];have c2:1<=m:=c2;have em:max m 1=m:=by omega
    rw[em];obtain⟨b1,b2⟩:=DK (key:=key) (n - m) p m c4 (by omega);exact⟨b1.trans z,by rw[show n=m+(n - m) by omega];rw[show m+(n - m) - m=n - m by omega];exact b2⟩
  . show(gU (hU key) (if m<n then kas_bin (n - max m 1) p (max m 1) else .ret p)).Perm _/\kO key (gU (hU key) (if m<n then kas_bin (n - max m 1) p (max m 1) else .ret p)) n;rw[if_neg hm];have c3:m<=n:=c3;have:m=n:=by omega
    subst this;exact⟨z,c4⟩
 refine⟨Array.perm_iff_toList_perm.mp main.1,?_⟩;have hsz:(gU (hU key) (kas_sort n)).size=n:=by rw[main.1.size_eq,Y]
 rw[Q17,List.pairwise_iff_getElem];intro i j hi hj J;have L:i<(gU (hU key) (kas_sort n)).size:=by simpa using hi
 have U:j<(gU (hU key) (kas_sort n)).size:=by simpa using hj
 have q:=main.2 i j (Q0k J) (by omega);unfold Kp at q;rw[Q1n,Q1n,Q35 L,Q35 U] at q;simpa using q
end
end m_
namespace L2
open Spec PyProof.Rows
def nQ (c':Addr) (qual:Str):Heap->Prop:=λh=>h.CodeRec (.ref c') qual
def nh (P:Addr) (pos:Pos) (qual:Str) (c':Addr) (H:Hp):Prop:=H P=some (.gQ #[rawInt pos.line,rawInt pos.col,.ref c'])/\H c'=some (.ext (nQ c' qual))
def gz (P:Addr) (pos:Pos) (qual:Str) (H:Hp):Prop:=H P=some (.gQ #[])\/∃c',nh P pos qual c' H
theorem nh.mono {P:Addr}{pos:Pos}{qual:Str}{c':Addr}{H H':Hp}(h:nh P pos qual c' H)(k:∀b o,(b=P\/b=c')->H b=some o->H' b=some o):nh P pos qual c' H':=⟨k _ _ (.inl rfl) h.1,k _ _ (.inr rfl) h.2⟩
def BM (mg:Str->Option Value) (base:Heap):Prop:=
 ∃z o,mg "__builtins__"=some (.ref z)/\z≠builtinsNs/\z≠mainGlobals/\base.get? z=some o/\o.cls=.type "module"/\o.dict=some builtinsNs/\o.data=.plain
def pZ (P:Addr) (pos:Pos) (qual:Str) (ps:Array Value) (H:Hp):Prop:=H P=some (.gQ ps)/\TriplesOk ps.toList/\(codeAmong pos ps.toList=none\/∃c',codeAmong pos ps.toList=some (.ref c')/\H c'=some (.ext (nQ c' qual)))
def nR (P:Addr) (pos:Pos) (qual:Str) (ps:Array Value) (c':Addr) (H:Hp):Prop:=((codeAmong pos ps.toList=none/\H P=some (.gQ (ps++#[rawInt pos.line,rawInt pos.col,.ref c'])))\/(codeAmong pos ps.toList=some (.ref c')/\H P=some (.gQ ps)))/\H c'=some (.ext (nQ c' qual))
section
variable {X:Cx}{pins:List (Addr × Obj)}{σ:St}{H:Hp}{s:Shared}
theorem Inv.DL (I:Inv X pins σ H s){P b:Addr}{o:HO}{u:Obj}(e:H P=some o)(J:X.base.get? b=some u):b≠P:=λz=>by
 have:=(I.bs b u J).2;rw[z,e] at this;cases this
theorem Inv.DM (I:Inv X pins σ H s)(B:BM X.mg X.base){P:Addr}{o:HO}(e:H P=some o):s.heap.BuiltinsAt X.mg P:=by
 obtain⟨z,J,U,Y,b3,L,b5⟩:=B;exact⟨z,J,U,Y,b3,I.DL e L,(I.bs z J L).1,b5⟩
theorem Inv.adopt {b:Addr}{o:HO}{h':Heap}{t':Nat}(I:Inv X pins σ H s)(f:jO X pins H b)(k:∀c u,c≠b->s.heap.get? c=some u->h'.get? c=some u)(new:iN X.prog X.w (upd H b o) h' b o):
 Inv X pins σ (upd H b o) { s with heap:=h',toks:=t' }:=by
 obtain⟨Y,U,f2,f3,f4,f5⟩:=f;have J:∀c u,H c=some u->c≠b:=λc u e=>gc e Y
 refine I.step (g':=s.gens) (d':=s.drawn) (ch:=[b]) (λc hc=>?_) (λc u _ _ hc e _=>k c u (λz=>hc (by simp[z])) e) (λc u _ _ hc e _=>⟨u.slots,k c u (λz=>hc (by simp[z])) e⟩) (λc u hc e n=>?_)
  (λc u hc e=>⟨u,k c u (λz=>hc (by simp[z])) e⟩) (λc xs e=>?_) (λc L u e=>?_) (λc ps e=>⟨#[],?_⟩) (λm hm=>?_) (λc u e=>?_) I.bare
 . have e:c=b:=by simpa using hc
   subst e;exact⟨f3,U,f4,f5⟩
 . rw[fV (λz=>hc (by simp[z]))];exact n
 . rw[fV (J _ _ e)];exact e
 . rw[fV (J _ _ e)];exact e
 . rw[fV (J _ _ e),e];simp
 . obtain⟨L,es,ep,ho,r⟩:=hm;exact⟨L,es,ep,k _ L (Ne.symm U) ho,r⟩
 . by_cases hc:c=b
   . subst hc;rw[fZ] at e;cases e;exact new
   . rw[fV hc] at e;refine(I.hok c u e).stay (λd v hd q=>k d v ?_ q) (λd q=>by rw[fV (J _ _ q)];exact q) λd xs q=>by rw[fV (J _ _ q)];exact q
     rcases hd with z|z
     . rw[z];exact hc
     . exact J _ _ z
theorem Inv.own {b:Addr}{h':Heap}{t':Nat}(I:Inv X pins σ H s)(f:jO X pins H b)(z:Heap.SameBut b s.heap h'):Inv X pins σ H { s with heap:=h',toks:=t' }:=
 I.turned (t':=t') (λc u hc e=>(z.2 c hc).trans e) f.1 f.2.1 f.2.2.2.1 f.2.2.2.2.1 f.2.2.2.2.2
theorem vZ {nj:Array Value}{name qual:Str}{L:Arguments}{body:Expr}{scope:Scope}{pos:Pos}{U:Nat}{cl:List (Str × Addr)}{c P:Addr}{Q:Value->Shared->Prop}{E:Value->Shared->Prop}(I:Inv X pins σ H s)(aa:X.env.code=.ref c)(C:W.CodeHd X.base c P)
 (B:BM X.mg X.base) (T:pZ P pos qual nj H) (ac:closureFor scope X.env=pure cl)
 (h:∀(f c':Addr) (pm Y:Value) (H':Hp) (s':Shared),Inv X (pins++[(f,W.kla_obj name qual L body scope cl pm c' Y)]) σ H' s'->nR P pos qual nj c' H'->(∀b o,b≠P->H b=some o->H' b=some o)->Q (.ref f) s'):
 wpAny (model X.prog X.w) X.A (makeFunction name qual L (.expr body) scope X.env [] [] [] pos U) Q E s:=by
 have hg:s.heap.Ns mainGlobals X.mg:=I.mod.glob.keeps I.bk;have C':=C.keeps I.bk
 have ae:∀{H':Hp} {s':Shared} {f:Addr} {o:Obj},Inv X pins σ H' s'->s'.heap.get? f=some o->H' f=none->s.heap.objs.size<=f->(∀v,o.data≠ .cell v)->Inv X (pins++[(f,o)]) σ H' s':=λ{H' s' f o} J e n hz d=>
  J.oJ λp hp=>(List.mem_append.mp hp).elim (λz=>J.pin p (Q09 _ z)) λz=>by
    have:p=(f,o):=by simpa using z
    subst this;exact⟨e,n,Q0u (Q0c I.lt hz),I.pK hz,d⟩
 obtain⟨e,af,ag|⟨c',e1,e2⟩⟩:=T
 . have hP:s.heap.get? P=some (W.tabObj nj):=I.hok P _ e;have ah:P<s.heap.objs.size:=Q01 hP
   have am:mainGlobals≠P:=by
    obtain⟨o,es,ep,eo,_⟩:=I.mod.glob;exact I.DL e eo
   refine W.kla_makeFunction (mg:=X.mg) ac I.ok.glob hg aa C' hP af ag am (I.DM B e) λc' Y h' tk hx ab ai al aj=>?_;have ak:c'≠P:=Q0u (Q0c ah ab);have an:H c'=none:=I.hok.fresh ab
   have nP:∀b u,H b=some u->u≠ .gQ nj->b≠P:=λb u q d z=>by
    rw[z,e] at q;exact d (Option.some.inj q).symm
   have nC:∀b u,H b=some u->b≠c':=λb u q=>gc q an;have kk:∀(ob:Obj) b u,b≠P->s.heap.get? b=some u->(h'.push ob).get? b=some u:=λob b u hb q=>Q06 _ (hx b u hb q)
   have I1:Inv X pins σ (upd (upd H P (.gQ (nj++#[rawInt pos.line,rawInt pos.col,.ref c']))) c' (.ext (nQ c' qual))) { s with heap:=h'.push (W.kla_obj name qual L body scope cl ((X.mg "__name__").getD .none) c' Y),toks:=tk }:=by
    refine I.step (g':=s.gens) (d':=s.drawn) (ch:=[]) (λ_ z=>nomatch z) (λb o _ _ _ q n=>kk _ b o (λz=>by rw[z,e] at n;cases n) q) (λb o _ _ _ q n=>⟨o.slots,kk _ b o (λz=>by rw[z,e] at n;cases n) q⟩)
     (λb o _ q n=>?_) (λb o _ q=>?_) (λb xs q=>?_) (λb o u q=>?_) (λb ps q=>?_) (λm hm=>?_) (λb o q=>?_) I.bare
    . have b1:b≠P:=λz=>by rw[z,e] at n;cases n
      have b2:b≠c':=Q08 (Q0c (Q01 q) ab);rw[fV b2,fV b1];exact n
    . by_cases hb:b=P
      . subst hb;exact⟨_,Q06 _ aj⟩
      . exact⟨o,kk _ b o hb q⟩
    . rw[fV (nC _ _ q),fV (nP _ _ q (by intro z;cases z))];exact q
    . rw[fV (nC _ _ q),fV (nP _ _ q (by intro z;cases z))];exact q
    . by_cases hb:b=P
      . subst hb;rw[e] at q;cases q;exact⟨_,by rw[fV (Ne.symm ak),fZ]⟩
      . exact⟨#[],by rw[fV (nC _ _ q),fV hb,q];simp⟩
    . obtain⟨o,es,ep,ho,r⟩:=hm;exact⟨o,es,ep,kk _ _ o (λz=>by have:=I.free;rw[z,e] at this;cases this) ho,r⟩
    . by_cases hb:b=c'
      . subst hb;rw[fZ] at q;cases q;obtain⟨aq,oc,vs,t,z1,z2,z3,z4⟩:=al
        cases z1;refine⟨⟨_,oc,vs,t,rfl,Q06 _ z2,z3,z4⟩,⟨oc,Q06 _ z2⟩,λh1 h2 y hy=>?_⟩;obtain⟨ar,ao,ap,t',y1,y2,y3,y4⟩:=y
        cases y1;exact⟨_,ao,ap,t',rfl,hy _ y2,y3,y4⟩
      . rw[fV hb] at q;by_cases hp:b=P
        . subst hp;rw[fZ] at q;cases q;show(h'.push _).get? b=some { cls:=.none,data:=.fields _ };exact Q06 _ aj
        . rw[fV hp] at q;refine(I.hok b o q).stay (λd v hd y=>kk _ d v ?_ y) (λd y=>by rw[fV (nC _ _ y),fV (nP _ _ y (by intro z;cases z))];exact y) λd xs y=>by rw[fV (nC _ _ y),fV (nP _ _ y (by intro z;cases z))];exact y
          rcases hd with z|z
          . rw[z];exact hp
          . exact nP _ _ z (by intro z;cases z)
   have fz:s.heap.objs.size<=h'.objs.size:=Q0k (Q1h ab ai)
   have fn:upd (upd H P (.gQ (nj++#[rawInt pos.line,rawInt pos.col,.ref c']))) c' (.ext (nQ c' qual)) h'.objs.size=none:=by
    rw[fV (Q0u ai),fV (Q0u (Q0c ah fz))];exact I.hok.fresh fz
   refine h h'.objs.size c' ((X.mg "__name__").getD .none) Y _ _ (ae I1 (Q0h _ rfl) fn fz (by intro v z;cases z)) ⟨.inl ⟨ag,by rw[fV (Ne.symm ak),fZ]⟩,fZ⟩ λb o hb q=>?_;rw[fV (nC _ _ q),fV hb];exact q
 . have hP:s.heap.get? P=some (W.tabObj nj):=I.hok P _ e;refine W.kla_makeFunctionHit (mg:=X.mg) (cv:=.ref c') ac I.ok.glob hg aa C' hP af e1 (I.DM B e) λY h' tk hk hsz=>?_;exact h h'.objs.size c' ((X.mg "__name__").getD .none) Y H _ (ae (I.kept λb u q=>Q06 _ (hk b u q)) (Q0h _ rfl) (I.hok.fresh hsz) hsz (by intro v z;cases z)) ⟨.inr ⟨e1,e⟩,e2⟩ λb o _ q=>q
theorem DN {name qual:Str}{aa:Arguments}{body:Expr}{scope:Scope}{pos:Pos}{Y:Nat}{cl:List (Str × Addr)}{c P:Addr}{Q:Value->Shared->Prop}{E:Value->Shared->Prop}(I:Inv X pins σ H s)(ac:X.env.code=.ref c)(C:W.CodeHd X.base c P)
 (B:BM X.mg X.base) (T:gz P pos qual H) (ae:closureFor scope X.env=pure cl)
 (h:∀(f c':Addr) (pm ab:Value) (H':Hp) (s':Shared),Inv X (pins++[(f,W.kla_obj name qual aa body scope cl pm c' ab)]) σ H' s'->nh P pos qual c' H'->(∀b o,b≠P->H b=some o->H' b=some o)->Q (.ref f) s'):
 wpAny (model X.prog X.w) X.A (makeFunction name qual aa (.expr body) scope X.env [] [] [] pos Y) Q E s:=by
 rcases T with e|⟨U,e,ec⟩
 . refine vZ (nj:=#[]) I ac C B ⟨e,by simp[TriplesOk],.inl rfl⟩ ae λf c' pm ab H' s' J L m=>h f c' pm ab H' s' J ?_ m;obtain⟨z|z,y⟩:=L
   . exact⟨z.2,y⟩
   . cases z.1
 . refine vZ (nj:=#[rawInt pos.line,rawInt pos.col,.ref U]) I ac C B ⟨e,by simp[TriplesOk,rawInt],.inr ⟨U,by simp[codeAmong,rawInt],ec⟩⟩ ae λf c' pm ab H' s' J L m=>h f c' pm ab H' s' J ?_ m;have hc:codeAmong pos [rawInt pos.line,rawInt pos.col,.ref U]=some (.ref U):=by simp[codeAmong,rawInt]
   obtain⟨z|z,y⟩:=L
   . exact absurd (hc.symm.trans z.1) (by intro z;cases z)
   . have:U=c':=by
      have:=hc.symm.trans z.1
      cases this;rfl
     subst this;exact⟨z.2,y⟩
structure lg (X:Cx) (x:Str) (N':List Str) (scope:Scope):Prop where
 kind:scope.kind=.function
 co:scope.isCoroutine=false
 gen:scope.isGenerator=false
 cell:∀y∈scope.names,y.2≠ .cell
 loc:scope.names.lookup x=some .local
 free:∀y∈scope.names,y.2=.free->X.env.kindOf y.1=some .cell\/X.env.kindOf y.1=some .free
 len:N'.length=X.N.length
 outer:∀(i:Nat) (y:Str),N'[i]? =some y->scope.names.lookup y=none\/(X.N[i]? =some y/\scope.names.lookup y≠some .local)
noncomputable def o8 (scope:Scope):List Str->List Str->Bool
 |[],[]=>true
 |y::r,z::q=>(decide (scope.names.lookup y=none) || (decide (z=y) && decide (scope.names.lookup y≠some .local))) && o8 scope r q
 |_,_=>false
theorem DO {scope:Scope}:∀{N' N:List Str},o8 scope N' N=true->N'.length=N.length
 |[],[],_=>rfl
 |y::r,z::q,h=>by
  simp only[o8,Bool.and_eq_true] at h;rw[Q0j,Q0j,DO h.2]
theorem DP {scope:Scope}:∀{N' N:List Str},o8 scope N' N=true->∀(i:Nat) (y:Str),N'[i]? =some y->scope.names.lookup y=none\/(N[i]? =some y/\scope.names.lookup y≠some .local)
 |[],[],_,i,y,e=>by simp at e
 |w::r,z::q,h,0,y,e=>by
  simp only[o8,Bool.and_eq_true,Bool.or_eq_true,decide_eq_true_eq] at h;have e:some w=some y:=e
  cases e;rcases h.1 with h1|⟨h1,h2⟩
  . exact .inl h1
  . subst h1;exact .inr ⟨rfl,h2⟩
 |w::r,z::q,h,i+1,y,e=>by
  simp only[o8,Bool.and_eq_true] at h;have:=DP h.2 i y (by simpa using e);simpa using this
noncomputable def DQ (x:Str) (N' N:List Str) (scope sc:Scope):Bool:=
 scope.names.all (λy=>decide (y.2≠ .cell)) && decide (scope.names.lookup x=some .local) && scope.names.all (λy=>decide (y.2=.free->sc.names.lookup y.1=some .cell\/sc.names.lookup y.1=some .free)) && o8 scope N' N
theorem lg.of {x:Str}{N' N:List Str}{scope sc:Scope}(z:X.env.scope=sc)(J:X.N=N)(k:scope.kind=.function)(U:scope.isCoroutine=false)(Y:scope.isGenerator=false)(c:DQ x N' N scope sc=true):lg X x N' scope:=by
 unfold DQ at c;simp only[Bool.and_eq_true,Q1j,decide_eq_true_eq] at c;obtain⟨⟨⟨a1,a2⟩,a3⟩,L⟩:=c;exact⟨k,U,Y,a1,a2,λy hy hf=>by rw[show X.env.kindOf y.1=X.env.scope.names.lookup y.1 from rfl,z];exact a3 y hy hf,by rw[J];exact DO L,by rw[J];exact DP L⟩
noncomputable abbrev tM (qual:Str) (scope:Scope) (cl:List (Str × Addr)) (f c':Addr) (s:Shared):Env:=W.envX qual scope s.heap.objs.size f (.ref c') cl
noncomputable def p_ (X:Cx) (x:Str) (N':List Str) (scope:Scope) (cl:List (Str × Addr)) (qual:Str) (f c':Addr) (s:Shared) (H:Hp):Cx:=
 { X with A:=X.A.in1.in1.deeper (tM qual scope cl f c' s),N:=x::N',s₀:=s,H₀:=H,env:=tM qual scope cl f c' s,outer:=X.stack,stack:=tM qual scope cl f c' s::X.stack,ex:=[],fn:=λ_=>false,pn:=[],calm:=true,xe:=λ_ _=>False }
theorem Inv.lam {x:Str}{N':List Str}{scope:Scope}{cl:List (Str × Addr)}{qual:Str}{f c':Addr}{v:V}{u:Value}{L:Heap}{t':Nat}(I:Inv X pins σ H s)(S:lg X x N' scope)(hd:X.A.handled=none)
 (J:∀y c,cl.lookup y=some c->X.env.cells.lookup y=some c) (ab:∀y,(y,NameKind.free)∈scope.names->cl.lookup y=X.env.cells.lookup y) (r:RelV v u)
 (hn:L.Ns s.heap.objs.size (λy=>([(x,u)]:List (Str × Value)).reverse.lookup y)) (aa:∀b o,s.heap.get? b=some o->L.get? b=some o):
 Inv (p_ X x N' scope cl qual f c' s H) [] (some v::σ) H { s with heap:=L,toks:=t' }:=by
 have ok:=I.ok
 have U:∀y,(scope.names.lookup y=some .cell\/scope.names.lookup y=some .free)->(y,NameKind.free)∈scope.names:=λy hy=>by
  rcases hy with hy|hy
  . exact absurd rfl (S.cell _ (PySem.mem_of_lookup hy))
  . exact PySem.mem_of_lookup hy
 refine⟨⟨ok.mod,S.kind,rfl,rfl,Q00 _,λy z c Y e2=>ok.inj y z c (J y c Y) (J z c e2),λy hy=>?_,λy c hy _=>(nomatch hy),λ_=>hd,Around.frames_deeper (show X.A.in1.in1.frames=some X.stack from ok.frames),.inr ⟨rfl,rfl⟩,λb hb=>absurd (show b∈([]:List Addr) from hb) (by simp),I.bs,Q0b ok.l5 I.sz,
  λb o _ hb=>absurd (show b∈([]:List Addr) from hb) (by simp),λb hb=>absurd (show b∈([]:List Addr) from hb) (by simp),I.stack,I.qQ⟩,
  rfl,I.bare,Un.kept aa,⟨_,hn,λi y v' Y e2 e3=>?_⟩,λy c e=>?_,I.hok.fresh (Q00 _),λy c e=>I.jY y c (J y c e),λp hp=>absurd (show p∈([]:List (Addr × Obj)) from hp) (by simp),I.hok.kept aa,?_⟩
 . have hm:=U y hy;obtain⟨c,e⟩:=ok.has y (S.free _ hm rfl);exact⟨c,by rw[show(p_ X x N' scope cl qual f c' s H).env.cells=cl from rfl,ab y hm];exact e⟩
 . cases i with
   |zero=>
    have Y:some x=some y:=Y
    cases Y;have e2:some (some v)=some (some v'):=e2
    cases e2;exact⟨u,r,.inl ⟨S.loc,by simp⟩⟩
   |succ i=>
    have Y:N'[i]? =some y:=by
     have Y:(x::N')[i+1]? =some y:=Y;simpa using Y
    have e2:σ[i]? =some (some v'):=by simpa using e2
    have ho:X.N[i]? =some y/\scope.names.lookup y≠some .local:=by
     have e3:scope.names.lookup y=some .local\/scope.names.lookup y=some .cell\/scope.names.lookup y=some .free:=e3;rcases S.outer i y Y with q|q
     . rw[q] at e3;rcases e3 with z|z|z <;> cases z
     . exact q
    have ae:scope.names.lookup y=some .cell\/scope.names.lookup y=some .free:=by
     rcases e3 with q|q
     . exact absurd q ho.2
     . exact q
    have hm:=U y ae;have af:=S.free _ hm rfl;obtain⟨mX,ah,ag⟩:=I.loc;obtain⟨u',r',lk⟩:=ag i y v' ho.1 e2 (.inr af);refine⟨u',r',.inr ⟨ae,?_⟩⟩;rcases lk with⟨q,_⟩|⟨_,c,ec,hc⟩
    . rcases af with z|z
      . rw[z] at q;cases q
      . rw[z] at q;cases q
    . obtain⟨o,ho,ac⟩:=hc;exact⟨c,(ab y hm).trans ec,o,aa _ _ ho,ac⟩
 . obtain⟨w',o,ho,ac⟩:=I.cell y c (J y c e);exact⟨w',o,aa _ _ ho,ac⟩
 . show _=(x::N').length;rw[Q0j,Q0j,I.len,S.len]
theorem v5 {x:Str}{N':List Str}{name qual:Str}{z:Arguments}{body:Expr}{scope:Scope}{cl:List (Str × Addr)}{f c':Addr}{pm L:Value}{v:V}{u:Value}{te:TE}{Q:VK}{E:Value->Shared->Prop}(I:Inv X pins σ H s)(S:lg X x N' scope)(hd:X.A.handled=none)(Y:X.A.depth<recursionLimit)
 (aa:∀y c,cl.lookup y=some c->X.env.cells.lookup y=some c) (ab:∀y,(y,NameKind.free)∈scope.names->cl.lookup y=X.env.cells.lookup y) (hf:(f,W.kla_obj name qual z body scope cl pm c' L)∈pins) (hc:H c'=some (.ext (nQ c' qual)))
 (hb:∀u:Value,bindArgs (W.kla_fn name qual z body scope cl pm (.ref c') L) ⟨[u],[]⟩=pure [(x,u)]) (r:RelV v u) (he:∀(s:Shared) (H:Hp),PE (p_ X x N' scope cl qual f c' s H) body te) (h:te (some v::σ) H Q):
 wpAny (model X.prog X.w) X.A.in1.in1 (call (.ref f) [u]) (EP X pins σ Q) E s:=by
 obtain⟨p1,p2,p3,p4,p5⟩:=I.pin _ (Q09 _ hf);refine wpAny_call (W.kla_callFunE Y p1 rfl S.co S.gen rfl (I.hok c' _ hc).1 ?_);rw[hb];refine Q02 (wpAny_newFunctionEnv S.cell (λy hy=>?_) (λac ae af=>?_) S.kind)
 . have e:y=(x,u):=by simpa using hy
   subst e;exact S.loc
 have U:∀b o,s.heap.get? b=some o->ac.get? b=some o:=λb o e=>af.extBut b o (Q08 (Q01 e)) (Q06 _ e);refine⟨I.nolimit.keeps U,?_⟩;show codeAny _ _ (.expr body (tM qual scope cl f c' s)) _ _;have J:=I.lam (t':=s.toks+([(x,u)]:List (Str × Value)).length) (qual:=qual) (f:=f) (c':=c') S hd aa ab r ae U;refine W.kla_codeExpr (Q0l (he s H [] _ _ H Q J h) (λu' s' hq=>?_) λe s' hF=>hF.elim);obtain⟨v',H',J',rv,q⟩:=hq;exact I.after ⟨v',H',J'.os,J'.bare,J'.base,J'.hok,rv,q⟩
end
section
variable {X:Cx}{pins:List (Addr × Obj)}{σ:St}{H:Hp}{s:Shared}
def Asks (prog:Program) (w:World) (A:Around) (s:Shared) (us:List Value) {O:KeyOrd}(key:Nat->O.α):Prop:=
 2<=us.length->wpAny (model prog w) A (keyKind' us.toArray) (λκ s'=>s'=s/\∀(i j:Nat) (C:Bool->Shared->Prop),i<us.length->j<us.length->C (O.blt (key i) (key j)) s->W.kas_ask prog w A κ us i j C s) (λ_ _=>False) s
theorem DR {xs:List V}{vs:List Value}(r:Vals xs vs):∀p:List Nat,Vals (p.map λi=>xs.getD i .non) (p.map λi=>vs.getD i Value.none)
 |[]=>.nil
 |i::p=>by
  refine .cons ?_ (DR r p);show RelV (xs.getD i .non) (vs.getD i Value.none);rw[Q0e,Q0e]
  cases e:xs[i]? with
  |none=>
   rw[r.none_of e];exact rfl
  |some x=>
   obtain⟨u,z,J⟩:=r.get e;rw[z];exact J
theorem DS {α:Type}(a0:α)(l:List α):((List.range l.length).map λi=>l.getD i a0)=l:=by
 apply Q2j
 . simp
 . intro i h1 h2;simp[h2]
theorem Kj {us vs:List Value}(hl:us.length=vs.length):((List.toArray us).zip (List.toArray vs)).map (·.2)=List.toArray vs:=by
 apply Array.toList_inj.mp;rw[Array.toList_map,ksk_zip];show List.map Prod.snd (us.zip vs)=vs;exact List.map_snd_zip (by omega)
theorem Kk {α:Type}{R:α->α->Prop}(key:Nat->α){n:Nat}(h:n<2):((List.range n).map key).Pairwise R:=by
 have:n=0\/n=1:=by omega
 rcases this with rfl|rfl
 . exact List.Pairwise.nil
 . exact Q1w _ _
noncomputable abbrev lo (xs:List Value) (n:Nat):Obj:=seqObj "list" (List.toArray xs) n
theorem DT {E:Value->Shared->Prop}{kS D:Addr}{us:List Value}{e L:Nat}{st:SortSt}{out:List Value}{outV:List V}{P:PySem.Fin->Shared->Prop}{A:Around}(I:Inv X (pins++[(kS,lo us e),(D,lo [] L)]) σ H s)(fK:jO X pins H kS)(fD:jO X pins H D)(Y:kS≠D)(ab:us.length<64)(ho:out.length<64)
 (J:(arrOf st).map (·.2)=List.toArray out) (hf:failedOf st=none) (rv:Vals outV out)
 (h:∀s',Inv X pins σ (upd H D (.lst outV)) s'->P (.done (.ret .none)) s'):wpAny (model X.prog X.w) A (ksk_tail D false L (.ref kS) st) P E s:=by
 have nk:=(I.pin (kS,lo us e) (Q09 _ (Q09 _ (Q05)))).1;have nD:=(I.pin (D,lo [] L) (Q09 _ (Q09 _ (Q0d _ Q05)))).1;have s1:=Heap.SameBut.update s.heap kS (Obj.mapSeq λ_=>(#[]:Array Value));have z:(s.heap.update kS (Obj.mapSeq λ_=>(#[]:Array Value))).get? D=some (lo [] L):=(s1.2 D Y.symm).trans nD;have s2:=Heap.SameBut.update (s.heap.update kS (Obj.mapSeq λ_=>(#[]:Array Value))) D (Obj.mapSeq λ_=>List.toArray out);obtain⟨U,aa⟩:∃U,((s.heap.update kS (Obj.mapSeq λ_=>(#[]:Array Value))).update D (Obj.mapSeq λ_=>List.toArray out)).get? D=some (lo out U):=⟨_,get?_update_seq z λ_=>List.toArray out⟩;have I1:Inv X pins σ H { s with heap:=s.heap.update kS (Obj.mapSeq λ_=>(#[]:Array Value)) }:=I.mC.own (t':=s.toks) fK s1
 have I2:Inv X pins σ (upd H D (.lst outV)) { s with heap:=(s.heap.update kS (Obj.mapSeq λ_=>(#[]:Array Value))).update D (Obj.mapSeq λ_=>List.toArray out) }:=
  I1.adopt (t':=s.toks) fD (λc u hc q=>(s2.2 c hc).trans q) ⟨by rw[rv.length];exact Q0k (i2 (by omega)),out,U,rv,aa⟩
 unfold ksk_tail
 try dsimp only
 rw[J];refine Q0 (listUpdate_at nk rfl ?_ (by rw[Q07,sizeLine_eq];omega) (Q0g _));refine Q0 (wpAny_letGo ?_);refine Q0 (seqEpoch_at z rfl ?_);refine Q0 (listUpdate_at z rfl ?_ (Q0g _) (by show(List.toArray out).size<=_;rw[Q07,sizeLine_eq];omega));rw[hf];simp only[bne_self_eq_false,Bool.false_eq_true,if_false];exact Q02 (h _ I2)
theorem Kl {E:Value->Shared->Prop}{kS D:Addr}{us vs:List Value}{xs:List V}{e e1:Nat}{P:PySem.Fin->Shared->Prop}{A:Around}{O:KeyOrd}{key:Nat->O.α}(I:Inv X (pins++[(kS,lo us e),(D,lo [] e1)]) σ H s)(fK:jO X pins H kS)(fD:jO X pins H D)(aa:kS≠D)
 (hl:us.length=vs.length) (U:vs.length<64) (rv:Vals xs vs) (ask:Asks X.prog X.w A s us key)
 (h:∀(p:List Nat),p.Perm (List.range vs.length)->(p.map key).Pairwise O.kle->∀s',Inv X pins σ (upd H D (.lst (p.map λi=>xs.getD i .non))) s'->P (.done (.ret .none)) s'):
 wpAny (model X.prog X.w) A (ksk_end D false (List.toArray vs) e1 (.ref kS) (List.toArray us)) P E s:=by
 unfold ksk_end
 try dsimp only
 simp only[Bool.false_eq_true,if_false];by_cases h2:vs.toArray.size<2
 . rw[if_pos h2,if_pos h2];have Y:vs.length<2:=by simpa using h2
   refine Q0 (Q02 ?_);rw[StateT.run_pure];refine Q0 (Q02 ?_)
   try dsimp only
   have ab:xs.length=vs.length:=rv.length
   have ez:((List.range vs.length).map λi=>xs.getD i .non)=xs:=by
    rw[<-ab];exact DS _ xs
   refine DT (out:=vs) (outV:=xs) (st:=SortSt.mk' general' ((List.toArray us).zip (List.toArray vs)) #[] 7 none) I fK fD aa (by omega) U (Kj hl) rfl rv λs' J=>?_;have q:=h (List.range vs.length) (List.Perm.refl _) (Kk key Y) s';rw[ez] at q;exact q J
 . rw[if_neg h2,if_neg h2];have Y:2<=vs.length:=by simpa using h2
   refine Q0 (Q0l (ask (by omega)) (λκ s' hk=>?_) λ_ _ hF=>hF.elim);obtain⟨rfl,hk⟩:=hk;obtain⟨k1,k2⟩:=m_.Ki (key:=key) (n:=vs.length) (by omega)
   refine Q0 (Q0l (W.kat_run (κ:=κ) (ks:=us) (vs:=vs) (Q:=λL z=>z=s'/\arrOf L=(m_.gU (m_.hU key) (W.kas_sort vs.length)).map (W.kas_item ((List.toArray us).zip vs.toArray))/\failedOf L=none)
    (G:=λp z=>z=s'/\p=m_.gU (m_.hU key) (W.kas_sort vs.length)) hl Y U (λp L z _ a2 a3 a4=>⟨a4.1,by rw[a2,a4.2],a3⟩)
    (m_.DC (f:=m_.hU key) (λi j C hi hj q=>hk i j C (by omega) (by omega) q) (m_.Kf (by omega)) ⟨rfl,rfl⟩)) ?_ λ_ _ x=>x)
   rintro⟨⟨⟩,L⟩ z ⟨rfl,ac,ae⟩
   try dsimp only
   refine DT I fK fD aa (by omega) (by rw[Q04,k1.length_eq,Q1p];exact U) (W.kat_snds hl ac) ae (DR rv _) λs' J=>h _ k1 k2 s' J
theorem Km {prog:Program}{w:World}{A:Around}{E:Value->Shared->Prop}{s:Shared}{l:Addr}{vs:List Value}{Q:List Value->Shared->Prop}(hl:IsTup s.heap l vs.toArray)
 (h:Q vs { s with heap:=(s.heap.push (seqObj "list" #[] 0)).update s.heap.objs.size (Obj.mapSeq (· ++vs.toArray)) }) (hsz:vs.length<=sizeLine):
 wpAny (model prog w) A (collect (.ref l)) Q E s:=by
 obtain⟨o,J,hc,n,L⟩:=id hl;unfold collect;refine Q0 (wpAny_runValue (codeAny_builtin entry_proto_collect' ?_));refine Q0 (wpAny_newList (Q02 ⟨Code.quiet_builtin _ (by decide +kernel),codeAny_builtin entry_list_iadd' ?_⟩));change wpAny _ _ (Builtin.List.listExtendWith (.ref s.heap.objs.size) (.ref l) (.ref s.heap.objs.size)) _ _ { s with heap:=s.heap.push (seqObj "list" #[] 0) };unfold Builtin.List.listExtendWith;have z:(s.heap.push (seqObj "list" #[] 0)).get? l=some o:=Q06 _ J;refine Q0 (wpAny_typeOf (T:="tuple") ⟨o,z,hc⟩ ?_);have ht:(Value.type "tuple" == Value.type "tuple")=true:=by rfl
 rw[if_pos (by rw[ht];simp)];refine Q0 (listItems_at z L ?_);refine Q0 (listItems_at (xs:=#[]) (n:=0) (Q0h _ rfl) rfl ?_);rw[if_neg (by simp)];refine Q0 (listUpdate_at (xs:=#[]) (n:=0) (Q0h _ rfl) rfl ?_ (Q0g _) (by show(#[]++vs.toArray).size<=sizeLine+1;simp only[Q36,Q07,Q2g];omega));refine Q02 ?_;refine Q0 (wpAny_load (get?_update_seq (Q0h _ rfl) _) ?_);change wpAny _ _ (pure ((#[]:Array Value)++vs.toArray).toList) Q E _;rw[show((#[]:Array Value)++vs.toArray).toList=vs by simp];exact Q02 h
theorem DU {E:Value->Shared->Prop}{f a:Addr}{xs:List V}{Q:VK}{W:List V->Hp->Prop}(I:Inv X pins σ H s)(hq:fY X.K H a xs\/fU X.K H a xs)(ar:xs.length<64)(w0:W [] H)
 (turn:∀(pl:List (Addr × Obj)) (s':Shared) (H':Hp) (ks:List V) (y:V) (u:Value),Inv X (pins++pl) σ H' s'->W ks H'->xs[ks.length]? =some y->RelV y u->
   wpAny (model X.prog X.w) X.A.in1.in1 (call (.ref f) [u]) (EP X (pins++pl) σ λk aa=>W (ks++[k]) aa) (λ_ _=>False) s')
 (fin:∀(pl:List (Addr × Obj)) (s':Shared) (H':Hp) (ks:List V) (us:List Value),Inv X (pins++pl) σ H' s'->W ks H'->ks.length=xs.length->Vals ks us->∃(O:KeyOrd) (key:Nat->O.α),Asks X.prog X.w X.A.in1.in1 s' us key/\
   ∀p:List Nat,p.Perm (List.range xs.length)->(p.map key).Pairwise O.kle->∀D,H' D=none->Q (.ref D) (upd H' D (.lst (p.map λi=>xs.getD i .non)))):
 wpAny (model X.prog X.w) X.A (call (.builtin "sorted") [.ref a] [(Str.ofString "key",.ref f)]) (EP X pins σ Q) E s:=by
 obtain⟨vs,rv,al⟩:∃vs,Vals xs vs/\∀{A:Around} {E:Value->Shared->Prop} {Q:List Value->Shared->Prop},Q vs { s with heap:=(s.heap.push (seqObj "list" #[] 0)).update s.heap.objs.size (Obj.mapSeq (· ++vs.toArray)) }->vs.length<=sizeLine->wpAny (model X.prog X.w) A (collect (.ref a)) Q E s:=by
  rcases hq with hq|hq
  . obtain⟨vs,rv,pl,hz⟩:=I.list hq;exact⟨vs,rv,λh1 h2=>collect_list pl.isList h1 h2⟩
  . obtain⟨vs,rv,pl,hz⟩:=I.tuple hq;exact⟨vs,rv,λh1 h2=>Km pl h1 h2⟩
 have hl:xs.length=vs.length:=rv.length;refine call_function_entry_kw kind_sorted plain_sorted entry_sorted (ksk_s1 _ _) ?_;unfold Builtin.«sorted»;refine Q0 (m:=checkCount "sorted" 1 1 _) (Q02 ?_);refine Q0 (al ?_ (by rw[sizeLine_eq];omega));refine Q0 (wpAny_newList ?_ (by rw[sizeLine_eq];omega))
 have hsz:((s.heap.push (seqObj "list" #[] 0)).update s.heap.objs.size (Obj.mapSeq (· ++vs.toArray))).objs.size=s.heap.objs.size+1:=by
  rw[Q2k,size_push']
 have U:(((s.heap.push (seqObj "list" #[] 0)).update s.heap.objs.size (Obj.mapSeq (· ++vs.toArray))).push (seqObj "list" vs.toArray 0)).get? (s.heap.objs.size+1)=some (seqObj "list" vs.toArray 0):=by
  rw[<-hsz];exact Q0h _ rfl
 have keep:∀b o,s.heap.get? b=some o->(((s.heap.push (seqObj "list" #[] 0)).update s.heap.objs.size (Obj.mapSeq (· ++vs.toArray))).push (seqObj "list" vs.toArray 0)).get? b=some o:=λb o q=>by
  have ac:b<s.heap.objs.size:=Q01 q;rw[Q37 _ _ _ (by rw[hsz];exact Q08 (Q2l ac)),Q2m _ _ _ _ (Q08 ac),Q37 _ _ _ (Q08 ac)];exact q
 show wpAny _ _ _ _ _ { s with heap:=((s.heap.push (seqObj "list" #[] 0)).update s.heap.objs.size (Obj.mapSeq (· ++vs.toArray))).push (seqObj "list" vs.toArray 0) };rw[hsz];generalize hG:((s.heap.push (seqObj "list" #[] 0)).update s.heap.objs.size (Obj.mapSeq (· ++vs.toArray))).push (seqObj "list" vs.toArray 0)=G at U keep ⊢;have am:G.objs.size=s.heap.objs.size+2:=by rw[<-hG,size_push',hsz]
 have I1:Inv X pins σ H { s with heap:=G }:=I.kept (t':=s.toks) keep;refine Q0 (wpAny_holding (wpAny_call_entry_kw slot_list_sort ⟨_,U,rfl⟩ entry_list_sort ?body (ksk_l1 _ _)))
 case body=>
  show wpAny (model X.prog X.w) X.A.in1.in1 (Builtin.«list.sort» ⟨[.ref (s.heap.objs.size+1)],[(Str.ofString "key",.ref f)]⟩) _ _ _;rw[ksk_t1];unfold ksk_tree;generalize hD:s.heap.objs.size+1=D at U ⊢;have af:s.heap.objs.size<=D:=by omega
  have s1:=Heap.SameBut.update G D (Obj.mapSeq λ_=>(#[]:Array Value));obtain⟨e1,ag⟩:∃e1,(G.update D (Obj.mapSeq λ_=>(#[]:Array Value))).get? D=some (lo [] e1):=⟨_,get?_update_seq U λ_=>#[]⟩;refine Q0 (listItems_at U rfl ?_);refine Q0 (listUpdate_at U rfl ?_ (by rw[Q07,sizeLine_eq];omega) (Q0g _));refine Q0 (seqEpoch_at ag rfl ?_);refine Q0 (wpAny_newTuple ?_ (by show vs.length<=_;rw[sizeLine_eq];omega));refine Q0 (wpAny_newList ?_ (Q0g _));refine wpAny_holding ?_;show wpAny (model X.prog X.w) X.A.in1.in1 _ _ _ { s with heap:=((G.update D (Obj.mapSeq λ_=>(#[]:Array Value))).push (seqObj "tuple" vs.toArray 0)).push (seqObj "list" #[] 0) };generalize ah:((G.update D (Obj.mapSeq λ_=>(#[]:Array Value))).push (seqObj "tuple" vs.toArray 0)).objs.size=kS;have aq:kS=s.heap.objs.size+3:=by rw[<-ah,size_push',Q2k,am]
  have ai:kS≠D:=by omega
  have L:jO X pins H D:=I.nM af (I.hok.fresh af);have ab:jO X pins H kS:=I.nM (by omega) (I.hok.fresh (by omega))
  have ae:∀b o,b≠D->G.get? b=some o->(((G.update D (Obj.mapSeq λ_=>(#[]:Array Value))).push (seqObj "tuple" vs.toArray 0)).push (seqObj "list" #[] 0)).get? b=some o:=λb o hb q=>
   Q06 _ (Q06 _ ((s1.2 b hb).trans q))
  have I2:Inv X pins σ H { s with heap:=((G.update D (Obj.mapSeq λ_=>(#[]:Array Value))).push (seqObj "tuple" vs.toArray 0)).push (seqObj "list" #[] 0) }:=
   Inv.turned (s:={ s with heap:=G }) (t':=s.toks) (it:=D) I1 ae L.1 L.2.1 L.2.2.2.1 L.2.2.2.2.1 L.2.2.2.2.2
  have hK:(((G.update D (Obj.mapSeq λ_=>(#[]:Array Value))).push (seqObj "tuple" vs.toArray 0)).push (seqObj "list" #[] 0)).get? kS=some (lo [] 0):=by rw[<-ah];exact Q0h _ rfl
  have aj:(((G.update D (Obj.mapSeq λ_=>(#[]:Array Value))).push (seqObj "tuple" vs.toArray 0)).push (seqObj "list" #[] 0)).get? D=some (lo [] e1):=Q06 _ (Q06 _ ag);generalize ((G.update D (Obj.mapSeq λ_=>(#[]:Array Value))).push (seqObj "tuple" vs.toArray 0)).push (seqObj "list" #[] 0)=G2 at I2 hK aj ⊢
  have pinned:∀{H':Hp} {s':Shared} {us:List Value} {e:Nat},Inv X pins σ H' s'->s'.heap.get? kS=some (lo us e)->s'.heap.get? D=some (lo [] e1)->H' kS=none->H' D=none->Inv X (pins++[(kS,lo us e),(D,lo [] e1)]) σ H' s':=λ{H' s' us e} J k1 k2 n1 n2=>
   J.oJ λp hp=>(List.mem_append.mp hp).elim (λz=>J.pin p (Q09 _ z)) λz=>by
     have z:p=(kS,lo us e)\/p=(D,lo [] e1):=by simpa using z
     rcases z with rfl|rfl
     . exact⟨k1,n1,ab.2.1,ab.2.2.1,by intro v z;cases z⟩
     . exact⟨k2,n2,L.2.1,L.2.2.1,by intro v z;cases z⟩
  have own:∀{H':Hp} {b:Addr},(b=kS\/b=D)->H' b=none->jO X pins H' b:=λ{H' b} hb n=>by
   rcases hb with rfl|rfl
   . exact⟨n,ab.2⟩
   . exact⟨n,L.2⟩
  unfold ksk_rest;refine Q0 (wpAny_rule ?_)
  first
   |rw[List.forIn_toArray]
   |(rw[<-Q38];simp only[List.toList_toArray])
   |rw[<-Q38]
  refine Q0 (ksk_fold (λi s'=>∃ks us e H',Inv X (pins++[(kS,lo us e),(D,lo [] e1)]) σ H' s'/\Vals ks us/\ks.length=i/\i<=vs.length/\W ks H') vs 0 _
   ⟨[],[],0,H,pinned I2 hK aj ab.1 L.1,.nil,rfl,Q0g _,w0⟩ (λj x s' hx hJ=>?_) λs' hJ=>?_)
  . obtain⟨ks,us,e,H',J,rk,hi,an,wk⟩:=hJ;have hi:ks.length=j:=by omega
    have hj:j<vs.length:=(List.getElem?_eq_some_iff.mp hx).1;have ak:j<xs.length:=by omega
    obtain⟨u,hu,ru⟩:=rv.get (Q03 ak);rw[hx] at hu;cases hu;refine Q0 (wpAny_attempt (Q0l (turn _ s' H' ks (xs[j]) x J wk (by rw[hi];exact Q03 ak) ru) (λk Y hk=>?_) λ_ _ hF=>hF.elim));obtain⟨kv,aa,J',ao,w'⟩:=hk;have pk:=J'.pin (kS,lo us e) (Q09 _ (Q09 _ (Q05)));have pD:=J'.pin (D,lo [] e1) (Q09 _ (Q09 _ (Q0d _ Q05)));have au:us.length=ks.length:=rk.length.symm;have s2:=Heap.SameBut.update Y.heap kS (Obj.mapSeq (·.push k));have ea:(List.toArray us).push k=List.toArray (us++[k]):=by simp
    obtain⟨c2,ap⟩:∃c2,(Y.heap.update kS (Obj.mapSeq (·.push k))).get? kS=some (lo (us++[k]) c2):=⟨_,by show _=some (seqObj "list" (List.toArray (us++[k])) _);rw[<-ea];exact get?_update_seq pk.1 (·.push k)⟩
    try dsimp only
    refine Q0 (listUpdate_at pk.1 rfl ?_ (by rw[Q07,sizeLine_eq];omega) (Q0b (Q1s (Array.size_push ..)) (by rw[Q07,sizeLine_eq];omega)));have J2:Inv X pins σ aa { Y with heap:=Y.heap.update kS (Obj.mapSeq (·.push k)) }:=J'.mC.own (t':=Y.toks) (own (.inl rfl) pk.2.1) s2;refine Q02 ⟨rfl,ks++[kv],us++[k],c2,aa,pinned J2 ap ((s2.2 D ai.symm).trans pD.1) pk.2.1 pD.2.1,rk.append (.cons ao .nil),by rw[Q0a,Q15];omega,by omega,w'⟩
  . obtain⟨ks,us,e,H',J,rk,hi,an,wk⟩:=hJ;have hi:ks.length=vs.length:=by omega
    have pk:=J.pin (kS,lo us e) (Q09 _ (Q09 _ (Q05)));have pD:=J.pin (D,lo [] e1) (Q09 _ (Q09 _ (Q0d _ Q05)))
    try dsimp only
    refine Q0 (listItems_at pk.1 rfl ?_);obtain⟨O,key,ask,q⟩:=fin _ s' H' ks us J wk (by omega) rk;refine Kl J (own (.inl rfl) pk.2.1) (own (.inr rfl) pD.2.1) ai (by rw[<-rk.length];exact hi) (by omega) rv ask λp p1 p2 Y J'=>?_;exact⟨_,rfl,Q02 ⟨_,rfl,.ref D,_,J',rfl,q p (by rw[hl];exact p1) p2 D pD.2.1⟩⟩
theorem DV {E:Value->Shared->Prop}{f a:Addr}{xs:List V}{Q:VK}{W:List V->Hp->Prop}(I:Inv X pins σ H s)(L:fY X.K H a xs)(z:xs.length<64)(U:W [] H)
 (turn:∀(pl:List (Addr × Obj)) (s':Shared) (H':Hp) (ks:List V) (y:V) (u:Value),Inv X (pins++pl) σ H' s'->W ks H'->xs[ks.length]? =some y->RelV y u->
   wpAny (model X.prog X.w) X.A.in1.in1 (call (.ref f) [u]) (EP X (pins++pl) σ λk J=>W (ks++[k]) J) (λ_ _=>False) s')
 (fin:∀(pl:List (Addr × Obj)) (s':Shared) (H':Hp) (ks:List V) (us:List Value),Inv X (pins++pl) σ H' s'->W ks H'->ks.length=xs.length->Vals ks us->∃(O:KeyOrd) (key:Nat->O.α),Asks X.prog X.w X.A.in1.in1 s' us key/\
   ∀p:List Nat,p.Perm (List.range xs.length)->(p.map key).Pairwise O.kle->∀D,H' D=none->Q (.ref D) (upd H' D (.lst (p.map λi=>xs.getD i .non)))):
 wpAny (model X.prog X.w) X.A (call (.builtin "sorted") [.ref a] [(Str.ofString "key",.ref f)]) (EP X pins σ Q) E s:=DU I (.inl L) z U turn fin
end
noncomputable def j0:Key->Key->Bool
 | .inl i,.inl j=>decide (i<j)
 | .inl _,.inr _=>true
 | .inr _,.inl _=>false
 | .inr x,.inr y=>decide (x.cps.toList<y.cps.toList)
theorem Kn (a:Key):j0 a a=false:=by
 cases a with
 |inl i=>simp[j0]
 |inr x=>simpa[j0] using Q39 x.cps.toList
theorem Ko {a b c:Key}(h1:j0 a b=true)(h2:j0 b c=true):j0 a c=true:=by
 cases a <;> cases b <;> cases c <;> simp only[j0,decide_eq_true_eq,Bool.false_eq_true] at * <;> first|omega|exact List.lt_trans h1 h2
theorem Kq {x y:Str}(h:x.cps.toList=y.cps.toList):x=y:=by
 cases x;cases y;simp only[Str.mk.injEq];exact Array.toList_inj.mp h
theorem Kr (a b:Key):j0 a b=true\/a=b\/j0 b a=true:=by
 cases a with
 |inl i=>
  cases b with
  |inl j=>
   simp only[j0,decide_eq_true_eq];rcases Int.lt_trichotomy i j with h|h|h
   . exact .inl h
   . exact .inr (.inl (by rw[h]))
   . exact .inr (.inr h)
  |inr y=>exact .inl rfl
 |inr x=>
  cases b with
  |inl j=>exact .inr (.inr rfl)
  |inr y=>
   simp only[j0,decide_eq_true_eq];by_cases h1:x.cps.toList<y.cps.toList
   . exact .inl h1
   . by_cases h2:y.cps.toList<x.cps.toList
     . exact .inr (.inr h2)
     . exact .inr (.inl (by rw[Kq (List.le_antisymm (List.not_lt.mp h2) (List.not_lt.mp h1))]))
theorem Ks {a b:Key}(h:j0 a b=true):a≠b:=λe=>by
 rw[e,Kn] at h;cases h
noncomputable def hZ:List Key->List Key->Bool
 |[],[]=>false
 |[],_::_=>true
 |_::_,[]=>false
 |x::xs,y::ys=>if x=y then hZ xs ys else j0 x y
theorem tN:∀a:List Key,hZ a a=false
 |[]=>rfl
 |x::xs=>by
  show(if x=x then hZ xs xs else j0 x x)=false;rw[if_pos rfl];exact tN xs
theorem qc (x y:Key)(xs ys:List Key):hZ (x::xs) (y::ys)=if x=y then hZ xs ys else j0 x y:=rfl
theorem qd:∀(a b c:List Key),hZ a b=true->hZ b c=true->hZ a c=true
 |[],[],_,h,_=>by cases h
 |[],_::_,[],_,h=>by cases h
 |[],_::_,_::_,_,_=>rfl
 |_::_,[],_,h,_=>by cases h
 |_::_,_::_,[],_,h=>by cases h
 |x::xs,y::ys,z::zs,h1,h2=>by
  rw[qc] at *;by_cases L:x=y
  . subst L;rw[if_pos rfl] at h1;by_cases J:x=z
    . rw[if_pos J] at h2 ⊢;exact qd xs ys zs h1 h2
    . rw[if_neg J] at h2 ⊢;exact h2
  . rw[if_neg L] at h1;by_cases J:y=z
    . subst J;rw[if_neg L];exact h1
    . rw[if_neg J] at h2;have q:=Ko h1 h2;rw[if_neg (Ks q)];exact q
theorem rB:∀a b:List Key,hZ a b=true\/a=b\/hZ b a=true
 |[],[]=>.inr (.inl rfl)
 |[],_::_=>.inl rfl
 |_::_,[]=>.inr (.inr rfl)
 |x::xs,y::ys=>by
  rw[qc,qc];by_cases e:x=y
  . subst e;rw[if_pos rfl,if_pos rfl];rcases rB xs ys with h|h|h
    . exact .inl h
    . exact .inr (.inl (by rw[h]))
    . exact .inr (.inr h)
  . rw[if_neg e,if_neg (λz=>e z.symm)];rcases Kr x y with h|h|h
    . exact .inl h
    . exact absurd h e
    . exact .inr (.inr h)
@[reducible] noncomputable def o9:KeyOrd where
  α:=List Key
  blt:=hZ
  irrefl:=tN
  trans:=qd
  negTrans a b c h:=by
   rcases rB a b with q|q|q
   . exact .inl q
   . exact .inr (by rw[<-q];exact h)
   . exact .inr (qd b a c q h)
  total a b h1 h2:=by
   rcases rB a b with q|q|q
   . rw[h1] at q;cases q
   . exact q
   . rw[h2] at q;cases q
def lh (a b:List Key):Prop:=hZ b a=false
noncomputable def i_:Key->Bool
 | .inl _=>true
 | .inr _=>false
def DW (z:List (List Key)):Prop:=∃J:List Bool,J≠[]/\∀L∈z,L.map i_=J
def qe (H:Hp):List V->List (List Key)->Prop:=Paired λk z=>∃p,k=.ref p/\H p=some (.tup (z.map kV))
section
variable {X:Cx}{pins:List (Addr × Obj)}{σ:St}{H:Hp}{s:Shared}
theorem o_ {k:Key}{u:Value}(r:RelV (kV k) u):(∃i t,k=.inl i/\u=.int i t)\/∃x t,k=.inr x/\u=.str x t:=by
 cases k with
 |inl i=>
  obtain⟨t,rfl⟩:=r;exact .inl ⟨i,t,rfl,rfl⟩
 |inr x=>
  obtain⟨t,rfl⟩:=r;exact .inr ⟨x,t,rfl,rfl⟩
theorem v7 {prog:Program}{w:World}{A:Around}{C:Bool->Shared->Prop}:∀(U Y:List Key) (J L:List Value) (i:Nat),Vals (U.map kV) J->Vals (Y.map kV) L->U.map i_=Y.map i_->C (hZ U Y) s->
 W.KatLex prog w A true false C (J.zip L) i s
 |[],[],J,L,i,r1,r2,_,q=>by
  cases r1;cases r2;exact W.kat_nil q
 |[],_::_,_,_,_,_,_,h,_=>by cases h
 |_::_,[],_,_,_,_,_,h,_=>by cases h
 |x::xs,y::ys,J,L,i,r1,r2,h,q=>by
  cases r1 with
  |cons a1 b1=>
  cases r2 with
  |cons a2 b2=>
  have h1:i_ x=i_ y:=(List.cons.inj h).1;have h2:xs.map i_=ys.map i_:=(List.cons.inj h).2;rw[qc] at q;rcases o_ a1 with⟨m,t,rfl,rfl⟩|⟨m,t,rfl,rfl⟩ <;> rcases o_ a2 with⟨n,t',rfl,rfl⟩|⟨n,t',rfl,rfl⟩
  . refine W.kat_cons (wpAny_eqBool_int ?_);by_cases e:m=n
    . subst e;rw[if_pos rfl] at q;rw[beq_self_eq_true];exact W.kat_yes (v7 xs ys _ _ (i+1) b1 b2 h2 q)
    . rw[if_neg (λz=>e (Sum.inl.inj z))] at q;rw[beq_false_of_ne e];refine W.kat_no ?_
      cases hi:(i == 0) with
      |true=>exact oneLt_int q
      |false=>exact W.kat_one _ _ (lt_int q)
  . cases h1
  . cases h1
  . refine W.kat_cons (wpAny_eqBool_str ?_);by_cases e:m=n
    . subst e;rw[if_pos rfl] at q;rw[decide_eq_true rfl];exact W.kat_yes (v7 xs ys _ _ (i+1) b1 b2 h2 q)
    . rw[if_neg (λz=>e (Sum.inr.inj z))] at q;rw[decide_eq_false e];refine W.kat_no ?_
      cases hi:(i == 0) with
      |true=>exact oneLt_str q
      |false=>exact W.kat_one _ _ (lt_str q)
theorem DX {ks:List V}{us:List Value}{z:List (List Key)}(I:Inv X pins σ H s)(r:Vals ks us)(hk:qe H ks z){i:Nat}(hi:i<us.length):
 ∃p J,us.getD i Value.none=.ref p/\IsTup s.heap p (List.toArray J)/\Vals ((z.getD i []).map kV) J/\z.getD i []∈z:=by
 have hl:=r.length;have aa:ks.length=z.length:=Paired.length hk;have Y:ks[i]? =some (ks[i]'(by omega)):=Q03 (by omega);obtain⟨u,hu,L⟩:=r.get Y;have U:z.getD i []=z[i]'(by omega):=by rw[Q0e,Q03 (by omega)];rfl
 have key:∀(ks:List V) (z:List (List Key)),qe H ks z->∀i (h1:i<ks.length) (h2:i<z.length),∃p,ks[i]=.ref p/\H p=some (.tup (z[i].map kV)):=by
  intro ks z hk
  induction hk with
  |nil=>intro i h1;simp at h1
  |cons a b ih=>
   intro i h1 h2
   cases i with
   |zero=>exact a
   |succ i=>simpa using ih i (by simpa using h1) (by simpa using h2)
 obtain⟨p,hp,hH⟩:=key ks z hk i (by omega) (by omega);rw[hp] at L
 cases L;obtain⟨J,rv,tp,_⟩:=I.tuple (fU.of hH);refine⟨p,J,by rw[Q0e,hu];rfl,tp,by rw[U];exact rv,by rw[U];exact Q1m _⟩
theorem DY (I:Inv X pins σ H s){t:Bool}:∀{ks:List V}{us:List Value}{z:List (List Key)},Vals ks us->qe H ks z->(∀J∈z,∃k r,J=k::r/\i_ k=t)->
 ∃fs,W.KatTups s.heap us fs/\fs.length=us.length/\∀v∈fs,(t=true/\∃i tk,v=.int i tk)\/(t=false/\∃x tk,v=.str x tk)
 |_,_,_,.nil,.nil,_=>⟨[],W.KatTups.nil,rfl,λv L=>nomatch L⟩
 |_,_,_,.cons a r,.cons b q,h=>by
  obtain⟨p,rfl,hp⟩:=b
  cases a;obtain⟨fs,U,Y,f3⟩:=DY I r q λJ hm=>h J (Q0d _ hm);obtain⟨k,rr,rfl,hk⟩:=h _ Q05;obtain⟨aa,rv,⟨o,ho,hc,n,hd⟩,_⟩:=I.tuple (fU.of hp)
  cases rv with
  |cons a1 b1=>
   refine⟨_::fs,W.KatTups.cons ho hc hd (by simp;rfl) U,by rw[Q0j,Q0j,Y],λv L=>?_⟩;rcases List.mem_cons.mp L with e|e
   . subst e;rcases o_ a1 with⟨i,tk,rfl,rfl⟩|⟨x,tk,rfl,rfl⟩
     . exact .inl ⟨hk.symm,i,tk,rfl⟩
     . exact .inr ⟨hk.symm,x,tk,rfl⟩
   . exact f3 v e
theorem Kt {A:Around}{ks:List V}{us:List Value}{J:List (List Key)}(I:Inv X pins σ H s)(r:Vals ks us)(hk:qe H ks J)(aa:DW J):Asks X.prog X.w A s us (O:=o9) (λi=>J.getD i []):=by
 intro h2;obtain⟨ts,ab,L⟩:=aa
 obtain⟨t,tr,rfl⟩:∃t tr,ts=t::tr:=by
  cases ts with
  |nil=>exact absurd rfl ab
  |cons t tr=>exact⟨t,tr,rfl⟩
 have hh:∀kl∈J,∃k r,kl=k::r/\i_ k=t:=λkl hm=>by
  have e:=L kl hm
  cases kl with
  |nil=>cases e
  |cons k r=>exact⟨k,r,rfl,(List.cons.inj e).1⟩
 obtain⟨fs,f1,f2,f3⟩:=DY I r hk hh
 have fin:∀(i j:Nat) (C:Bool->Shared->Prop),i<us.length->j<us.length->C (hZ (J.getD i []) (J.getD j [])) s->W.kas_ask X.prog X.w A (tuples' true) us i j C s:=by
  intro i j C hi hj q;unfold W.kas_ask;obtain⟨p,U,e1,⟨o,ho,hc,n,hd⟩,rv,m1⟩:=DX I r hk hi;obtain⟨p',its',ac,⟨o',ae,ag,n',af⟩,Y,m2⟩:=DX I r hk hj;rw[e1,ac];have ht:(J.getD i []).map i_=(J.getD j []).map i_:=(L _ m1).trans (L _ m2).symm
  have hl:U.length=its'.length:=by
   have:=congrArg List.length ht;rw[Q04,Q04] at this;rw[<-rv.length,<-Y.length,Q04,Q04,this]
  refine W.kat_lt ho hd ae af ?_;have ef:decide ((List.toArray U).size<(List.toArray its').size)=false:=by rw[Q07,Q07,hl];simp
  rw[ef];exact v7 _ _ _ _ 0 rv Y ht q
 cases t with
 |true=>
  refine W.kat_kind (T:=.type "int") f1 (by omega) (λv hv=>?_) rfl ⟨rfl,fin⟩;rcases f3 v hv with⟨_,i,tk,rfl⟩|⟨z,_⟩
  . exact W.Looks.of_pure rfl
  . cases z
 |false=>
  refine W.kat_kind (T:=.type "str") f1 (by omega) (λv hv=>?_) rfl ⟨rfl,fin⟩;rcases f3 v hv with⟨z,_⟩|⟨_,x,tk,rfl⟩
  . cases z
  . exact W.Looks.of_pure rfl
end
def v8 (K:PySem.W.Frag) (P:Addr) (L:Pos) (qual:Str) (te:TE) (σ:St) (Q:VK):VK:=λx H1=>∃a xs,x=.ref a/\fY K H1 a xs/\xs.length<64/\gz P L qual H1/\
 ∀c' H2,nh P L qual c' H2->(∀b o,b≠P->H1 b=some o->H2 b=some o)->
 ∃W:List V->Hp->Prop,W [] H2/\(∀ks z,W ks z->nh P L qual c' z)/\(∀ks z y,W ks z->xs[ks.length]? =some y->te (some y::σ) z λk U=>W (ks++[k]) U)/\
 ∀ks z,W ks z->ks.length=xs.length->∃J,qe z ks J/\DW J/\∀p:List Nat,p.Perm (List.range xs.length)->(p.map λi=>J.getD i []).Pairwise lh->∀D,z D=none->Q (.ref D) (upd z D (.lst (p.map λi=>xs.getD i .non)))
def Ku (K:W.Frag) (P:Addr) (z:Pos) (qual:Str) (tl te:TE):TE:=λσ H Q=>tl σ H (v8 K P z qual te σ Q)
section
variable {X:Cx}
theorem Kv {x:Str}{N':List Str}{l body:Expr}{L:Arguments}{scope:Scope}{lp kp p pos:Pos}{qual:Str}{c P:Addr}{tl te:TE}{k:Nat}(hg:Gl X "sorted")(hm:X.mg "sorted"=none)(hv:bootBuiltins "sorted"=some (.builtin "sorted"))(hr:ie k X.A)(hq:X.env.qual++"<lambda>"=qual)(Y:X.env.code=.ref c)(C:PySem.W.CodeHd X.base c P)
 (B:BM X.mg X.base) (S:lg X x N' scope) (ab:defaultsOf L X.env=([],[])) (hb:∀(cl:List (Str × Addr)) (pm:Value) (c':Addr) (U u:Value),bindArgs (PySem.W.kla_fn "<lambda>" qual L body scope cl pm (.ref c') U) ⟨[u],[]⟩=pure [(x,u)])
 (hl:PE X l tl) (he:∀(cl:List (Str × Addr)) (f c':Addr) (s:Shared) (H:Hp),PE (p_ X x N' scope cl qual f c' s H) body te) (hs:starEach [l] X.env=[(false,eval l X.env)]:=by rfl):
 PE X (.Call (.Name "sorted" p) [l] [⟨some "key",.Lambda L body scope lp,kp⟩] pos) (Ku X.K P lp qual tl te):=by
 intro pins s σ H Q I h;refine wpAny_Call_Name_kw (mB I hg hm hv ?_);have ha:PA X [l] (iO tl jT):=a_ hl c_ (by rw[hs];rfl);refine callWith_kw (gy (ha pos pins s σ H (λvs H1=>match vs with|[x]=>v8 X.K P lp qual te σ Q x H1|_=>False) I h) λus s1 zq=>?_) (by rw[hs];rfl) (by rw[hs];rfl);obtain⟨vs,H1,I1,r1,q1⟩:=zq
 obtain⟨x',rfl⟩:∃x',vs=[x']:=by
  match vs,q1 with
  |[x'],_=>exact⟨x',rfl⟩
 have q1:v8 X.K P lp qual te σ Q x' H1:=q1;obtain⟨a,xs,rfl,ag,ah,T,cont⟩:=q1;obtain⟨u,rfl,ru⟩:=vals1 r1
 cases ru;show wpAny _ _ (evalAll [do let v <-eval (.Lambda L body scope lp) X.env;standAt pos;pure v]) _ _ s1;obtain⟨cl,aa,ac,ae⟩:=rm (scope:=scope) (env:=X.env) λy hy hf=>I1.ok.has y.1 (S.free y hy hf);refine wpAny_evalAll_cons (Q0 (PySem.W.kla_eval ab ?_));rw[hq];refine DN I1 Y C B T aa λf c' pm U H2 s2 I2 ai mono=>?_;refine Q0 (wpAny_standAt (Q02 (wpAny_evalAll_nil ?_)));show wpAny _ _ (call (.builtin "sorted") [.ref a] [(Str.ofString "key",.ref f)]) _ _ s2;obtain⟨W,w0,wL,wt,wf⟩:=cont c' H2 ai mono
 have aj:∃ps,H1 P=some (.gQ ps):=by
  rcases T with e|⟨al,e,_⟩
  . exact⟨_,e⟩
  . exact⟨_,e⟩
 have ak:fY X.K H2 a xs:=by
  obtain⟨ps,hP⟩:=aj;rcases ag with(z|⟨o,z⟩)|z
  . exact .inl (.inl (mono a _ (jz z hP (by intro z;cases z)) z))
  . exact .inl (.inr ⟨o,mono a _ (jz z hP (by intro z;cases z)) z⟩)
  . exact .inr z
 refine gy (DV (Q:=Q) (W:=W) I2 ak ah w0 (λpl s' H' ks y u J wk hy ry=>?_) λpl s' H' ks us J wk af rk=>?_) λr s' ⟨v,H',J,rv,q⟩=>⟨v,H',J.mC,rv,q⟩
 . exact v5 J S hr.hd hr.depth ac ae (Q0t _ (Q09 _ Q05)) (wL ks H' wk).2 (hb cl pm c' U) ry (he cl f c') (wt ks H' y wk hy)
 . obtain⟨am,k1,k2,k3⟩:=wf ks H' wk af;exact⟨o9,_,Kt J rk k1 k2,λp p1 p2 D hD=>k3 p p1 p2 D hD⟩
end
noncomputable def rD (K:W.Frag) (a b:Addr):It:=
 ⟨λi H=>∃xs ys x y,fY K H a xs/\fY K H b ys/\xs[i]? =some x/\ys[i]? =some y,
  λi H v H'=>∃p x y,H p=none/\v=.ref p/\(∀xs,fY K H a xs->xs[i]? =some x)/\(∀ys,fY K H b ys->ys[i]? =some y)/\H'=upd H p (.tup [x,y]),
  λi H=>∃xs ys,fY K H a xs/\fY K H b ys/\(xs.length<=i\/ys.length<=i)⟩
theorem Kw {P:Program}{w:World}{K:W.Frag}{ai:List Expr}{k:Nat}{tpos:Pos}{z TI TO J L l1 l2:Addr}(D:ZipApart z TI TO J L l1 l2):
 Turn P w K (.Tuple ai k tpos) (rD K l1 l2) [z,TI,TO,J,L] z (λi h=>∃oa ob,IsZip h z TI TO .none/\IsPair h TI (.ref J) (.ref L)/\IsPair h TO oa ob/\h.IsListIter J l1 i/\h.IsListIter L l2 i) where
 mem:=by simp
 obj:=λi h st b U=>by
  obtain⟨oa,ob,h1,h2,h3,h4,h5⟩:=st;have U:b=z\/b=TI\/b=TO\/b=J\/b=L:=by simpa using U
  rcases U with rfl|rfl|rfl|rfl|rfl
  . exact⟨_,h1,λv y=>by
     have y:Data.fields _=Data.cell v:=y
     cases y⟩
  . exact⟨_,h2,λv y=>by
     have y:Data.seq _ _=Data.cell v:=y
     cases y⟩
  . exact⟨_,h3,λv y=>by
     have y:Data.seq _ _=Data.cell v:=y
     cases y⟩
  . obtain⟨o,q,c,d⟩:=h4;exact⟨o,q,λv y=>by rw[d] at y;cases y⟩
  . obtain⟨o,q,c,d⟩:=h5;exact⟨o,q,λv y=>by rw[d] at y;cases y⟩
 keep:=λi h h' st k=>by
  obtain⟨oa,ob,h1,h2,h3,h4,h5⟩:=st;exact⟨oa,ob,k z (by simp) _ h1,k TI (by simp) _ h2,k TO (by simp) _ h3,h4.at λo q=>k J (by simp) o q,h5.at λo q=>k L (by simp) o q⟩
 item:=by
  intro X hP hw hK hc i pins s σ H E I Y st hg;subst hP hw hK;obtain⟨oa,ob,h1,h2,h3,h4,h5⟩:=st;obtain⟨xs,ys,x,y,aa,ab,hx,hy⟩:=hg;obtain⟨aj,ae,p1,am⟩:=I.list aa;obtain⟨ak,af,p2,an⟩:=I.list ab;obtain⟨u1,ao,ap⟩:=ae.get hx;obtain⟨u2,aq,ar⟩:=af.get hy;have fr:H s.heap.objs.size=none:=I.hok.fresh (Q00 _);refine wpAny_pyNext_zip_item D h1 h2 h3 h4 h5 p1.isList p2.isList (x:=u1) (y:=u2) (by simpa using ao) (by simpa using aq) λh' q1 q2 q3 q4 q5 q6 q7=>?_;refine⟨_,rfl,wpAny_letOwnedTupleGo_zip (s:={ s with heap:=h' }) q1 λac g1 g2=>?_⟩
  have au:∀b∈[z,TI,TO,J,L],b<s.heap.objs.size:=λb U=>by
   have U:b=z\/b=TI\/b=TO\/b=J\/b=L:=by simpa using U
   rcases U with rfl|rfl|rfl|rfl|rfl
   . exact Q01 h1
   . exact Q01 h2
   . exact Q01 h3
   . obtain⟨o,q,_⟩:=h4;exact Q01 q
   . obtain⟨o,q,_⟩:=h5;exact Q01 q
  have av:∀b o,s.heap.get? b=some o->b≠s.heap.objs.size:=λb o q=>Q08 (Q01 q);have kk:∀b o,b≠z->b≠TO->b≠J->b≠L->s.heap.get? b=some o->ac.get? b=some o:=λb o n1 n2 n3 n4 q=>g2.extBut b o n1 (q7 b o n1 n2 n3 n4 q);have kn:∀b o,b ∉ [z,TO,J,L]->s.heap.get? b=some o->ac.get? b=some o:=λb o n q=>kk b o (λy=>n (by simp[y])) (λy=>n (by simp[y])) (λy=>n (by simp[y])) (λy=>n (by simp[y])) q;have tup:ac.get? s.heap.objs.size=some { cls:=.type "tuple",data:=.seq #[u1,u2] }:=g2.extBut _ _ (Q0u (Q01 h1)) q5
  have I1:Inv X pins σ (upd H s.heap.objs.size (.tup [x,y])) { s with heap:=ac }:=by
   refine I.step (g':=s.gens) (d':=s.drawn) (t':=s.toks) (ch:=[z,TO,J,L]) (λb U=>?_) (λb o _ _ hc q _=>kn b o hc q) (λb o _ _ hc q _=>⟨o.slots,kn b o hc q⟩) (λb o _ q n=>?_) (λb o hc q=>⟨o,kn b o hc q⟩) (λb ws q=>?_) (λb o v q=>?_) (λb ps q=>?_) (λm hm=>?_) (λb o q=>?_) I.bare
   . have ag:b∈[z,TI,TO,J,L]:=by
      have U:b=z\/b=TO\/b=J\/b=L:=by simpa using U
      rcases U with rfl|rfl|rfl|rfl <;> simp
     obtain⟨f0,f1,f2,f3,f4,f5⟩:=Y b ag;exact⟨f3,f1,f4,f5⟩
   . rw[fV (av b o q)];exact n
   . rw[fV (gc q fr)];exact q
   . rw[fV (gc q fr)];exact q
   . exact⟨#[],by rw[fV (gc q fr),q];simp⟩
   . obtain⟨o,es,ep,ho,r⟩:=hm;exact⟨o,es,ep,kk _ o (Ne.symm (Y z (by simp)).2.1) (Ne.symm (Y TO (by simp)).2.1) (Ne.symm (Y J (by simp)).2.1) (Ne.symm (Y L (by simp)).2.1) ho,r⟩
   . by_cases U:b=s.heap.objs.size
     . subst U;rw[fZ] at q;cases q;exact⟨zp,[u1,u2],.cons ap (.cons ar .nil),⟨_,tup,rfl,_,rfl⟩⟩
     . rw[fV U] at q
       have nn:∀c v,H c=some v->c ∉ [z,TO,J,L]:=λc v e hm=>by
        have aw:c∈[z,TI,TO,J,L]:=by
         have hm:c=z\/c=TO\/c=J\/c=L:=by simpa using hm
         rcases hm with rfl|rfl|rfl|rfl <;> simp
        have:=(Y c aw).1;rw[e] at this;cases this
       refine(I.hok b o q).stay (λc v ah y=>kn c v ?_ y) (λc y=>by rw[fV (gc y fr)];exact y) λc ws y=>by rw[fV (gc y fr)];exact y
       rcases ah with y|y
       . rw[y];exact nn b o q
       . exact nn c _ y
  refine⟨.ref s.heap.objs.size,_,I1,rfl,⟨s.heap.objs.size,x,y,fr,rfl,λws hw=>by rw[I.sU hw aa];exact hx,λws hw=>by rw[I.sU hw ab];exact hy,rfl⟩,⟨u1,u2,g1,?_,?_,?_,?_⟩,λb U=>?_⟩
  . exact kk TI _ D.TIz D.TITO D.TIi1 D.TIi2 h2
  . exact g2.extBut _ _ D.TOz q2
  . exact q3.at λo q=>g2.extBut _ _ D.i1z q
  . exact q4.at λo q=>g2.extBut _ _ D.i2z q
  . rw[fV (Q08 (au b U))];exact(Y b U).1
 done:=by
  intro X hP hw hK hc i pins s σ H E I Y st hg;subst hP hw hK;obtain⟨oa,ob,h1,h2,h3,h4,h5⟩:=st;obtain⟨xs,ys,aa,ab,al⟩:=hg;obtain⟨aj,ae,p1,am⟩:=I.list aa;obtain⟨ak,af,p2,an⟩:=I.list ab;have e1:=ae.length;have e2:=af.length
  refine wpAny_pyNext_zip_end (I.ok.hd hc) D h1 h2 h3 h4 h5 p1.isList p2.isList (by
   rcases al with q|q
   . exact .inl (by simp;omega)
   . exact .inr (by simp;omega)) λh' hk=>⟨rfl,?_⟩
  refine I.step (g':=s.gens) (d':=s.drawn) (t':=s.toks) (ch:=[z,TO,J,L]) (λb U=>?_) (λb o _ _ hc q _=>?_) (λb o _ _ hc q _=>?_) (λb o _ q n=>n) (λb o hc q=>?_) (λb ys q=>q) (λb o v q=>q) (λb ps q=>⟨#[],by rw[q];simp⟩) (λm hm=>?_) (λb o q=>?_) I.bare
  . have ag:b∈[z,TI,TO,J,L]:=by
     have U:b=z\/b=TO\/b=J\/b=L:=by simpa using U
     rcases U with rfl|rfl|rfl|rfl <;> simp
    obtain⟨f0,f1,f2,f3,f4,f5⟩:=Y b ag;exact⟨f3,f1,f4,f5⟩
  . exact hk b o (λy=>hc (by simp[y])) (λy=>hc (by simp[y])) (λy=>hc (by simp[y])) (λy=>hc (by simp[y])) q
  . exact⟨o.slots,hk b o (λy=>hc (by simp[y])) (λy=>hc (by simp[y])) (λy=>hc (by simp[y])) (λy=>hc (by simp[y])) q⟩
  . exact⟨o,hk b o (λy=>hc (by simp[y])) (λy=>hc (by simp[y])) (λy=>hc (by simp[y])) (λy=>hc (by simp[y])) q⟩
  . obtain⟨o,es,ep,ho,r⟩:=hm;exact⟨o,es,ep,hk _ o (Ne.symm (Y z (by simp)).2.1) (Ne.symm (Y TO (by simp)).2.1) (Ne.symm (Y J (by simp)).2.1) (Ne.symm (Y L (by simp)).2.1) ho,r⟩
  . have nn:∀c v,H c=some v->∀y∈[z,TI,TO,J,L],c≠y:=λc v e y hy=>gc e (Y y hy).1;refine(I.hok b o q).stay (λc v ah y=>hk c v ?_ ?_ ?_ ?_ y) (λ_ y=>y) λ_ _ y=>y <;> (rcases ah with y|y)
    all_goals first
     |(rw[y];exact nn b o q _ (by simp))
     |exact nn c _ y _ (by simp)
 self:=λA i s Q E st q=>by
  obtain⟨oa,ob,h1,_⟩:=st;exact wpAny_pyIter_zip h1 q
def Kx (K:W.Frag) (ta:TA):TI:=λσ H R=>ta σ H λvs H1=>∃a b,vs=[.ref a,.ref b]/\(∃xs,fY K H1 a xs)/\(∃ys,fY K H1 b ys)/\R (rD K a b) H1
section
variable {X:Cx}
theorem rE {aa:List Expr}{k:Nat}{tpos:Pos}{a b:Expr}{ta:TA}{p pos:Pos}(hg:Gl X "zip")(hm:X.mg "zip"=none)(ha:PA X [a,b] ta)(hs:starEach [a,b] X.env=[(false,eval a X.env),(false,eval b X.env)]:=by rfl)
 (Y:starEach [b] X.env=[(false,eval b X.env)]:=by rfl):PI X (.Tuple aa k tpos) (.Call (.Name "zip" p) [a,b] [] pos) (Kx X.K ta):=by
 intro pins s σ H R I h;refine Call_ (mB I hg hm boot_zip (PyProof.Rows.callWith_type1 (gy (ha pos pins s σ H _ I h) λus J zq=>?_) (by rw[hs,Y]) (by rw[Y];rfl)));obtain⟨vs,H1,U,r1,q1⟩:=zq;obtain⟨l1,l2,e,⟨xs,ab⟩,⟨ys,ac⟩,q⟩:=q1;subst e;obtain⟨u1,u2,rfl,ae,af⟩:=vals2 r1
 cases ae
 cases af;obtain⟨ag,ai,p1,aj⟩:=U.list ab;obtain⟨ah,ak,p2,al⟩:=U.list ac;have a1:l1<J.heap.objs.size:=by obtain⟨_,e,_⟩:=p1.isList;exact Q01 e
 have a2:l2<J.heap.objs.size:=by obtain⟨_,e,_⟩:=p2.isList;exact Q01 e
 refine call_zip_2 p1.isList p2.isList λh' q1 q2 q3 q4 q5 q6 q7=>?_;refine wpAny_pyIter_zip q1 ?_;have I2:Inv X pins σ H1 { J with heap:=h' }:=U.kept (t':=J.toks) q7
 have Dz:ZipApart (J.heap.objs.size+4) (J.heap.objs.size+2) (J.heap.objs.size+3) J.heap.objs.size (J.heap.objs.size+1) l1 l2:=by
  have b1:@LT.lt Nat _ l1 J.heap.objs.size:=a1;have b2:@LT.lt Nat _ l2 J.heap.objs.size:=a2;constructor <;> (intro z;have z':(_:Nat)=_:=z;omega)
 refine⟨J.heap.objs.size+4,[J.heap.objs.size+4,J.heap.objs.size+2,J.heap.objs.size+3,J.heap.objs.size,J.heap.objs.size+1],_,_,H1,rfl,I2,Kw Dz,⟨.none,.none,q1,q2,q3,q4,q5⟩,λb L=>?_,q⟩
 have L:J.heap.objs.size<=b:=by
  have L:b=J.heap.objs.size+4\/b=J.heap.objs.size+2\/b=J.heap.objs.size+3\/b=J.heap.objs.size\/b=J.heap.objs.size+1:=by simpa using L
  rcases L with z|z|z|z|z <;> rw[z]
  . exact Q1o _ _
  . exact Q1o _ _
  . exact Q1o _ _
  . exact Q00 _
  . exact Q1o _ _
 exact U.nM L (U.hok.fresh L)
end
end L2
namespace HT
open PyProof.Rows L2
section
open SeqAt
open PySem.AutoSeq1 (wpAny_loadPart')
open MeetsSeq MeetsSeq2 MeetsSeq3
inductive KeysAre:List Value->List Key->Prop
 |nil:KeysAre [] []
 |cons {u:Value} {k:Key} {us:List Value} {ks:List Key}:RelV (kV k) u->KeysAre us ks->KeysAre (u::us) (k::ks)
theorem KeysAre.of:∀{ks:List Key}{us:List Value},Vals (ks.map kV) us->KeysAre us ks
 |[],_,r=>by cases r;exact .nil
 |k::ks,_,r=>by
  cases r with
  |cons a b=>exact .cons a (KeysAre.of b)
theorem KeysAre.length:∀{us:List Value}{ks:List Key},KeysAre us ks->us.length=ks.length
 |_,_,.nil=>rfl
 |_,_,.cons _ h=>by rw[Q0j,Q0j,h.length]
theorem Ky (A:Around)(s:Shared){k j:Key}{u v:Value}(r:RelV (kV k) u)(q:RelV (kV j) v)(ht:i_ k=i_ j):∃e,SeqAt.EqAt A s u v e/\(e=true↔k=j):=by
 rcases o_ r with⟨m,t,rfl,rfl⟩|⟨m,t,rfl,rfl⟩ <;> rcases o_ q with⟨n,t',rfl,rfl⟩|⟨n,t',rfl,rfl⟩
 . exact⟨m == n,SeqAt.EqAt.int_int m t n t',by simp⟩
 . cases ht
 . cases ht
 . exact⟨m == n,SeqAt.EqAt.str_str m t n t',by simp⟩
theorem Kz (A:Around)(s:Shared){k j:Key}{u v:Value}(r:RelV (kV k) u)(q:RelV (kV j) v)(ht:i_ k=i_ j)(prog:Program)(w:World)(E:Value->Shared->Prop)(Q:Value->Shared->Prop)(h:Q (.bool (!j0 j k)) s):
 wpAny (model prog w) A (richCompare .LtE u v) Q E s:=by
 rcases o_ r with⟨m,t,rfl,rfl⟩|⟨m,t,rfl,rfl⟩ <;> rcases o_ q with⟨n,t',rfl,rfl⟩|⟨n,t',rfl,rfl⟩
 . have e:(!j0 (.inl n) (.inl m))=decide (m<=n):=by
    show(!decide (n<m))=decide (m<=n);rw[<-decide_not];exact decide_eq_decide.mpr Int.not_lt
   rw[e] at h;exact(PyProof.Rows.le_int h:wpAny (model prog w) A (compareOp .LtE (.int m t) (.int n t')) Q E s)
 . cases ht
 . cases ht
 . exact(PySem.P.le_str h:wpAny (model prog w) A (compareOp .LtE (.str m t) (.str n t')) Q E s)
theorem KC (l b:Addr)(J z:Array Value)(n n2:Nat)(dd ai:Option Addr)(sl aj:Array (Option Value))(ns ms:List Key)(hi:KeysAre J.toList ns)(hj:KeysAre z.toList ms)(ht:ns.map i_=ms.map i_):
 Meets (Builtin.«tuple.__le__» ⟨[.ref l,.ref b],[]⟩)
  (λ_ R s=>s.heap.get? l=some { cls:=.type "tuple",dict:=dd,data:=.seq J n,slots:=sl }/\s.heap.get? b=some { cls:=.type "tuple",dict:=ai,data:=.seq z n2,slots:=aj }/\
    R (.ok (.ret (.bool (!hZ ms ns)))) s):=
 .of_wp λprog w A R s h=>by
   obtain⟨hp,g,d,tk,os⟩:=s;obtain⟨hl,hb,h⟩:=h;have f2:=AutoSeq1.sub_tuple_tuple;have z1:J.size=ns.length:=by rw[<-hi.length];simp
   have z2:z.size=ms.length:=by rw[<-hj.length];simp
   have z3:ns.length=ms.length:=by have:=congrArg List.length ht;simpa using this
   wp_walk using wpAny_loadPart' hl,wpAny_loadPart' hb,wpAny_forIn_list _ (λrest b s'=>b.1=none/\s'=⟨hp,g,d,tk,os⟩/\∃(vs ws:List Value) (U Y:List Key),rest=vs.zip ws/\
    KeysAre vs U/\KeysAre ws Y/\U.map i_=Y.map i_/\R (.ok (.ret (.bool (!hZ Y U)))) ⟨hp,g,d,tk,os⟩) _
   case turn=>
    rintro⟨y,x⟩ rest b s' ⟨ac,rfl,vs,ws,U,Y,hz,ae,aa,L,hR⟩
    cases ae with
    |nil=>rw[List.zip_nil_left] at hz;cases hz
    |cons a ag=>
     cases aa with
     |nil=>rw[List.zip_nil_right] at hz;cases hz
     |cons c ah=>
      rw[Q2n] at hz;injection hz with ak af
      injection ak with hy hx
      subst hy hx;rw[qc] at hR;have t1:=(List.cons.inj L).1;have t2:=(List.cons.inj L).2;obtain⟨e,he,ab⟩:=Ky A.in1 ⟨hp,g,d,tk,os⟩ a c t1;refine Q0 (he prog w _ _ ?_)
      cases e with
      |true=>
       rw[if_pos (ab.mp rfl).symm] at hR
       wp_walk
       exact⟨rfl,rfl,_,_,_,_,af,ag,ah,t2,hR⟩
      |false=>
       rw[if_neg (λq=>absurd (ab.mpr q.symm) Bool.false_ne_true)] at hR;have al:=Kz A.in1 ⟨hp,g,d,tk,os⟩ a c t1 prog w
       wp_walk using al
       exact⟨_,rfl,by simpa using hR⟩
   case fin=>
    rintro⟨b1,b2⟩ s' ⟨ac,rfl,vs,ws,U,Y,hz,ae,aa,L,hR⟩;simp only at ac;subst ac
    have hv:(!hZ Y U)=decide (J.size<=z.size):=by
     cases ae with
     |nil=>
      cases aa with
      |nil=>exact(decide_eq_true (by omega)).symm
      |cons c hw=>cases L
     |cons a hv=>
      cases aa with
      |nil=>cases L
      |cons c hw=>
       rw[Q2n] at hz
       cases hz
    rw[hv] at hR
    wp_walk
    exact⟨_,rfl,by simpa[Builtin.Tuple.tupleCompareSizes] using hR⟩
   case h=>
    exact⟨rfl,rfl,J.toList,z.toList,ns,ms,rfl,hi,hj,ht,h⟩
end
section
variable {prog:Program}{w:World}{A:Around}{E:Value->Shared->Prop}{s:Shared}
theorem KD {l b:Addr}{J z:Array Value}{ns L:List Key}{Q:Value->Shared->Prop}(hl:IsTup s.heap l J)(hb:IsTup s.heap b z)(hi:KeysAre J.toList ns)(hj:KeysAre z.toList L)(ht:ns.map i_=L.map i_)
 (hu:A.units<cLine) (h:Q (.bool (!hZ L ns)) s):wpAny (model prog w) A (compareOp .LtE (.ref l) (.ref b)) Q E s:=by
 obtain⟨⟨cls,dd,data,sl⟩,ho,hc,n,hd⟩:=id hl;obtain⟨⟨ae,ab,data2,ac⟩,U,Y,n2,aa⟩:=id hb;simp only at hc hd Y aa;subst hc hd Y aa
 exact richCompare_meets_room (op:=.LtE) ⟨_,ho,rfl⟩ ⟨_,U,rfl⟩ PySem.F.slot_tuple_le PySem.F.entry_tuple_le (PySem.F.args_tuple_le_2 _ _) (KC l b J z n n2 dd ab sl ac ns L hi hj ht)
  ⟨ho,U,show Value.bool (!hZ L ns)≠Value.notImplemented/\Q (.bool (!hZ L ns)) s from⟨(λx=>nomatch x),h⟩⟩ hu
end
end HT
namespace L2
open Spec PyProof.Rows
section
variable {X:Cx}
def KG (K:W.Frag):R2:=λx y H Q=>∃a b ns z,x=.ref a/\y=.ref b/\fU K H a (ns.map kV)/\fU K H b (z.map kV)/\ns.map i_=z.map i_/\Q (.bl (!hZ z ns)) H
theorem DZ (J:X.A.units<cLine):jc X (compareOp .LtE) (KG X.K):=by
 intro pins s σ H x y v u Q I L U h;obtain⟨a,b,ns,Y,rfl,rfl,ha,hb,ht,q⟩:=h
 cases L
 cases U;obtain⟨aa,r1,p1,_⟩:=I.tuple ha;obtain⟨z,r2,p2,_⟩:=I.tuple hb;exact HT.KD p1 p2 (by simpa using HT.KeysAre.of r1) (by simpa using HT.KeysAre.of r2) ht J ⟨.bl (!hZ Y ns),H,I,rfl,q⟩
end
inductive jv (K:W.Frag) (H:Hp):Nat->V->V->Bool->Prop
 |ref {n:Nat} (a:Addr):jv K H n (.ref a) (.ref a) true
 |int {n:Nat} (a b:Int):jv K H n (.int a) (.int b) (decide (a=b))
 |str {n:Nat} (a b:Str):jv K H n (.str a) (.str b) (decide (a=b))
 |is {n:Nat} (a:Int) (b:Str):jv K H n (.int a) (.str b) false
 |si {n:Nat} (a:Str) (b:Int):jv K H n (.str a) (.int b) false
 |lst {n:Nat} {a b:Addr} {xs ys:List V} {e:Nat->Bool} (ne:a≠b) (ha:fY K H a xs) (hb:fY K H b ys) (hl:xs.length=ys.length) (he:∀(j:Nat) (x y:V),xs[j]? =some x->ys[j]? =some y->jv K H n x y (e j)):
   jv K H (n+1) (.ref a) (.ref b) ((List.range xs.length).all e)
 |tup {n:Nat} {a b:Addr} {xs ys:List V} {e:Nat->Bool} (ne:a≠b) (ha:fU K H a xs) (hb:fU K H b ys) (he:∀(j:Nat) (x y:V),xs[j]? =some x->ys[j]? =some y->jv K H n x y (e j)):
   jv K H (n+1) (.ref a) (.ref b) ((List.range (min xs.length ys.length)).all e && xs.length == ys.length)
section
variable {X:Cx}{pins:List (Addr × Obj)}{σ:St}{H:Hp}{s:Shared}
theorem Vals.at:∀{xs:List V}{us:List Value},Vals xs us->∀(j:Nat) (h:j<us.length),∃x,xs[j]? =some x/\RelV x us[j]
 |_,_,.nil,j,h=>absurd h (by simp)
 |_,_,.cons a r,0,h=>⟨_,rfl,a⟩
 |_,_,.cons a r,j+1,h=>by
  obtain⟨x,h1,h2⟩:=Vals.at r j (by simpa using h);exact⟨x,by simpa using h1,h2⟩
theorem jv.D0 (I:Inv X pins σ H s){n:Nat}{x y:V}{b:Bool}(h:jv X.K H n x y b):∀(A:Around) (u v:Value),RelV x u->RelV y v->A.units+n<cLine->SeqAt.EqAt A s u v b:=by
 induction h with
 |ref a=>
  intro A u v J L hu
  cases J
  cases L;exact SeqAt.EqAt.same _
 |int a b=>
  intro A u v J L hu;obtain⟨t,rfl⟩:=J;obtain⟨t',rfl⟩:=L;exact SeqAt.EqAt.int_int a t b t'
 |str a b=>
  intro A u v J L hu;obtain⟨t,rfl⟩:=J;obtain⟨t',rfl⟩:=L
  have e:decide (a=b)=(a == b):=by
   by_cases z:a=b
   . rw[decide_eq_true z,z];simp
   . rw[decide_eq_false z];exact(beq_eq_false_iff_ne.mpr z).symm
  rw[e];exact SeqAt.EqAt.str_str a t b t'
 |is a b=>
  intro A u v J L hu;obtain⟨t,rfl⟩:=J;obtain⟨t',rfl⟩:=L;exact SeqAt.EqAt.int_str a t b t'
 |si a b=>
  intro A u v J L hu;obtain⟨t,rfl⟩:=J;obtain⟨t',rfl⟩:=L;exact SeqAt.EqAt.str_int a t b t'
 |@lst n a b xs ys e ne ha hb hl he ih=>
  intro A u v J L hu
  cases J
  cases L;obtain⟨Y,r1,p1,_⟩:=I.list ha;obtain⟨U,r2,p2,_⟩:=I.list hb;have l1:=r1.length;have l2:=r2.length;refine .of_refs ne ?_;have q:xs.length=Y.toArray.size:=by rw[Q07];exact l1
  rw[q];refine SeqAt.RcAt.lists p1.isList p2.isList (by rw[Q07,Q07];omega) (by omega) λj h1 h2=>?_;obtain⟨x',e1,q1⟩:=Vals.at r1 j (by simpa using h1);obtain⟨y',e2,q2⟩:=Vals.at r2 j (by simpa using h2);refine ih j x' y' e1 e2 _ _ _ (by simpa using q1) (by simpa using q2) ?_;show A.units+1+n<cLine;omega
 |@tup n a b xs ys e ne ha hb he ih=>
  intro A u v J L hu
  cases J
  cases L;obtain⟨Y,r1,p1,_⟩:=I.tuple ha;obtain⟨U,r2,p2,_⟩:=I.tuple hb;have l1:=r1.length;have l2:=r2.length;refine .of_refs ne ?_;have q:xs.length=Y.toArray.size:=by rw[Q07];exact l1
  have q':ys.length=U.toArray.size:=by rw[Q07];exact l2
  rw[q,q'];refine SeqAt.RcAt.tuples p1 p2 (by omega) λj h1 h2=>?_;obtain⟨x',e1,q1⟩:=Vals.at r1 j (by simpa using h1);obtain⟨y',e2,q2⟩:=Vals.at r2 j (by simpa using h2);refine ih j x' y' e1 e2 _ _ _ (by simpa using q1) (by simpa using q2) ?_;show A.units+1+n<cLine;omega
def KH (K:W.Frag) (H:Hp) (n:Nat) (xs ys:List V) (e:Nat->Bool):Prop:=∀(j:Nat) (x y:V),xs[j]? =some x->ys[j]? =some y->jv K H n x y (e j)
def KI (K:W.Frag) (n:Nat):R2:=λx y H Q=>∃a b xs ys e,x=.ref a/\y=.ref b/\KH K H n xs ys e/\
 ((fY K H a xs/\fY K H b ys/\((xs.length=ys.length/\Q (.bl (!(List.range xs.length).all e)) H)\/(xs.length≠ys.length/\Q (.bl true) H)))\/
  (fU K H a xs/\fU K H b ys/\Q (.bl (!((List.range (min xs.length ys.length)).all e && xs.length == ys.length))) H))
theorem v9 {n:Nat}(hu:X.A.units+1+n<cLine):jc X (compareOp .NotEq) (KI X.K n):=by
 intro pins s σ H x y v u Q I rx ry h;obtain⟨a,b,xs,ys,e,rfl,rfl,hd,h⟩:=h
 cases rx
 cases ry;rcases h with⟨ha,hb,h⟩|⟨ha,hb,q⟩
 . obtain⟨L,U,p1,_⟩:=I.list ha;obtain⟨J,Y,p2,_⟩:=I.list hb;have l1:=U.length;have l2:=Y.length;rcases h with⟨hl,q⟩|⟨hl,q⟩
   . have z:xs.length=L.toArray.size:=by rw[Q07];exact l1
     rw[z] at q;refine(SeqAt.RcNeAt.lists (e:=e) p1.isList p2.isList (by rw[Q07,Q07];omega) (by omega) (λj h1 h2=>?_)) X.prog X.w _ _ ⟨.bl _,H,I,rfl,q⟩;obtain⟨x',e1,q1⟩:=Vals.at U j (by simpa using h1);obtain⟨y',e2,q2⟩:=Vals.at Y j (by simpa using h2);refine(hd j x' y' e1 e2).D0 I _ _ _ (by simpa using q1) (by simpa using q2) ?_;show X.A.units+1+n<cLine;omega
   . refine(SeqAt.RcNeAt.lists_lengths p1.isList p2.isList ?_ (by omega)) X.prog X.w _ _ ⟨.bl true,H,I,rfl,q⟩;rw[Q07,Q07];simp;omega
 . obtain⟨L,U,p1,_⟩:=I.tuple ha;obtain⟨J,Y,p2,_⟩:=I.tuple hb;have l1:=U.length;have l2:=Y.length;have z:xs.length=L.toArray.size:=by rw[Q07];exact l1
   have z':ys.length=J.toArray.size:=by rw[Q07];exact l2
   rw[z,z'] at q;refine(SeqAt.RcNeAt.tuples (e:=e) p1 p2 (by omega) (λj h1 h2=>?_)) X.prog X.w _ _ ⟨.bl _,H,I,rfl,q⟩;obtain⟨x',e1,q1⟩:=Vals.at U j (by simpa using h1);obtain⟨y',e2,q2⟩:=Vals.at Y j (by simpa using h2);refine(hd j x' y' e1 e2).D0 I _ _ _ (by simpa using q1) (by simpa using q2) ?_;show X.A.units+1+n<cLine;omega
end
def KJ (e:Addr) (l:List Env) (h h':Heap):Prop:=
 (∀b o,b ∉ frs l->b≠e->h.get? b=some o->h'.get? b=some o)/\∀b o,b≠e->h.get? b=some o->∃z,h'.get? b=some { o with slots:=z }
theorem v_ {f:Array Value->Array Value}{o:Obj}{vs:Array Value}(h:o.data=.fields vs):Obj.mapFields f o={ o with data:=.fields (f vs) }:=by
 obtain⟨c,d,z,J⟩:=o;have h:z=.fields vs:=h;subst h;rfl
section
variable {M:Model}{A:Around}{E:Value->Shared->Prop}{s:Shared}
theorem D1 {base:Heap}{env:Env}{outer:List Env}{L e:Addr}{J:Obj}{vs:Array Value}{U:Value}{ae:Bool}{Q:Unit->Shared->Prop}
 (af:A.frames=some (env::outer)) (hl:s.heap.FunFrames base (env::outer)) (hf:env.frame=some L) (he:s.heap.get? e=some J) (hd:J.data=.fields vs) (hsz:1<vs.size)
 (h:∀(h':Heap) (T:Addr),s.heap.objs.size<=T->KJ e (env::outer) s.heap h'->h'.get? e=some { J with data:=.fields (vs.setIfInBounds 1 (.ref T)) }->(∃oT ts,h'.get? T=some oT/\oT.data=.fields ts/\ts[3]? =some (rawInt L))->Q () { s with heap:=h' }):
 wpAny M A (do let a <-frameOf env;let pl <-entryPlaceOf L ae;let b <-EntryCells.newEntry U a .none (rawInt L) .none pl;setField (.ref e) 1 b) Q E s:=by
 have ag:e ∉ (env::outer).filterMap (·.frame):=λz=>by
  obtain⟨_,o,ho,hn⟩:=hl.mem z;rw[he] at ho
  cases ho;exact hn vs hd
 refine Q0 (wpAny_frameOf_fun af hl hf λh1 x1=>?_);refine Q0 (wpAny_entryPlaceOf λpl ab=>?_);unfold EntryCells.newEntry newFields;refine Q0 (wpAny_newObj_type ?_ (ab.sizeOk5 _ _ _ _ _));have e1:h1.get? e=some J:=(x1.2.1 e ag).trans he;generalize ac:({ cls:=.type "traceback",dict:=none,data:=.fields ([U,.ref L,.none,rawInt L,.none]++(if pl.isEmpty then List.replicate 6 Value.none else pl)).toArray }:Obj)=ob;have e2:(h1.push ob).get? e=some J:=Q06 ob e1;have ah:h1.objs.size≠e:=Q0u (Q01 e1);have aa:({ J with data:=.fields (vs.setIfInBounds 1 (.ref h1.objs.size)) }:Obj).isFreed=false:=Obj.isFreed_of_fields rfl;have em:Obj.mapFields (·.setIfInBounds 1 (Value.ref h1.objs.size)) J={ J with data:=.fields (vs.setIfInBounds 1 (.ref h1.objs.size)) }:=v_ hd;refine wpAny_setField e2 hd hsz (h _ h1.objs.size (Q1s x1.1.symm) ⟨λb o hb Y ho=>?_,λb o Y ho=>?_⟩ ?_ ?_)
 . rw[Q14 _ _ (Ne.symm Y)];exact Q06 ob ((x1.2.1 b hb).trans ho)
 . obtain⟨sl,hs⟩:=x1.2.2 b o ho;refine⟨sl,?_⟩;rw[Q14 _ _ (Ne.symm Y)];exact Q06 ob hs
 . have:=Q1l (Obj.mapFields (·.setIfInBounds 1 (Value.ref h1.objs.size))) e2 (by rw[em];exact aa);rw[em] at this;exact this
 . refine⟨ob,_,?_,by rw[<-ac],?_⟩
   . rw[Q14 _ _ (Ne.symm ah)];exact Q0h h1 (by rw[<-ac];rfl)
   . first|(simp;done)|(rcases ab with rfl|⟨_,_,_,_,_,_,_,rfl⟩ <;> simp)
structure Tr (h:Heap) (e T:Addr) (cls fl:Value):Prop where
 ex:∃oe vs,h.get? e=some oe/\oe.cls=cls/\oe.dict=none/\oe.data=.fields vs/\vs[1]? =some (.ref T)
 tb:∃oT ts,h.get? T=some oT/\oT.data=.fields ts/\ts[3]? =some fl
 ne:T≠e
end
theorem iN.ex {P:Program}{w:World}{H:Hp}{h:Heap}{a:Addr}{o:HO}(x:iN P w H h a o):∃z,h.get? a=some z:=by
 cases o with
 |lst xs=>obtain⟨_,_,_,_,e⟩:=x;exact⟨_,e⟩
 |tup xs=>obtain⟨_,_,_,z,e,_⟩:=x;exact⟨z,e⟩
 |dK kvs=>obtain⟨_,_,_,_,z,_,_,e,_⟩:=x;exact⟨z,e⟩
 |dT kvs=>obtain⟨_,_,_,_,z,_,_,e,_⟩:=x;exact⟨z,e⟩
 |set S n=>obtain⟨z,_,_,_,e,_⟩:=x;exact⟨z,e⟩
 |ins C dx fs=>obtain⟨_,_,_,e,_⟩:=x;exact⟨_,e⟩
 |own y=>exact x
 |xd fs=>obtain⟨_,⟨z,_,_,e,_⟩,_⟩:=x;exact⟨z,e⟩
 |rng lo hi=>obtain⟨_,_,_,e⟩:=x;exact⟨_,e⟩
 |i4 z u=>obtain⟨e,_⟩:=x;exact⟨_,e⟩
 |gQ ps=>exact⟨_,show h.get? a=some _ from x⟩
 |met f y=>exact⟨_,show h.get? a=some _ from x⟩
 |ext J=>obtain⟨_,⟨z,e⟩,_⟩:=x;exact⟨z,e⟩
section
variable {X:Cx}{pins:List (Addr × Obj)}{σ:St}{H:Hp}{s:Shared}
theorem Heap.D2 {h:Heap}{a:Addr}(e:h.objs.size<=a):h.get? a=none:=by
 cases q:h.get? a with
 |none=>rfl
 |some o=>exact absurd (Q0c (Q01 q) e) (Q0p _)
theorem Inv.qf (I:Inv X pins σ H s)(hex:X.ex=[]){a:Addr}(e:s.heap.get? a=none):X.s₀.heap.get? a=none:=by
 cases q:X.s₀.heap.get? a with
 |none=>rfl
 |some o=>
  obtain⟨o',z⟩:=I.base.there a o q (by rw[hex];simp);rw[e] at z;cases z
theorem Inv.D3 (I:Inv X pins σ H s)(hex:X.ex=[]){a T:Addr}{h':Heap}(ha:X.s₀.heap.get? a=none)(hT:X.s₀.heap.get? T=none)(na:H a=none)(nT:H T=none)
 (k1:∀b o,b ∉ frs X.stack->b≠a->b≠T->s.heap.get? b=some o->h'.get? b=some o) (k2:∀b o,b≠a->b≠T->s.heap.get? b=some o->∃sl,h'.get? b=some { o with slots:=sl }):
 Un (frs X.outer) [] X.H₀ H X.s₀.heap h'/\iG X.prog X.w H h':=by
 have B:=I.base;rw[hex] at B
 have J:∀b o,X.s₀.heap.get? b=some o->b≠a/\b≠T/\b≠X.env.locals:=λb o e=>by
  have hb:=Q01 e;exact⟨(λz=>by rw[z,ha] at e;cases e),(λz=>by rw[z,hT] at e;cases e),λz=>Q0p _ (Q0c (z ▸ hb) I.ok.above)⟩
 refine⟨⟨λb o e n hf _=>?_,λb o e n hf _=>?_,λb o e n _=>B.free b o e n (by simp),λb o e _=>?_,B.tups,B.j3,B.km⟩,λb o e=>(I.hok b o e).stay (λc u hc r=>?_) (λ_ r=>r) λ_ _ r=>r⟩
 . obtain⟨U,Y,o3⟩:=J b o e;refine k1 b o (λz=>?_) U Y (B.keep b o e n hf (by simp));rcases List.mem_cons.mp (I.pL b z) with z|z
   . exact o3 z
   . exact hf z
 . obtain⟨U,Y,o3⟩:=J b o e;obtain⟨sl,e1⟩:=B.slot b o e n hf (by simp);obtain⟨aa,e2⟩:=k2 b _ U Y e1;exact⟨aa,e2⟩
 . obtain⟨U,Y,o3⟩:=J b o e;obtain⟨o',e1⟩:=B.there b o e (by simp);obtain⟨sl,e2⟩:=k2 b o' U Y e1;exact⟨_,e2⟩
 . have ab:∃v,H c=some v:=by
    rcases hc with z|z
    . exact⟨o,by rw[z];exact e⟩
    . exact⟨_,z⟩
   obtain⟨v,L⟩:=ab;refine k1 c u (λz=>?_) (λz=>?_) (λz=>?_) r
   . rw[I.qQ c z] at L;cases L
   . rw[z,na] at L;cases L
   . rw[z,nT] at L;cases L
end
section
variable {M:Model}{A:Around}{E:Value->Shared->Prop}{s:Shared}
end
section
variable {X:Cx}{pins:List (Addr × Obj)}{σ:St}{H:Hp}{s:Shared}
end
section
variable {X:Cx}{k:Nat}{f:Addr}{fd:FuncData}{ps:List Str}{sp:Sp}{ju:List V}{ds:List Value}{Ek:XK}{x:Str}{p pos:Pos}{e:Expr}{es:List Expr}{t:TA}{te:TE}
end
end L2
namespace L2
open Spec PyProof.Rows W
theorem KN {M:Model}{A:Around}{E:Value->Shared->Prop}{K:Frag}{s:Shared}{a C D:Addr}{J:Obj}{b:Bool}{Q:Bool->Shared->Prop}(X:K.In s.heap)(h1:typeIn K (.ref D)=some (.type "type"))(h2:(clsIn K D).isSome=true)(Y:subIn K (.ref D) (.type "BaseException")=some true)
 (h4:subIn K (.ref C) (.ref D)=some b) (he:s.heap.get? a=some J) (hc:J.cls=.ref C) (hq:Q b s):wpAny M A (excMatches (.ref a) (.ref D)) Q E s:=by
 obtain⟨h,g,d,t,os⟩:=s;have L1:=looks_typeIn (M:=M) X h1;have L2:Looks M h (isSubtype (.type "type") (.type "tuple")) false:=Looks.of_pure tc_notTuple;have L3:=looks_subIn (M:=M) X Y;have L4:=looks_subIn (M:=M) X h4
 have L5:Looks M h (isType (.ref D)) true:=by
  unfold clsIn at h2;split at h2
  . rename_i c' d' aa ab ho;intro L Q' U s' k q;unfold isType loadHead;exact Q0 (wpAny_loadPart (k _ _ (X _ _ ho)) (Q02 q))
  . cases h2
 have L6:Looks M h (typeOf (.ref a)) (.ref C):=by
  have z:Looks M h (typeOf (.ref a)) J.cls:=(Looks.ld (show h.get? a=some J from he)).andThen .now;rw[hc] at z;exact z
 have L7:Looks M h (isInstance (.ref D) (.type "tuple")) false:=L1.andThen L2
 have L8:Looks M h (isExcClass (.ref D)) true:=λL Q' U s' k q=>by
  unfold isExcClass;exact Q0 (L5 L _ U s' k (L3 L _ U s' k q))
 unfold excMatches;refine Q0 (L7.at ?_)
 repeat (any_goals (first|assumption|with_reducible refine L8.at ?_|with_reducible refine L6.at ?_|with_reducible refine L4.at ?_|wp_step))
 cases b <;> (repeat (any_goals (first|assumption|wp_step)))
end L2
namespace L2
open Spec PyProof.Rows
section
variable {X:Cx}{pins:List (Addr × Obj)}{σ:St}{H:Hp}{s:Shared}
theorem Inv.unbind {M:Model}{A:Around}{E:Value->Shared->Prop}{i:Nat}{x:Str}{pos:Pos}{Q:Unit->Shared->Prop}(I:Inv X pins σ H s)(hN:X.N.Nodup)(hi:X.N[i]? =some x)(hk:X.env.kindOf x=some .local)
 (h:∀s',Inv X pins (σ.set i none) H s'->Q () s'):wpAny M A (do bindName X.env x .none;unbindBehindTheSuite X.env x pos) Q E s:=by
 obtain⟨m,hn,hl⟩:=id I.loc;have aa:(X.env.scope.kind == .class || (X.env.scope.kind == .module && X.env.locals != X.env.globals))=false:=by rw[I.ok.kind];rfl
 have ab:i<σ.length:=by rw[I.len];exact(List.getElem?_eq_some_iff.mp hi).1
 have l6:=I.l6;refine wpAny_nameGoes_keeps hk hn aa λh' v ac L=>?_;obtain⟨oL,_,_,ae,_⟩:=id hn
 have J:iG X.prog X.w H h':=λb ob e=>by
  refine(I.hok b ob e).stay (λc w' hc q=>(L.2 c ?_).trans q) (λ_ q=>q) λ_ _ q=>q;rintro rfl;rcases hc with rfl|hc
  . rw[I.free] at e;cases e
  . rw[I.free] at hc;cases hc
 refine h _ ⟨I.ok,I.os,I.bare,⟨λb o e n hb Y=>?_,λb o e n hb Y=>?_,I.base.free,λb o e Y=>?_,I.base.tups,I.base.j3,I.base.km⟩,⟨_,ac,λj y v' U e2 e3=>?_⟩,λy c e=>?_,I.free,I.jY,λp hp=>?_,J,by simpa using I.len⟩
 . exact(L.2 b (Q08 (Q0c (Q01 e) I.ok.above))).trans (I.base.keep b o e n hb Y)
 . obtain⟨sl,U⟩:=I.base.slot b o e n hb Y;exact⟨sl,(L.2 b (Q08 (Q0c (Q01 e) I.ok.above))).trans U⟩
 . obtain⟨o',U⟩:=I.base.there b o e Y;exact⟨o',(L.2 b (Q08 (Q0c (Q01 e) I.ok.above))).trans U⟩
 . by_cases hj:j=i
   . subst hj;rw[Q29 ab] at e2
     cases e2
   . rw[Q2a (Ne.symm hj)] at e2;obtain⟨u',r',q⟩:=hl j y v' U e2 e3;refine⟨u',r',?_⟩;rcases q with⟨k,e⟩|⟨k,c,e,z⟩
     . refine .inl ⟨k,?_⟩;have:y≠x:=λe=>hj (vj hN U (e ▸ hi));simp[this,e]
     . exact .inr ⟨k,c,e,z.sameBut L (l6 y c e)⟩
 . obtain⟨w',z⟩:=I.cell y c e;exact⟨w',z.sameBut L (l6 y c e)⟩
 . obtain⟨e,n,ne,nf,d⟩:=I.pin p hp;exact⟨(L.2 p.1 ne).trans e,n,ne,nf,d⟩
noncomputable abbrev Cx.marked (X:Cx) (a:Addr):Cx:={ X with A:=X.A.mark (some (.ref a)),calm:=false,xe:=λ_ _=>False }
theorem Inv.marked (I:Inv X pins σ H s)(a:Addr):Inv (X.marked a) pins σ H s:=
 ⟨⟨I.ok.mod,I.ok.kind,I.ok.glob,I.ok.blt,I.ok.above,I.ok.inj,I.ok.has,I.ok.cab,(λz=>by cases z),I.ok.frames,I.ok.stk,I.ok.vi,I.ok.bs,I.ok.l5,I.ok.pJ,I.ok.qP,I.ok.kX,I.ok.nL⟩,I.os,I.bare,I.base,I.loc,I.cell,I.free,I.jY,I.pin,I.hok,I.len⟩
theorem Inv.unmarked {a:Addr}(I:Inv (X.marked a) pins σ H s)(ok:X.Ok):Inv X pins σ H s:=⟨ok,I.os,I.bare,I.base,I.loc,I.cell,I.free,I.jY,I.pin,I.hok,I.len⟩
end
def Ends.un (D:Ends) (i:Nat):Ends:={ nx:=λσ H=>D.nx (σ.set i none) H,rt:=D.rt,bk:=λσ H=>D.bk (σ.set i none) H,ct:=λσ H=>D.ct (σ.set i none) H }
end L2
namespace L2
open Spec Calls PyProof.Rows W Builtin Builtin.ObjectAttr Builtin.Getset_descriptor
structure qg (K:Frag) (C:Addr):Prop where
 ga:findIn K (.ref C) "__getattribute__"=some (some (.builtin "BaseException.__getattribute__"))
 gt:findIn K (.ref C) "__getattr__"=some none
 cl:findIn K (.ref C) "__class__"=some (some (.builtin "object.__class__"))
 ob:mroIn K C (.type "object")=some true
 bx:mroIn K C (.type "BaseException")=some true
 is:(clsIn K C).isSome=true
section
variable {prog:Program}{w:World}{A:Around}{E:Value->Shared->Prop}{K:Frag}{h:Heap}{g:Array GenState}{d:Drawn}{t:Nat}{os:OsState}{a C:Addr}{o:Obj}
theorem KO {z:Value}{M:Model}{Q:Unit->Shared->Prop}(X:K.In h)(Z:qg K C)(L:h.get? a=some o)(hc:o.cls=.ref C)(U:Q () ⟨h,g,d,t,os⟩):
 wpAny M A (checkBuiltinCall "BaseException.__getattribute__" ⟨[.ref a,z],[]⟩) Q E ⟨h,g,d,t,os⟩:=by
 have hk:builtinKind "BaseException.__getattribute__"=some .slot:=by decide +kernel
 have J:splitId "BaseException.__getattribute__"=some ("BaseException","__getattribute__"):=by decide +kernel
 have ha:=F.args_bexc_ga (.ref a) z;have Y:=looks_mroIn (M:=M) X Z.bx;simp only[checkBuiltinCall,hk,J];refine Q0 ?_
 . unfold isInstance
   repeat (first|(with_reducible refine wpAny_loadPart_at L ?_;rw[hc])|with_reducible refine Y.at ?_|wp_step)
   exact U
end
end L2
namespace L2
open Spec PyProof.Rows
section
variable {X:Cx}{es:List Expr}{n k:Nat}{t:St->Hp->Prop}{pos:Pos}
end
noncomputable def gX (x:Str):List Key:=[Sum.inr x]
theorem D4 (x y:Str):hZ (gX x) (gX y)=decide (x.cps.toList<y.cps.toList):=by
 unfold gX;rw[qc];by_cases e:(Sum.inr x:Key)=Sum.inr y
 . rw[if_pos e];have e:=Sum.inr.inj e;subst e;have h:¬x.cps.toList<x.cps.toList:=Q39 _;rw[decide_eq_false h];rfl
 . rw[if_neg e];rfl
theorem wc {ss:List Str}{us:List Value}(r:Vals (ss.map V.str) us){i:Nat}(hi:i<us.length):∃x t,us.getD i Value.none=.str x t/\(ss.map gX).getD i []=gX x:=by
 have hl:=r.length;rw[Q04] at hl;have h1:(ss.map V.str)[i]? =some (V.str (ss[i]'(by omega))):=by rw[Q0f,Q03 (by omega)];rfl
 obtain⟨u,z,t,J⟩:=r.get h1;subst J;refine⟨ss[i]'(by omega),t,by rw[Q0e,z];rfl,?_⟩;rw[Q0e,Q0f,Q03 (by omega)];rfl
theorem D5 {prog:Program}{w:World}{s:Shared}{A:Around}{ss:List Str}{us:List Value}(r:Vals (ss.map V.str) us):Asks prog w A s us (O:=o9) (λi=>(ss.map gX).getD i []):=by
 intro h2;refine W.kas_kind (T:=.type "str") h2 (λv J=>?_) rfl rfl ⟨rfl,λi j C hi L q=>?_⟩
 . obtain⟨i,hi,e⟩:=Q10 J;obtain⟨x,t,z,_⟩:=wc r hi;rw[Q0e,Q03 hi] at z;have z:us[i]=.str x t:=z;rw[<-e,z];exact W.Looks.of_pure rfl
 . unfold W.kas_ask;obtain⟨x,t,z,U⟩:=wc r hi;obtain⟨y,u,Y,e4⟩:=wc r L;rw[z,Y];refine W.kas_lt_str ?_;have q:C (hZ ((ss.map gX).getD i []) ((ss.map gX).getD j [])) s:=q;rw[U,e4,D4] at q;exact q
def wd (K:PySem.W.Frag) (P:Addr) (J:Pos) (qual:Str) (te:TE) (σ:St) (Q:VK):VK:=λx H1=>∃a xs,x=.ref a/\fY K H1 a xs/\xs.length<64/\gz P J qual H1/\
 ∀c' H2,nh P J qual c' H2->(∀b o,b≠P->H1 b=some o->H2 b=some o)->
 ∃W:List V->Hp->Prop,W [] H2/\(∀ks z,W ks z->nh P J qual c' z)/\(∀ks z y,W ks z->xs[ks.length]? =some y->te (some y::σ) z λk L=>W (ks++[k]) L)/\
 ∀ks z,W ks z->ks.length=xs.length->∃ss:List Str,ks=ss.map V.str/\∀p:List Nat,p.Perm (List.range xs.length)->(p.map λi=>(ss.map gX).getD i []).Pairwise lh->∀D,z D=none->Q (.ref D) (upd z D (.lst (p.map λi=>xs.getD i .non)))
def KP (K:W.Frag) (P:Addr) (z:Pos) (qual:Str) (tl te:TE):TE:=λσ H Q=>tl σ H (wd K P z qual te σ Q)
section
variable {X:Cx}
theorem KQ {x:Str}{N':List Str}{l body:Expr}{L:Arguments}{scope:Scope}{lp kp p pos:Pos}{qual:Str}{c P:Addr}{tl te:TE}{k:Nat}(hg:Gl X "sorted")(hm:X.mg "sorted"=none)(hv:bootBuiltins "sorted"=some (.builtin "sorted"))(hr:ie k X.A)(hq:X.env.qual++"<lambda>"=qual)(Y:X.env.code=.ref c)(C:PySem.W.CodeHd X.base c P)
 (B:BM X.mg X.base) (S:lg X x N' scope) (ab:defaultsOf L X.env=([],[])) (hb:∀(cl:List (Str × Addr)) (pm:Value) (c':Addr) (U u:Value),bindArgs (PySem.W.kla_fn "<lambda>" qual L body scope cl pm (.ref c') U) ⟨[u],[]⟩=pure [(x,u)])
 (hl:PE X l tl) (he:∀(cl:List (Str × Addr)) (f c':Addr) (s:Shared) (H:Hp),PE (p_ X x N' scope cl qual f c' s H) body te) (hs:starEach [l] X.env=[(false,eval l X.env)]:=by rfl):
 PE X (.Call (.Name "sorted" p) [l] [⟨some "key",.Lambda L body scope lp,kp⟩] pos) (KP X.K P lp qual tl te):=by
 intro pins s σ H Q I h;refine wpAny_Call_Name_kw (mB I hg hm hv ?_);have ha:PA X [l] (iO tl jT):=a_ hl c_ (by rw[hs];rfl);refine callWith_kw (gy (ha pos pins s σ H (λvs H1=>match vs with|[x]=>wd X.K P lp qual te σ Q x H1|_=>False) I h) λus s1 zq=>?_) (by rw[hs];rfl) (by rw[hs];rfl);obtain⟨vs,H1,I1,r1,q1⟩:=zq
 obtain⟨x',rfl⟩:∃x',vs=[x']:=by
  match vs,q1 with
  |[x'],_=>exact⟨x',rfl⟩
 have q1:wd X.K P lp qual te σ Q x' H1:=q1;obtain⟨a,xs,rfl,ag,ah,T,cont⟩:=q1;obtain⟨u,rfl,ru⟩:=vals1 r1
 cases ru;show wpAny _ _ (evalAll [do let v <-eval (.Lambda L body scope lp) X.env;standAt pos;pure v]) _ _ s1;obtain⟨cl,aa,ac,ae⟩:=rm (scope:=scope) (env:=X.env) λy hy hf=>I1.ok.has y.1 (S.free y hy hf);refine wpAny_evalAll_cons (Q0 (PySem.W.kla_eval ab ?_));rw[hq];refine DN I1 Y C B T aa λf c' pm U H2 s2 I2 ai mono=>?_;refine Q0 (wpAny_standAt (Q02 (wpAny_evalAll_nil ?_)));show wpAny _ _ (call (.builtin "sorted") [.ref a] [(Str.ofString "key",.ref f)]) _ _ s2;obtain⟨W,w0,wL,wt,wf⟩:=cont c' H2 ai mono
 have aj:∃ps,H1 P=some (.gQ ps):=by
  rcases T with e|⟨al,e,_⟩
  . exact⟨_,e⟩
  . exact⟨_,e⟩
 have ak:fY X.K H2 a xs:=by
  obtain⟨ps,hP⟩:=aj;rcases ag with(z|⟨o,z⟩)|z
  . exact .inl (.inl (mono a _ (jz z hP (by intro z;cases z)) z))
  . exact .inl (.inr ⟨o,mono a _ (jz z hP (by intro z;cases z)) z⟩)
  . exact .inr z
 refine gy (DV (Q:=Q) (W:=W) I2 ak ah w0 (λpl s' H' ks y u J wk hy ry=>?_) λpl s' H' ks us J wk af rk=>?_) λr s' ⟨v,H',J,rv,q⟩=>⟨v,H',J.mC,rv,q⟩
 . exact v5 J S hr.hd hr.depth ac ae (Q0t _ (Q09 _ Q05)) (wL ks H' wk).2 (hb cl pm c' U) ry (he cl f c') (wt ks H' y wk hy)
 . obtain⟨ss,k1,k3⟩:=wf ks H' wk af;subst k1;exact⟨o9,_,D5 rk,λp p1 p2 D hD=>k3 p p1 p2 D hD⟩
end
variable {P:Program}{w:World}{K:W.Frag}{mg:Str->Option Value}{base:Heap}
section
variable {X:Cx}
end
theorem l8.rF {x qual:Str}{st:Stmt}{f c:Addr}{fd:FuncData}{N ps:List Str}{k:Nat}{sp:Sp}(F:l8 K x qual st f fd)(hc:fd.code=.ref c)(S:gM N ps (gn st))(len:∀vs H Q E,sp vs H Q E->vs.length=ps.length)
 (z:∀(A:Around) (outer:List Env) (s:Shared) (H:Hp) (vs:List V) (Q:VK) (E:XK),ie k (A.deeper (envOfC qual (gn st) s.heap.objs.size f (.ref c)))->sp vs H Q E->
   ∃t,j4 (gD fW P w K mg base N qual (gn st) f (.ref c) A outer s H E).gE (i3 st) t/\t { nx:=λ_ H'=>Q .non H',rt:=Q } (start N vs) H):e_ P w K mg base fW (k+1) f fd ps sp:=by
 obtain⟨oc,od,kV,aa,pm,an,J,ct,ab,rfl,Y,L⟩:=F.ex;have hc:J=.ref c:=hc;subst hc;refine vG Y L S len λA outer s H vs Q E hr U=>?_;obtain⟨t,h,q⟩:=z A outer s H vs Q E hr U;exact⟨t,h.gE,q⟩
def tO (z:List Addr) (H:Hp):Prop:=∀b,H b=none\/(∃o xs,H b=some (.i4 o (.lst xs)))\/(b∈z/\H b=some (.gQ #[]))
theorem KR {P:Program}{w:World}{K:W.Frag}{mg mb:Str->Option Value}{CX:jU}{k:Nat}{fa a:Addr}{fd:FuncData}{x:Str}{sp:Sp}{J:Shared}{vs:List Value}{ns:List Int}{L:List (Addr × Addr)}
 (KX:K.In J.heap) (hT:W.TabsAt L J.heap) (ar:W.noTabs K=true) (au:BM mg J.heap) (aj:J.heap.Ns mainGlobals mg) (U:J.heap.Ns builtinsNs mb) (av:∀x:Str,x≠"__name__"->mb x=bootBuiltins x) (ao:J.heap.NoLimit) (hg:J.gens=#[])
 (ha:J.heap.get? a=some { cls:=.type "list",data:=.seq vs.toArray }) (hi:IntsAre vs ns) (hl:ns.length<=sizeLine) (hr:ie k callerA)
 (F:∀base:Heap,K.In base->base.Ns mainGlobals mg->BM mg base->e_ P w K mg base CX k fa fd [x] sp) (ai:∀(s:Shared) (u:Value),BindsTo s fd ⟨[u],[]⟩ [(x,u)])
 (aw:∀H:Hp,tO (L.map (·.2)) H->(∀q∈L,H q.2=some (.gQ #[]))->fY K H a (ns.map V.int)->sp [.ref a] H (λv _=>v=.bl true) λ_ _ _=>False)
 (ax:∀H e s',CX [] H J (λ_ _ _=>False) e s'->False):
 codeAny (model P w) callerA (.call (.ref fa) ⟨[.ref a],[]⟩) (λr s'=>r=.ok (.ret (.bool true))/\OldK J.heap s'.heap/\s'.os=J.os/\AllBare s'.gens) J:=by
 have rv:=Dk hi;have ap:=hi.length
 have aa:∀b,b∈L.map (·.2)->J.heap.get? b=some (W.tabObj #[]):=λb hm=>by
  obtain⟨q,hq,rfl⟩:=List.mem_map.mp hm;exact(hT q hq).2
 have ak:a ∉ L.map (·.2):=λhm=>by
  have:=aa a hm;rw[ha] at this;cases this
 have ag:∀H:Hp,tO (L.map (·.2)) H->(∀q∈L,H q.2=some (.gQ #[]))->fY K H a (ns.map V.int)->iG P w H J.heap->(∀b,H b≠none->b=a\/b∈L.map (·.2))->(H a≠none->K.lookup a=none)->
  codeAny (model P w) callerA (.call (.ref fa) ⟨[.ref a],[]⟩) (λr s'=>r=.ok (.ret (.bool true))/\OldK J.heap s'.heap/\s'.os=J.os/\AllBare s'.gens) J:=by
  intro H hO al hS am hA hK;have Y:∀{b:Addr} {o:Obj},J.heap.get? b=some o->H b=none->(mz J.heap H).get? b=some o:=λe n=>HZ e n
  have ac:∀{b:Addr} {o:Obj},J.heap.get? b=some o->(∀us n,o.data≠ .seq us n)->(∀us,o.data≠ .fields us)->H b=none:=λ{b o} e d1 d2=>by
   cases q:H b with
   |none=>rfl
   |some u=>
    rcases hA b (by rw[q];simp) with e'|e'
    . subst e';rw[ha] at e;cases e;exact absurd rfl (d1 _ _)
    . rw[aa b e'] at e;cases e;exact absurd rfl (d2 _)
  have af:∀{b:Addr} {m:Str->Option Value},J.heap.Ns b m->(mz J.heap H).Ns b m:=λ{b m} ⟨o,es,ep,e,d,r⟩=>⟨o,es,ep,Y e (ac e (by rw[d];intro us n z;cases z) (by rw[d];intro us z;cases z)),d,r⟩
  have an:K.In (mz J.heap H):=λb o e=>Y (KX b o e) (by
   cases q:H b with
   |none=>rfl
   |some u=>
    rcases hA b (by rw[q];simp) with e'|e'
    . subst e';rw[hK (by rw[q];simp)] at e;cases e
    . have e2:=KX b o e;rw[aa b e'] at e2;cases e2;have:=List.all_eq_true.mp ar _ (W.mem_of_lookupK e);simp at this)
  have hM:Mod K mg (mz J.heap H):=⟨an,af aj,⟨mb,af U,av⟩,let⟨mc,h1,h2⟩:=ao;⟨mc,af h1,h2⟩⟩
  have ay:BM mg (mz J.heap H):=by
   obtain⟨bm,o,b1,b2,b3,b4,b5,b6,b7⟩:=au;exact⟨bm,o,b1,b2,b3,Y b4 (ac b4 (by rw[b7];intro us n z;cases z) (by rw[b7];intro us z;cases z)),b5,b6,b7⟩
  have e0:oW P w K mg (mz J.heap H) callerA [] J H:=⟨rfl,hM,λb o e=>H_ e,Q1s (HY _ _),trivial,λb U=>absurd (show b∈([]:List Addr) from U) (by simp),am,.of_eq hg⟩;refine codeAny_mono ((F _ an (af aj) ay).run callerA [] J H ⟨[.ref a],[]⟩ [.ref a] [.ref a] _ _ hr e0 (ai J (.ref a)) (.cons rfl .nil) (aw H hO al hS)) λr s' h=>?_
  cases r with
  |error e=>exact(ax H e s' h).elim
  |ok fl=>
   cases fl with
   |next=>exact False.elim h
   |brk=>exact False.elim h
   |cont=>exact False.elim h
   |ret u=>
    obtain⟨v,H',os,aq,un,ah,r',q⟩:=h;have q':v=.bl true:=q;subst q';obtain rfl:u=Value.bool true:=r'
    have ae:∀b,b∈L.map (·.2)->∃ps,s'.heap.get? b=some (W.tabObj ps):=λb hm=>by
     obtain⟨q,hq,rfl⟩:=List.mem_map.mp hm;obtain⟨az,e⟩:=un.km _ _ (al q hq);exact⟨_,ah _ _ e⟩
    have keep:∀b o,b ∉ L.map (·.2)->J.heap.get? b=some o->s'.heap.get? b=some o:=λb o U e=>by
     cases q:H b with
     |none=>exact un.keep b o e q (by intro z;exact absurd (show b∈([]:List Addr) from z) (by simp)) (by simp)
     |some u=>
      rcases hO b with z|⟨ob,xs,z⟩|⟨z,_⟩
      . rw[q] at z;cases z
      . have z2:=un.j3 b ob _ z;obtain⟨e1,_⟩:=am b _ z;obtain⟨e2,_⟩:=ah b _ z2;rw[e] at e1;cases e1;exact e2
      . exact absurd z U
    refine⟨rfl,⟨λb o e=>?_,λb o e=>?_⟩,os,aq⟩
    . by_cases U:b∈L.map (·.2)
      . obtain⟨ps,hP⟩:=ae b U;have e2:=aa b U;rw[e] at e2;cases e2;obtain⟨q,hq,rfl⟩:=List.mem_map.mp U;exact .inr (.inl ⟨((hT q hq).1.tab (hT q hq).2).isCodeTable,rfl,#[],ps,rfl,by rw[Q2y];exact hP⟩)
      . exact .inl (keep b o U e)
    . by_cases U:b∈L.map (·.2)
      . obtain⟨ps,hP⟩:=ae b U;exact⟨_,hP⟩
      . exact⟨o,keep b o U e⟩
 cases hk:K.lookup a with
 |some o=>
  have e:=KX a o hk;rw[ha] at e
  cases e;refine ag (λb=>if b∈L.map (·.2) then some (.gQ #[]) else none) (λb=>?_) (λq hq=>if_pos (Q3a hq)) (.inr ⟨_,vs.toArray,_,hk,rfl,rfl,rfl,by rw[Q07,ap];exact hl,by simpa using rv⟩) (λb u z=>?_) (λb z=>?_) λz=>absurd (if_neg ak) z
  . by_cases U:b∈L.map (·.2)
    . exact .inr (.inr ⟨U,if_pos U⟩)
    . exact .inl (if_neg U)
  . by_cases U:b∈L.map (·.2)
    . have z':=(if_pos U).symm.trans z
      cases z';exact aa b U
    . have z':=(if_neg U).symm.trans z
      cases z'
  . by_cases U:b∈L.map (·.2)
    . exact .inr U
    . exact absurd (if_neg U) z
 |none=>
  refine ag (λb=>if b∈L.map (·.2) then some (.gQ #[]) else if b=a then some (.i4 { cls:=.type "list",data:=.seq vs.toArray } (.lst (ns.map V.int))) else none) (λb=>?_) (λq hq=>if_pos (Q3a hq))
   (.inl (.inr ⟨{ cls:=.type "list",data:=.seq vs.toArray },(if_neg ak).trans (if_pos rfl)⟩)) (λb u z=>?_) (λb z=>?_) λ_=>hk
  . by_cases U:b∈L.map (·.2)
    . exact .inr (.inr ⟨U,if_pos U⟩)
    . by_cases ab:b=a
      . exact .inr (.inl ⟨_,_,(if_neg U).trans (if_pos ab)⟩)
      . exact .inl ((if_neg U).trans (if_neg ab))
  . by_cases U:b∈L.map (·.2)
    . have z':=(if_pos U).symm.trans z
      cases z';exact aa b U
    . have z:=(if_neg U).symm.trans z;by_cases ab:b=a
      . have z':=(if_pos ab).symm.trans z
        cases z';subst ab;exact⟨ha,by rw[Q04];exact hl,vs,_,rv,ha⟩
      . have z':=(if_neg ab).symm.trans z
        cases z'
  . by_cases U:b∈L.map (·.2)
    . exact .inr U
    . by_cases ab:b=a
      . exact .inl ab
      . exact absurd ((if_neg U).trans (if_neg ab)) z
theorem KS {l:W.OpenLaw}{n k:Nat}{q:Program}{loose:List Str}{XP:(Str->Option Value)->Heap->Prop}{YP:World->Heap->Prop}{d:DefRec}{K:Params->W.Frag}{sp:World->List (Addr × Addr)->Sp}{x:Str}{names:List Str}
 (hn:l.most=some n) (ae:n<=sizeLine) (af:d.params.defaults=[]) (hr:ie k callerA)
 (hY:∀(w:World) (h:Heap),YP w h->(K w.params).In h) (ag:∀w:World,W.noTabs (K w.params)=true)
 (tb:∀w:World,∃J:List (Addr × Addr),(∀q'∈J,∃y∈names,W.tabIn (K w.params) y=some q')/\
   (∀(mg:Str->Option Value) (fa:Addr) (h:Heap),(K w.params).In h->h.Ns mainGlobals mg->mg d.name=some (.ref fa)->
   ∃fd:FuncData,(∀(s:Shared) (u:Value),BindsTo s fd ⟨[u],[]⟩ [(x,u)])/\
    ∀base:Heap,(K w.params).In base->base.Ns mainGlobals mg->BM mg base->e_ l.prog w (K w.params) mg base fW k fa fd [x] (sp w J)))
 (ab:∀y∈names,∃d',(recsOf q).find? (λe=>e.name == y)=some d')
 (ah:∀(w:World) (J:List (Addr × Addr)) (H:Hp) (a:Addr) (ns:List Int),ns.length<=n->tO (J.map (·.2)) H->(∀q∈J,H q.2=some (.gQ #[]))->fY (K w.params) H a (ns.map V.int)->sp w J [.ref a] H (λv _=>v=.bl true) λ_ _ _=>False):
 W.WalkO q loose XP YP l.row.toRowW d [] (λf vs=>PySem.call f vs):=by
 refine Dj.JY hn af λw s₀ L mg mb fa o pm cd am a vs ns G Y ho hd an ai ac aa U hg=>?_;have KX:=hY w _ Y;obtain⟨J,ht,F⟩:=tb w;obtain⟨fd,hb,hF⟩:=F mg fa _ KX G.T.g ai
 have hT:W.TabsAt J L.heap:=λq' hq=>by
  obtain⟨y,hy,aj⟩:=ht q' hq;obtain⟨d',ak⟩:=ab y hy;exact W.tab_of G.T KX ak aj
 have al:BM mg L.heap:=by
  obtain⟨bm,ob,b1,b2,b3,b4,b5,b6⟩:=G.T.bmain;refine⟨bm,ob,b1,b2,λz=>?_,b3,b4,b5,b6⟩;obtain⟨o',es,ep,e,hd,_⟩:=G.T.g;rw[z,e] at b3;cases b3;rw[hd] at b6;cases b6
 exact KR KX hT (ag w) al G.T.g G.T.b G.T.builtins G.T.nolimit hg ac aa (Q0b U ae) hr hF hb (λH hO hP hS=>ah w J H a ns U hO hP hS) λH e s' h=>h.elim
end L2
namespace Pb
open L2 PyProof.Rows
mutual
inductive Kd where
 |num
 |iF
 |gI (fs:Fs)
 |rows (key by_:Str) (fs:Fs)
 |tree (k:Kd)
 |je (fs:Fs)
inductive Fs where
 |nil
 |cons (x:Str) (k:Kd) (r:Fs)
end
mutual
inductive D where
 |int (z:Int)
 |str (x:Str)
 |tup (xs:Ds)
 |lst (xs:Ds)
 |dct (m:Ds)
inductive Ds where
 |nil
 |cons (x:Str) (d:D) (r:Ds)
end
mutual
noncomputable def Kd.dep:Kd->Nat
 | .num=>1
 | .iF=>1
 | .gI fs=>fs.dep+1
 | .rows _ _ fs=>fs.dep+1
 | .tree k=>k.dep+1
 | .je fs=>fs.dep+1
noncomputable def Fs.dep:Fs->Nat
 | .nil=>0
 | .cons _ k r=>max k.dep r.dep
end
mutual
noncomputable def D.dep:D->Nat
 | .int _=>1
 | .str _=>1
 | .tup xs=>xs.dep+1
 | .lst xs=>xs.dep+1
 | .dct m=>m.dep+1
noncomputable def Ds.dep:Ds->Nat
 | .nil=>0
 | .cons _ d r=>max d.dep r.dep
end
theorem Kd.nq (k:Kd):1<=k.dep:=by cases k <;> simp[Kd.dep]
theorem D.nq (d:D):1<=d.dep:=by cases d <;> simp[D.dep]
noncomputable def Fs.names:Fs->List Str
 | .nil=>[]
 | .cons x _ r=>x::r.names
noncomputable def Fs.get:Fs->Str->Option Kd
 | .nil,_=>none
 | .cons y k r,x=>if x=y then some k else r.get x
noncomputable def Fs.at:Fs->Nat->Option (Str × Kd)
 | .nil,_=>none
 | .cons x k _,0=>some (x,k)
 | .cons _ _ r,i+1=>r.at i
noncomputable def Fs.snoc:Fs->Str->Kd->Fs
 | .nil,x,k=>.cons x k .nil
 | .cons y q r,x,k=>.cons y q (r.snoc x k)
noncomputable def Fs.take:Fs->Nat->Fs
 | .nil,_=>.nil
 | .cons _ _ _,0=>.nil
 | .cons x k r,i+1=>.cons x k (r.take i)
theorem Fs.we:∀(fs:Fs) (x:Str) (k:Kd),(fs.snoc x k).names=fs.names++[x]
 | .nil,_,_=>rfl
 | .cons y q r,x,k=>by
   show y::(r.snoc x k).names=_;rw[Fs.we r x k];rfl
theorem Fs.wg:∀(fs:Fs) (x:Str) (k:Kd),(fs.snoc x k).dep=max fs.dep k.dep
 | .nil,_,k=>by simp[Fs.snoc,Fs.dep]
 | .cons y q r,x,k=>by
   show max q.dep (r.snoc x k).dep=max (max q.dep r.dep) k.dep;rw[Fs.wg r x k,Nat.max_assoc]
theorem Fs.kz:∀(fs:Fs) (i:Nat),fs.names[i]? =(fs.at i).map (·.1)
 | .nil,i=>by simp[Fs.names,Fs.at]
 | .cons x k r,0=>by simp[Fs.names,Fs.at]
 | .cons x k r,i+1=>by
   show(x::r.names)[i+1]? =_;rw[List.getElem?_cons_succ,Fs.kz r i];rfl
theorem Fs.D6:∀{fs:Fs}{i:Nat},i<fs.names.length->∃x k,fs.at i=some (x,k)
 | .nil,i,h=>by simp[Fs.names] at h
 | .cons x k r,0,h=>⟨x,k,rfl⟩
 | .cons x k r,i+1,h=>Fs.D6 (fs:=r) (i:=i) (by simpa[Fs.names] using h)
theorem Fs.pd:∀{fs:Fs}{i:Nat}{x:Str}{k:Kd},fs.at i=some (x,k)->k.dep<=fs.dep
 | .nil,_,_,_,h=>by cases h
 | .cons x k r,0,_,_,h=>by
   cases h;exact Q1x _ _
 | .cons x k r,i+1,_,_,h=>Q0b (Fs.pd (fs:=r) (i:=i) h) (Q1y _ _)
theorem Fs.nS:∀{fs:Fs}{i:Nat}{x:Str}{k:Kd},fs.names.Nodup->fs.at i=some (x,k)->fs.get x=some k
 | .nil,_,_,_,_,h=>by cases h
 | .cons y q r,0,x,k,_,h=>by
   cases h;simp[Fs.get]
 | .cons y q r,i+1,x,k,z,h=>by
   have z:(y::r.names).Nodup:=z;obtain⟨J,L⟩:=List.nodup_cons.mp z;have h:r.at i=some (x,k):=h;have U:x∈r.names:=Q0s (i:=i) (by rw[Fs.kz,h];rfl);show(if x=y then some q else r.get x)=some k;rw[if_neg (λe=>J (by rw[<-e];exact U))];exact Fs.nS L h
theorem Fs.take_succ:∀{fs:Fs}{i:Nat}{x:Str}{k:Kd},fs.at i=some (x,k)->fs.take (i+1)=(fs.take i).snoc x k
 | .nil,_,_,_,h=>by cases h
 | .cons y q r,0,x,k,h=>by
   cases h
   cases r <;> rfl
 | .cons y q r,i+1,x,k,h=>by
   show Fs.cons y q (r.take (i+1))=Fs.cons y q ((r.take i).snoc x k);rw[Fs.take_succ (fs:=r) (i:=i) h]
theorem Fs.take_zero (fs:Fs):fs.take 0=.nil:=by cases fs <;> rfl
theorem Fs.take_all:∀(fs:Fs),fs.take fs.names.length=fs
 | .nil=>rfl
 | .cons x k r=>by
   show Fs.cons x k (r.take r.names.length)=_;rw[Fs.take_all r]
def qh:Kd->Prop
 | .num=>True
 | .iF=>True
 |_=>False
def Fs.pl (fs:Fs) (x:Str):Prop:=∃k,fs.get x=some k/\qh k
mutual
def Kd.W:Kd->Prop
 | .num=>True
 | .iF=>True
 | .gI fs=>fs.names.Nodup/\fs.names.length<=12/\fs.W
 | .rows key z fs=>fs.names.Nodup/\fs.names.length<=12/\fs.W/\fs.pl key/\(z=""\/fs.pl z)
 | .tree k=>k.W
 | .je fs=>fs.names.Nodup/\fs.names.length<=12/\1<=fs.names.length/\fs.W
def Fs.W:Fs->Prop
 | .nil=>True
 | .cons _ k r=>k.W/\r.W
end
theorem Fs.pf:∀{fs:Fs}{i:Nat}{x:Str}{k:Kd},fs.W->fs.at i=some (x,k)->k.W
 | .nil,_,_,_,_,h=>by cases h
 | .cons x k r,0,_,_,w,h=>by
   unfold Fs.W at w
   cases h;exact w.1
 | .cons x k r,i+1,_,_,w,h=>by
   unfold Fs.W at w;exact Fs.pf (fs:=r) (i:=i) w.2 h
theorem Fs.wh {x:Str}{k:Kd}(hk:k.W):∀{fs:Fs},fs.W->(fs.snoc x k).W
 | .nil,_=>by
   show(Fs.cons x k .nil).W;unfold Fs.W;exact⟨hk,by unfold Fs.W;trivial⟩
 | .cons y q r,h=>by
   unfold Fs.W at h;show(Fs.cons y q (r.snoc x k)).W;unfold Fs.W;exact⟨h.1,Fs.wh hk h.2⟩
noncomputable def Ds.get:Ds->Str->Option D
 | .nil,_=>none
 | .cons y d r,x=>if x=y then some d else r.get x
noncomputable def keyOf (m:Ds) (x:Str):Key:=match m.get x with
 |some (.int z)=>.inl z
 |some (.str s)=>.inr s
 |_=>.inl 0
noncomputable def rankOf (key z:Str) (m:Ds):List Key:=if z="" then [keyOf m key] else [keyOf m z,keyOf m key]
theorem KU {key z:Str}{a b:Ds}(h:rankOf key z a=rankOf key z b):keyOf a key=keyOf b key:=by
 unfold rankOf at h;split at h
 . exact(List.cons.inj h).1
 . exact(List.cons.inj (List.cons.inj h).2).1
def rG (key z:Str) (a b:Ds):Prop:=hZ (rankOf key z a) (rankOf key z b)=true
def ph (key z:Str) (a b:Ds):Prop:=lh (rankOf key z a) (rankOf key z b)
noncomputable def ins (key z:Str) (m:Ds):List Ds->List Ds
 |[]=>[m]
 |y::q=>if hZ (rankOf key z y) (rankOf key z m)=true then y::ins key z m q else m::y::q
noncomputable def nU (key z:Str):List Ds->List Ds
 |[]=>[]
 |m::r=>ins key z m (nU key z r)
theorem wj (key z:Str)(m:Ds):∀l:List Ds,(ins key z m l).Perm (m::l)
 |[]=>List.Perm.refl _
 |y::q=>by
  unfold ins;split
  . exact((wj key z m q).cons y).trans (List.Perm.swap m y q)
  . exact List.Perm.refl _
theorem nr (key z:Str):∀l:List Ds,(nU key z l).Perm l
 |[]=>List.Perm.refl _
 |m::r=>(wj key z m _).trans ((nr key z r).cons m)
theorem KW {a b:List Key}(h:hZ a b=true):lh a b:=KeyOrd.kle_of_klt (O:=o9) h
theorem KY {a b c:List Key}(h1:lh a b)(h2:lh b c):lh a c:=KeyOrd.kle_trans (O:=o9) h1 h2
theorem D7 (key J:Str)(m:Ds):∀{l:List Ds},l.Pairwise (ph key J)->(ins key J m l).Pairwise (ph key J)
 |[],_=>Q1w _ _
 |y::q,h=>by
  obtain⟨h1,h2⟩:=List.pairwise_cons.mp h;unfold ins;by_cases c:hZ (rankOf key J y) (rankOf key J m)=true
  . rw[if_pos c];refine List.pairwise_cons.mpr ⟨λz L=>?_,D7 key J m h2⟩;rcases List.mem_cons.mp ((wj key J m q).mem_iff.mp L) with e|e
    . rw[e];exact KW c
    . exact h1 z e
  . rw[if_neg c];have c':ph key J m y:=by unfold ph lh;simpa using c
    refine List.pairwise_cons.mpr ⟨λz L=>?_,h⟩;rcases List.mem_cons.mp L with e|e
    . rw[e];exact c'
    . exact KY c' (h1 z e)
theorem wm (key z:Str):∀l:List Ds,(nU key z l).Pairwise (ph key z)
 |[]=>List.Pairwise.nil
 |m::r=>D7 key z m (wm key z r)
theorem wo {key z:Str}{l:List Ds}(h:l.Pairwise (ph key z))(L:(l.map λm=>keyOf m key).Nodup):l.Pairwise (rG key z):=by
 have J:l.Pairwise λa b=>keyOf a key≠keyOf b key:=List.pairwise_map.mp L;refine(h.and J).imp λ{a b} ⟨h1,h2⟩=>?_;rcases rB (rankOf key z a) (rankOf key z b) with q|q|q
 . exact q
 . exact absurd (KU q) h2
 . have h1:hZ (rankOf key z b) (rankOf key z a)=false:=h1;rw[h1] at q;cases q
theorem D8 {key J:Str}:∀{U L:List Ds},U.Perm L->U.Pairwise (rG key J)->L.Pairwise (rG key J)->U=L
 |[],L,p,_,_=>by rw[p.nil_eq]
 |a::r,[],p,_,_=>absurd p.length_eq (by simp)
 |a::r,b::q,p,h1,h2=>by
  obtain⟨a1,a2⟩:=List.pairwise_cons.mp h1;obtain⟨b1,b2⟩:=List.pairwise_cons.mp h2
  have e:a=b:=by
   have ha:a∈b::q:=p.mem_iff.mp Q05;have hb:b∈a::r:=p.mem_iff.mpr Q05;rcases List.mem_cons.mp ha with e|e
   . exact e
   . rcases List.mem_cons.mp hb with Y|Y
     . exact Y.symm
     . have z:=qd _ _ _ (a1 b Y) (b1 a e);rw[tN] at z;cases z
  subst e;rw[D8 ((Q3b a).mp p) a2 b2]
theorem KZ {key J:Str}{l z:List Ds}(p:z.Perm l)(h:z.Pairwise (ph key J))(L:(l.map λm=>keyOf m key).Nodup):z=nU key J l:=
 D8 (p.trans (nr key J l).symm) (wo h ((p.map _).nodup_iff.mpr L)) (wo (wm key J l) (((nr key J l).map _).nodup_iff.mpr L))
noncomputable def ji:List Ds->Ds
 |[]=>.nil
 |m::r=>.cons "" (.dct m) (ji r)
noncomputable abbrev pairD (a b:D):D:=.tup (.cons "" a (.cons "" b .nil))
mutual
def Tree (P:D->Prop):D->Prop
 | .tup xs=>ma P xs
 |_=>False
def ma (P:D->Prop):Ds->Prop
 | .cons _ t (.cons _ (.lst as) .nil)=>P t/\kP P as
 |_=>False
def kP (P:D->Prop):Ds->Prop
 | .nil=>True
 | .cons _ d r=>Tree P d/\kP P r
end
mutual
def ij:Kd->D->Prop
 | .num,d=>∃z,d=.int z
 | .iF,d=>∃x,d=.str x
 | .gI fs,d=>∃m,d=.dct m/\ja fs m
 | .rows key L fs,d=>∃J:List Ds,d=.lst (ji J)/\(∀m∈J,ja fs m)/\J.Pairwise (rG key L)/\(J.map λm=>keyOf m key).Nodup
 | .tree k,d=>Tree (ij k) d
 | .je fs,d=>∃x v,d=pairD (.str x) v/\lH fs x v
def ja:Fs->Ds->Prop
 | .nil,m=>m=.nil
 | .cons x k r,m=>∃d q,m=.cons x d q/\ij k d/\ja r q
def lH:Fs->Str->D->Prop
 | .nil,_,_=>False
 | .cons y k r,x,v=>(x=y/\ij k v)\/(x≠y/\lH r x v)
end
theorem Tree.shape {P:D->Prop}:∀{d:D},Tree P d->∃x y t as,d=.tup (.cons x t (.cons y (.lst as) .nil))/\P t/\kP P as
 | .tup (.cons x t (.cons y (.lst as) .nil)),h=>by
   unfold Tree ma at h;exact⟨x,y,t,as,rfl,h.1,h.2⟩
 | .tup .nil,h=>by unfold Tree ma at h;exact h.elim
 | .tup (.cons _ _ .nil),h=>by unfold Tree ma at h;exact h.elim
 | .tup (.cons _ _ (.cons _ (.int _) _)),h=>by unfold Tree ma at h;exact h.elim
 | .tup (.cons _ _ (.cons _ (.str _) _)),h=>by unfold Tree ma at h;exact h.elim
 | .tup (.cons _ _ (.cons _ (.tup _) _)),h=>by unfold Tree ma at h;exact h.elim
 | .tup (.cons _ _ (.cons _ (.dct _) _)),h=>by unfold Tree ma at h;exact h.elim
 | .tup (.cons _ _ (.cons _ (.lst _) (.cons _ _ _))),h=>by unfold Tree ma at h;exact h.elim
 | .int _,h=>by unfold Tree at h;exact h.elim
 | .str _,h=>by unfold Tree at h;exact h.elim
 | .lst _,h=>by unfold Tree at h;exact h.elim
 | .dct _,h=>by unfold Tree at h;exact h.elim
theorem ja.get:∀{fs:Fs}{m:Ds}{x:Str}{k:Kd},ja fs m->fs.get x=some k->∃d,m.get x=some d/\ij k d
 | .nil,_,_,_,_,h=>by cases h
 | .cons y q r,m,x,k,f,h=>by
   unfold ja at f;obtain⟨d,t,rfl,z,J⟩:=f;have h:(if x=y then some q else r.get x)=some k:=h;by_cases e:x=y
   . rw[if_pos e] at h
     cases h;exact⟨d,by show(if x=y then some d else t.get x)=_;rw[if_pos e],z⟩
   . rw[if_neg e] at h;obtain⟨d',L,U⟩:=ja.get J h;exact⟨d',by show(if x=y then some d else t.get x)=_;rw[if_neg e];exact L,U⟩
theorem ja.plain {fs:Fs}{m:Ds}{x:Str}(f:ja fs m)(h:fs.pl x):(m.get x=some (.int 0)\/True)/\((∃z,m.get x=some (.int z)/\keyOf m x=.inl z/\fs.get x=some .num)\/∃s,m.get x=some (.str s)/\keyOf m x=.inr s/\fs.get x=some .iF):=by
 refine⟨.inr trivial,?_⟩;obtain⟨k,h1,h2⟩:=h;obtain⟨d,J,L⟩:=f.get h1
 cases k with
 |num=>
  unfold ij at L;obtain⟨z,rfl⟩:=L;exact .inl ⟨z,J,by unfold keyOf;rw[J],h1⟩
 |iF=>
  unfold ij at L;obtain⟨s,rfl⟩:=L;exact .inr ⟨s,J,by unfold keyOf;rw[J],h1⟩
 |gI _=>exact h2.elim
 |rows _ _ _=>exact h2.elim
 |tree _=>exact h2.elim
 |je _=>exact h2.elim
theorem D9:∀{fs:Fs}{x:Str}{v:D},lH fs x v->x∈fs.names
 | .nil,_,_,h=>by unfold lH at h;exact h.elim
 | .cons y k r,x,v,h=>by
   unfold lH at h;rcases h with⟨e,_⟩|⟨_,h⟩
   . rw[e];exact Q05
   . exact Q0d _ (D9 h)
noncomputable def pj:Option Kd->Bool
 |some .num=>true
 |_=>false
theorem ja.tag {fs:Fs}{m:Ds}{x:Str}(f:ja fs m)(h:fs.pl x):i_ (keyOf m x)=pj (fs.get x):=by
 rcases(f.plain h).2 with⟨z,_,e,g⟩|⟨s,_,e,g⟩ <;> rw[e,g] <;> rfl
theorem wq {fs:Fs}{key J:Str}{m:Ds}(f:ja fs m)(h1:fs.pl key)(h2:J=""\/fs.pl J):(rankOf key J m).map i_=if J="" then [pj (fs.get key)] else [pj (fs.get J),pj (fs.get key)]:=by
 unfold rankOf;split
 . show [i_ (keyOf m key)]=_;rw[f.tag h1]
 . rename_i e;rcases h2 with z|z
   . exact absurd z e
   . show [i_ (keyOf m J),i_ (keyOf m key)]=_;rw[f.tag h1,f.tag z]
noncomputable def cellAt (ns:List Int) (n:Int):Int:=if 0<ns.length then ns.getD (n % (ns.length:Int)).toNat 0 else 0
noncomputable def nx (ns:List Int) (n:Int):Int:=
 ((cellAt ns n % 2147483647+n * n * 7919+11) * 48271 % 2147483647) * ((cellAt ns n % 2147483647+n * n * 7919+11) * 48271 % 2147483647) % 1999999973
theorem wu (ns:List Int)(n:Int):0<=nx ns n:=Q0m _ (by decide)
theorem wx (ns:List Int)(n:Int):nx ns n<1999999973:=Q0n _ (by decide)
noncomputable def num (ns:List Int) (n:Int):Int:=
 if nx ns n % 3=0 then nx ns n / 3 % 7 - 3 else(cellAt ns n % 10 ^ 40+nx ns n * 10 ^ 29) % (2 * 10 ^ 40) - 10 ^ 40
noncomputable def lI:Str:=" !#$&'()*+,-./0123456789:;<=>?@ABCDEFGHIJKLMNOPQRSTUVWXYZ"++"[\\]^_`abcdefghijklmnopqrstuvwxyz{|}~"
noncomputable def qi (m:Int):Nat->Str
 |0=>""
 |k+1=>qi m k++⟨#[(lI.cps.toList.getD ((m / 145+(k:Int) * (k:Int) * (m / 7 % 3)) % 93).toNat 0)]⟩
noncomputable def iF (ns:List Int) (n:Int):Str:=qi (nx ns n) (if nx ns n / 5 % 29=0 then 40 else(nx ns n % 5).toNat)
noncomputable def times (g:Int->D × Int):Nat->Int->Ds × Int
 |0,n=>(.nil,n)
 |m+1,n=>(.cons "" (g n).1 (times g m (g n).2).1,(times g m (g n).2).2)
noncomputable def i6 (ns:List Int) (f:Nat->Int->D × Int):Nat->Nat->Int->D × Int
 |0,_,n=>(.int 0,n)
 |fu+1,z,n=>
  (pairD (f (z / 2) n).1 (.lst (times (i6 ns f fu (z / 2)) (nx ns ((f (z / 2) n).2+1) % ((z:Int)+1)).toNat ((f (z / 2) n).2+1)).1),
    (times (i6 ns f fu (z / 2)) (nx ns ((f (z / 2) n).2+1) % ((z:Int)+1)).toNat ((f (z / 2) n).2+1)).2)
noncomputable def nV (key:Str) (l:List Ds) (k:Key):Bool:=l.any λr=>decide (keyOf r key=k)
noncomputable def ik (g:Int->Ds × Int) (key:Str):Nat->List Ds->Int->List Ds × Int
 |0,z,n=>(z,n)
 |m+1,z,n=>if nV key z (keyOf (g n).1 key)=true then ik g key m z (g n).2 else ik g key m (z++[(g n).1]) (g n).2
mutual
noncomputable def val (ns:List Int):Kd->Nat->Int->D × Int
 | .num,_,n=>(.int (num ns (n+1)),n+1)
 | .iF,_,n=>(.str (iF ns (n+1)),n+1)
 | .gI fs,z,n=>(.dct (gN ns fs z n).1,(gN ns fs z n).2)
 | .rows key J fs,z,n=>
   (.lst (ji (nU key J (ik (gN ns fs (z / 2)) key (nx ns (n+1) % ((z:Int)+1)).toNat [] (n+1)).1)),(ik (gN ns fs (z / 2)) key (nx ns (n+1) % ((z:Int)+1)).toNat [] (n+1)).2)
 | .tree k,z,n=>i6 ns (val ns k) 4 z n
 | .je fs,z,n=>jA ns fs (nx ns (n+1) % (fs.names.length:Int)).toNat z (n+1)
noncomputable def gN (ns:List Int):Fs->Nat->Int->Ds × Int
 | .nil,_,n=>(.nil,n)
 | .cons x k r,z,n=>(.cons x (val ns k z n).1 (gN ns r z (val ns k z n).2).1,(gN ns r z (val ns k z n).2).2)
noncomputable def jA (ns:List Int):Fs->Nat->Nat->Int->D × Int
 | .nil,_,_,n=>(.int 0,n)
 | .cons x k _,0,z,n=>(pairD (.str x) (val ns k z n).1,(val ns k z n).2)
 | .cons _ _ r,i+1,z,n=>jA ns r i z n
end
theorem tQ {g:Int->Ds × Int}{key:Str}:∀(m:Nat) (z:List Ds) (n:Int),(z.map λr=>keyOf r key).Nodup->((ik g key m z n).1.map λr=>keyOf r key).Nodup
 |0,_,_,h=>h
 |m+1,z,n,h=>by
  unfold ik;split
  . exact tQ m z _ h
  . rename_i c;refine tQ m _ _ ?_;rw[Q0i];refine List.nodup_append.mpr ⟨h,by simp,λa J b L=>?_⟩;have:b=keyOf (g n).1 key:=by simpa using L
    rw[this];obtain⟨r,U,e⟩:=List.mem_map.mp J;exact λY=>c (List.any_eq_true.mpr ⟨r,U,decide_eq_true (e.trans Y)⟩)
theorem qj {g:Int->Ds × Int}{key:Str}{R:Ds->Prop}(J:∀n,R (g n).1):∀(m:Nat) (z:List Ds) (n:Int),(∀r∈z,R r)->∀r∈(ik g key m z n).1,R r
 |0,_,_,h=>h
 |m+1,z,n,h=>by
  unfold ik;split
  . exact qj J m z _ h
  . refine qj J m _ _ λr L=>?_;rcases List.mem_append.mp L with q|q
    . exact h r q
    . have:r=(g n).1:=by simpa using q
      rw[this];exact J n
theorem D_ {P:D->Prop}{g:Int->D × Int}(z:∀n,Tree P (g n).1):∀(m:Nat) (n:Int),kP P (times g m n).1
 |0,_=>by unfold times kP;trivial
 |m+1,n=>by
  unfold times kP;exact⟨z n,D_ z m _⟩
theorem Ea {ns:List Int}{P:D->Prop}{f:Nat->Int->D × Int}(J:∀z n,z<8->P (f z n).1):∀(fu z:Nat) (n:Int),z<8->z<2 ^ fu->Tree P (i6 ns f (fu+1) z n).1
 |0,z,n,_,h=>by
  have e:z=0:=by simpa using h
  subst e;unfold i6
  have L:(nx ns ((f (0 / 2) n).2+1) % (((0:Nat):Int)+1)).toNat=0:=by
   have:nx ns ((f (0 / 2) n).2+1) % (((0:Nat):Int)+1)=0:=by
    show _ % (1:Int)=0;exact Int.emod_one _
   rw[this];rfl
  rw[L];unfold Tree ma;exact⟨J _ _ (by decide),by unfold times kP;trivial⟩
 |fu+1,z,n,Y,h=>by
  have U:=λm=>Ea (ns:=ns) J fu (z / 2) m (by omega) (by rw[Nat.pow_succ] at h;omega);unfold i6;unfold Tree ma;exact⟨J _ _ (by omega),D_ U _ _⟩
mutual
theorem rH (ns:List Int):∀(k:Kd),k.W->∀(z:Nat) (n:Int),z<8->ij k (val ns k z n).1
 | .num,_,z,n,_=>by unfold val ij;exact⟨_,rfl⟩
 | .iF,_,z,n,_=>by unfold val ij;exact⟨_,rfl⟩
 | .gI fs,w,z,n,h=>by
   unfold Kd.W at w;unfold val ij;exact⟨_,rfl,rJ ns fs w.2.2 z n h⟩
 | .rows key J fs,w,z,n,h=>by
   unfold Kd.W at w;unfold val ij;have L:=tQ (g:=gN ns fs (z / 2)) (key:=key) (nx ns (n+1) % ((z:Int)+1)).toNat [] (n+1) Q18;refine⟨_,rfl,λm U=>?_,?_,?_⟩
   . exact qj (R:=ja fs) (λn=>rJ ns fs w.2.2.1 (z / 2) n (by omega)) _ _ _ (λr Y=>absurd Y (by simp)) m ((nr key J _).mem_iff.mp U)
   . exact wo (wm key J _) (((nr key J _).map _).nodup_iff.mpr L)
   . exact((nr key J _).map _).nodup_iff.mpr L
 | .tree k,w,z,n,h=>by
   unfold Kd.W at w;unfold val ij;exact Ea (λz n h=>rH ns k w z n h) 3 z n h (by simpa using h)
 | .je fs,w,z,n,h=>by
   unfold Kd.W at w;unfold val ij
   have hl:(nx ns (n+1) % (fs.names.length:Int)).toNat<fs.names.length:=by
    have:=Q0n (nx ns (n+1)) (show(0:Int)<fs.names.length by omega);have:=Q0m (nx ns (n+1)) (show(fs.names.length:Int)≠0 by omega);omega
   exact Eb ns fs w.2.2.2 w.1 _ z _ h hl
theorem rJ (ns:List Int):∀(fs:Fs),fs.W->∀(z:Nat) (n:Int),z<8->ja fs (gN ns fs z n).1
 | .nil,_,_,_,_=>by unfold gN ja;rfl
 | .cons x k r,w,z,n,h=>by
   unfold Fs.W at w;unfold gN ja;exact⟨_,_,rfl,rH ns k w.1 z n h,rJ ns r w.2 z _ h⟩
theorem Eb (ns:List Int):∀(fs:Fs),fs.W->fs.names.Nodup->∀(i J:Nat) (n:Int),J<8->i<fs.names.length->∃x v,(jA ns fs i J n).1=pairD (.str x) v/\lH fs x v
 | .nil,_,_,i,_,_,_,hi=>by simp[Fs.names] at hi
 | .cons x k r,w,L,0,J,n,h,hi=>by
   unfold Fs.W at w;unfold jA;exact⟨x,_,rfl,by unfold lH;exact .inl ⟨rfl,rH ns k w.1 J n h⟩⟩
 | .cons x k r,w,L,i+1,J,n,h,hi=>by
   unfold Fs.W at w;unfold jA;have L:(x::r.names).Nodup:=L;obtain⟨U,Y⟩:=List.nodup_cons.mp L;obtain⟨y,v,e,f⟩:=Eb ns r w.2 Y i J n h (by simpa[Fs.names] using hi);refine⟨y,v,e,?_⟩;unfold lH;exact .inr ⟨λz=>U (by rw[<-z];exact D9 f),f⟩
end
mutual
noncomputable def Kd.dB:Kd->Nat
 | .num=>1
 | .iF=>1
 | .gI fs=>fs.dB+1
 | .rows _ _ fs=>fs.dB+2
 | .tree k=>k.dB+10
 | .je fs=>fs.dB+2
noncomputable def Fs.dB:Fs->Nat
 | .nil=>0
 | .cons _ k r=>max k.dB r.dB
end
mutual
noncomputable def Kd.cB:Kd->Nat
 | .num=>1
 | .iF=>1
 | .gI fs=>fs.cB
 | .rows _ _ fs=>8 * fs.cB+1
 | .tree k=>(k.cB+1) * 585
 | .je fs=>fs.cB+1
noncomputable def Fs.cB:Fs->Nat
 | .nil=>0
 | .cons _ k r=>k.cB+r.cB
end
theorem Ec:∀{l:List Ds}{n:Nat},(∀m∈l,m.dep<=n)->(ji l).dep<=n+1
 |[],n,_=>by simp[ji,Ds.dep]
 |m::r,n,h=>by
  have h1:=h m Q05;have h2:=Ec (l:=r) (n:=n) λx z=>h x (Q0d _ z);simp only[ji,Ds.dep,D.dep];omega
theorem Ed {g:Int->D × Int}{N:Nat}(z:∀n,(g n).1.dep<=N):∀(m:Nat) (n:Int),(times g m n).1.dep<=N
 |0,_=>by simp[times,Ds.dep]
 |m+1,n=>by
  have h1:=z n;have h2:=Ed z m (g n).2;simp only[times,Ds.dep];omega
theorem Ee {ns:List Int}{f:Nat->Int->D × Int}{N:Nat}(h1:1<=N)(J:∀z n,(f z n).1.dep<=N):∀(fu z:Nat) (n:Int),(i6 ns f fu z n).1.dep<=N+2 * fu
 |0,_,_=>by simp[i6,D.dep];omega
 |fu+1,z,n=>by
  have a:=J (z / 2) n;have b:=Ed (g:=i6 ns f fu (z / 2)) (N:=N+2 * fu) (λn=>Ee h1 J fu (z / 2) n) (nx ns ((f (z / 2) n).2+1) % ((z:Int)+1)).toNat ((f (z / 2) n).2+1);simp only[i6,D.dep,Ds.dep];omega
theorem Kd.K0 (k:Kd):1<=k.dB:=by cases k <;> simp[Kd.dB]
mutual
theorem tR (ns:List Int):∀(k:Kd) (z:Nat) (n:Int),(val ns k z n).1.dep<=k.dB
 | .num,_,_=>by simp[val,D.dep,Kd.dB]
 | .iF,_,_=>by simp[val,D.dep,Kd.dB]
 | .gI fs,z,n=>by
   have:=wy ns fs z n;simp only[val,D.dep,Kd.dB];omega
 | .rows key J fs,z,n=>by
   have:=Ec (l:=nU key J (ik (gN ns fs (z / 2)) key (nx ns (n+1) % ((z:Int)+1)).toNat [] (n+1)).1) (n:=fs.dB) λm L=>
    qj (R:=λm=>m.dep<=fs.dB) (λn=>wy ns fs (z / 2) n) _ _ _ (λr U=>absurd U (by simp)) m ((nr key J _).mem_iff.mp L)
   simp only[val,D.dep,Kd.dB];omega
 | .tree k,z,n=>by
   have:=Ee (ns:=ns) (f:=val ns k) k.K0 (λz n=>tR ns k z n) 4 z n;simp only[val,Kd.dB];omega
 | .je fs,z,n=>by
   have:=Ef ns fs (nx ns (n+1) % (fs.names.length:Int)).toNat z (n+1);simp only[val,Kd.dB];omega
theorem wy (ns:List Int):∀(fs:Fs) (z:Nat) (n:Int),(gN ns fs z n).1.dep<=fs.dB
 | .nil,_,_=>by simp[gN,Ds.dep]
 | .cons x k r,z,n=>by
   have a:=tR ns k z n;have b:=wy ns r z (val ns k z n).2;simp only[gN,Ds.dep,Fs.dB];omega
theorem Ef (ns:List Int):∀(fs:Fs) (i z:Nat) (n:Int),(jA ns fs i z n).1.dep<=fs.dB+2
 | .nil,_,_,_=>by simp[jA,D.dep]
 | .cons x k r,0,z,n=>by
   have a:=tR ns k z n;simp only[jA,D.dep,Ds.dep,Fs.dB];omega
 | .cons x k r,i+1,z,n=>by
   have a:=Ef ns r i z n;simp only[jA,Fs.dB];omega
end
theorem mod_le {a:Int}{z:Nat}(h:z<8):(a % ((z:Int)+1)).toNat<=z:=by
 have:=Q0n a (show(0:Int)<(z:Int)+1 by omega);have:=Q0m a (show((z:Int)+1)≠0 by omega);omega
theorem wz {g:Int->D × Int}{N:Nat}(z:∀n,n<=(g n).2/\(g n).2<=n+N):∀(m:Nat) (n:Int),n<=(times g m n).2/\(times g m n).2<=n+(m * N:Nat)
 |0,n=>by simp[times]
 |m+1,n=>by
  obtain⟨J,L⟩:=z n;obtain⟨U,Y⟩:=wz z m (g n).2;have e:(m+1) * N=m * N+N:=Q1q m N;simp only[times];rw[e];omega
noncomputable def mH:Nat->Nat
 |0=>0
 |n+1=>8 * mH n+1
theorem qk {ns:List Int}{f:Nat->Int->D × Int}{N:Nat}(J:∀z n,z<8->n<=(f z n).2/\(f z n).2<=n+N):∀(fu z:Nat) (n:Int),z<8->n<=(i6 ns f fu z n).2/\(i6 ns f fu z n).2<=n+((N+1) * mH fu:Nat)
 |0,_,n,_=>by simp[i6,mH]
 |fu+1,z,n,h=>by
  obtain⟨L,U⟩:=J (z / 2) n (by omega);obtain⟨Y,b2⟩:=wz (g:=i6 ns f fu (z / 2)) (N:=(N+1) * mH fu) (λn=>qk J fu (z / 2) n (by omega)) (nx ns ((f (z / 2) n).2+1) % ((z:Int)+1)).toNat ((f (z / 2) n).2+1);have c:=mod_le (a:=nx ns ((f (z / 2) n).2+1)) h;have d:(nx ns ((f (z / 2) n).2+1) % ((z:Int)+1)).toNat * ((N+1) * mH fu)<=8 * ((N+1) * mH fu):=Q19 _ (by omega)
  have e:(N+1) * mH (fu+1)=8 * ((N+1) * mH fu)+(N+1):=by
   show(N+1) * (8 * mH fu+1)=_;rw[Nat.mul_add,Q3c,Nat.mul_one]
  simp only[i6];rw[e];omega
theorem tT {g:Int->Ds × Int}{key:Str}{N:Nat}(J:∀n,n<=(g n).2/\(g n).2<=n+N):∀(m:Nat) (z:List Ds) (n:Int),n<=(ik g key m z n).2/\(ik g key m z n).2<=n+(m * N:Nat)
 |0,_,n=>by simp[ik]
 |m+1,z,n=>by
  obtain⟨Y,a2⟩:=J n;have e:(m+1) * N=m * N+N:=Q1q m N;unfold ik;rw[e];split
  . obtain⟨L,U⟩:=tT (key:=key) J m z (g n).2;omega
  . obtain⟨L,U⟩:=tT (key:=key) J m (z++[(g n).1]) (g n).2;omega
mutual
theorem pq (ns:List Int):∀(k:Kd) (z:Nat) (n:Int),z<8->n<=(val ns k z n).2/\(val ns k z n).2<=n+k.cB
 | .num,_,_,_=>by simp only[val,Kd.cB];omega
 | .iF,_,_,_=>by simp only[val,Kd.cB];omega
 | .gI fs,z,n,h=>by
   have:=rK ns fs z n h;simp only[val,Kd.cB];omega
 | .rows key J fs,z,n,h=>by
   obtain⟨L,U⟩:=tT (g:=gN ns fs (z / 2)) (key:=key) (N:=fs.cB) (λn=>rK ns fs (z / 2) n (by omega)) (nx ns (n+1) % ((z:Int)+1)).toNat [] (n+1);have c:=mod_le (a:=nx ns (n+1)) h;have d:(nx ns (n+1) % ((z:Int)+1)).toNat * fs.cB<=8 * fs.cB:=Q19 _ (by omega);simp only[val,Kd.cB];omega
 | .tree k,z,n,h=>by
   have:=qk (ns:=ns) (f:=val ns k) (N:=k.cB) (λz n h=>pq ns k z n h) 4 z n h;have e:mH 4=585:=rfl;rw[e] at this;simp only[val,Kd.cB];omega
 | .je fs,z,n,h=>by
   have:=Eg ns fs (nx ns (n+1) % (fs.names.length:Int)).toNat z (n+1) h;simp only[val,Kd.cB];omega
theorem rK (ns:List Int):∀(fs:Fs) (z:Nat) (n:Int),z<8->n<=(gN ns fs z n).2/\(gN ns fs z n).2<=n+fs.cB
 | .nil,_,_,_=>by simp[gN,Fs.cB]
 | .cons x k r,z,n,h=>by
   have a:=pq ns k z n h;have b:=rK ns r z (val ns k z n).2 h;simp only[gN,Fs.cB];omega
theorem Eg (ns:List Int):∀(fs:Fs) (i z:Nat) (n:Int),z<8->n<=(jA ns fs i z n).2/\(jA ns fs i z n).2<=n+fs.cB
 | .nil,_,_,_,_=>by simp[jA,Fs.cB]
 | .cons x k r,0,z,n,h=>by
   have a:=pq ns k z n h;simp only[jA,Fs.cB];omega
 | .cons x k r,i+1,z,n,h=>by
   have a:=Eg ns r i z n h;simp only[jA,Fs.cB];omega
end
noncomputable def CB:Nat->Nat
 |0=>1
 |d+1=>1200 * CB d
theorem qm:∀d,1<=CB d
 |0=>Q00 _
 |d+1=>by have:=qm d;show 1<=1200 * CB d;omega
mutual
theorem wA:∀(k:Kd) (d:Nat),k.W->k.dep<=d+1->k.cB<=CB d
 | .num,d,_,_=>qm d
 | .iF,d,_,_=>qm d
 | .gI fs,0,_,h=>by
   simp only[Kd.dep] at h
   cases fs with
   |nil=>simp[Kd.cB,Fs.cB]
   |cons x k r=>have:=k.nq;simp only[Fs.dep] at h;omega
 | .gI fs,d+1,w,h=>by
   unfold Kd.W at w;simp only[Kd.dep] at h;have:=tU fs d w.2.2 (by omega);have e:fs.names.length * CB d<=12 * CB d:=Q19 _ w.2.1;show fs.cB<=1200 * CB d;omega
 | .rows key z fs,0,w,h=>by
   simp only[Kd.dep] at h
   cases fs with
   |nil=>simp[Kd.cB,Fs.cB,CB]
   |cons x k r=>have:=k.nq;simp only[Fs.dep] at h;omega
 | .rows key z fs,d+1,w,h=>by
   unfold Kd.W at w;simp only[Kd.dep] at h;have:=tU fs d w.2.2.1 (by omega);have e:fs.names.length * CB d<=12 * CB d:=Q19 _ w.2.1;have p:=qm d;show 8 * fs.cB+1<=1200 * CB d;omega
 | .tree k,0,w,h=>by
   have:=k.nq;simp only[Kd.dep] at h;omega
 | .tree k,d+1,w,h=>by
   unfold Kd.W at w;simp only[Kd.dep] at h;have:=wA k d w (by omega);have p:=qm d;show(k.cB+1) * 585<=1200 * CB d;omega
 | .je fs,0,w,h=>by
   simp only[Kd.dep] at h
   cases fs with
   |nil=>simp[Kd.cB,Fs.cB,CB]
   |cons x k r=>have:=k.nq;simp only[Fs.dep] at h;omega
 | .je fs,d+1,w,h=>by
   unfold Kd.W at w;simp only[Kd.dep] at h;have:=tU fs d w.2.2.2 (by omega);have e:fs.names.length * CB d<=12 * CB d:=Q19 _ w.2.1;have p:=qm d;show fs.cB+1<=1200 * CB d;omega
theorem tU:∀(fs:Fs) (d:Nat),fs.W->fs.dep<=d+1->fs.cB<=fs.names.length * CB d
 | .nil,d,_,_=>by simp[Fs.cB]
 | .cons x k r,d,w,h=>by
   unfold Fs.W at w;simp only[Fs.dep] at h;have a:=wA k d w.1 (by omega);have b:=tU r d w.2 (by omega);show k.cB+r.cB<=(r.names.length+1) * CB d;rw[Q1q];omega
end
mutual
theorem Eh:∀(k:Kd),k.dB+8<=10 * k.dep
 | .num=>by simp[Kd.dB,Kd.dep]
 | .iF=>by simp[Kd.dB,Kd.dep]
 | .gI fs=>by have:=rL fs;simp only[Kd.dB,Kd.dep];omega
 | .rows _ _ fs=>by have:=rL fs;simp only[Kd.dB,Kd.dep];omega
 | .tree k=>by have:=Eh k;simp only[Kd.dB,Kd.dep];omega
 | .je fs=>by have:=rL fs;simp only[Kd.dB,Kd.dep];omega
theorem rL:∀(fs:Fs),fs.dB<=10 * fs.dep - 8
 | .nil=>by simp[Fs.dB]
 | .cons x k r=>by
   have a:=Eh k;have b:=rL r;simp only[Fs.dB,Fs.dep];omega
end
end Pb
namespace Pb
open L2
mutual
def KA (H:Hp):V->Kd->Prop
 |v,.num=>∃a,v=.ref a/\H a=some (.tup [.str "number"])
 |v,.iF=>∃a,v=.ref a/\H a=some (.tup [.str "word"])
 |v,.gI fs=>∃a b vs,v=.ref a/\H a=some (.tup [.str "record",.ref b])/\H b=some (.tup vs)/\FA H vs fs
 |v,.rows key z fs=>∃a b vs,v=.ref a/\H a=some (.tup [.str "rows",.str key,.str z,.ref b])/\H b=some (.tup vs)/\FA H vs fs
 |v,.tree k=>∃a u,v=.ref a/\H a=some (.tup [.str "tree",u])/\KA H u k
 |v,.je fs=>∃a b vs,v=.ref a/\H a=some (.tup [.str "either",.ref b])/\H b=some (.tup vs)/\FA H vs fs
def FA (H:Hp):List V->Fs->Prop
 |vs,.nil=>vs=[]
 |vs,.cons x k r=>∃c u z,vs=.ref c::z/\H c=some (.tup [.str x,u])/\KA H u k/\FA H z r
end
def Tu (H H':Hp):Prop:=∀a xs,H a=some (.tup xs)->H' a=some (.tup xs)
theorem Tu.trans {H H1 H2:Hp}(a:Tu H H1)(b:Tu H1 H2):Tu H H2:=λc xs h=>b c xs (a c xs h)
theorem Tu.of {H H':Hp}(s:Same H H'):Tu H H':=λa xs h=>s a _ h
theorem Tu.wr {H:Hp}{p:Addr}{o:HO}(h:∀xs,H p≠some (.tup xs)):Tu H (upd H p o):=λa xs e=>by
 rw[fV (λz=>h xs (by rw[<-z];exact e))];exact e
mutual
theorem KA.mono {H H':Hp}(t:Tu H H'):∀{v:V}(k:Kd),KA H v k->KA H' v k
 |v,.num,h=>by
  unfold KA at h ⊢;obtain⟨a,e,q⟩:=h;exact⟨a,e,t _ _ q⟩
 |v,.iF,h=>by
  unfold KA at h ⊢;obtain⟨a,e,q⟩:=h;exact⟨a,e,t _ _ q⟩
 |v,.gI fs,h=>by
  unfold KA at h ⊢;obtain⟨a,b,vs,e,z,J,f⟩:=h;exact⟨a,b,vs,e,t _ _ z,t _ _ J,FA.mono t fs f⟩
 |v,.rows key L fs,h=>by
  unfold KA at h ⊢;obtain⟨a,b,vs,e,z,J,f⟩:=h;exact⟨a,b,vs,e,t _ _ z,t _ _ J,FA.mono t fs f⟩
 |v,.tree k,h=>by
  unfold KA at h ⊢;obtain⟨a,u,e,q,f⟩:=h;exact⟨a,u,e,t _ _ q,KA.mono t k f⟩
 |v,.je fs,h=>by
  unfold KA at h ⊢;obtain⟨a,b,vs,e,z,J,f⟩:=h;exact⟨a,b,vs,e,t _ _ z,t _ _ J,FA.mono t fs f⟩
theorem FA.mono {H H':Hp}(t:Tu H H'):∀{vs:List V}(fs:Fs),FA H vs fs->FA H' vs fs
 |vs,.nil,h=>by
  unfold FA at h ⊢;exact h
 |vs,.cons x k r,h=>by
  unfold FA at h ⊢;obtain⟨c,u,z,e,q,f,g⟩:=h;exact⟨c,u,z,e,t _ _ q,KA.mono t k f,FA.mono t r g⟩
end
theorem FA.len {H:Hp}:∀{vs:List V}(fs:Fs),FA H vs fs->vs.length=fs.names.length
 |vs,.nil,h=>by
  unfold FA at h;rw[h];rfl
 |vs,.cons x k r,h=>by
  unfold FA at h;obtain⟨c,u,z,e,_,_,g⟩:=h;rw[e];show z.length+1=r.names.length+1;rw[FA.len r g]
theorem FA.get {H:Hp}:∀{vs:List V}(fs:Fs) {i:Nat}{v:V},FA H vs fs->vs[i]? =some v->∃c u x k,v=.ref c/\fs.at i=some (x,k)/\H c=some (.tup [.str x,u])/\KA H u k
 |vs,.nil,i,v,h,e=>by
  unfold FA at h;rw[h] at e;simp at e
 |vs,.cons x k r,0,v,h,e=>by
  unfold FA at h;obtain⟨c,u,J,z,q,f,_⟩:=h;rw[z] at e;have e:some (V.ref c)=some v:=e
  cases e;exact⟨c,u,x,k,rfl,rfl,q,f⟩
 |vs,.cons x k r,i+1,v,h,e=>by
  unfold FA at h;obtain⟨c,u,J,z,_,_,g⟩:=h;rw[z] at e;exact FA.get r (i:=i) g (by simpa using e)
theorem FA.at {H:Hp}{vs:List V}{fs:Fs}{i:Nat}{x:Str}{k:Kd}(h:FA H vs fs)(e:fs.at i=some (x,k)):∃c u,vs[i]? =some (.ref c)/\H c=some (.tup [.str x,u])/\KA H u k:=by
 have hl:=FA.len fs h
 have hi:i<fs.names.length:=by
  have:fs.names[i]? =some x:=by rw[Fs.kz,e];rfl
  exact(List.getElem?_eq_some_iff.mp this).1
 have z:vs[i]? =some (vs[i]'(by omega)):=Q03 (by omega);obtain⟨c,u,U,Y,h1,h2,J,L⟩:=FA.get fs h z;rw[e] at h2;cases h2;exact⟨c,u,by rw[z,h1],J,L⟩
theorem FA.snoc {H:Hp}{c:Addr}{u:V}{x:Str}{k:Kd}(hc:H c=some (.tup [.str x,u]))(hk:KA H u k):∀{vs:List V}(fs:Fs),FA H vs fs->FA H (vs++[.ref c]) (fs.snoc x k)
 |vs,.nil,h=>by
  unfold FA at h;subst h;show FA H [.ref c] (.cons x k .nil);unfold FA;exact⟨c,u,[],rfl,hc,hk,by unfold FA;rfl⟩
 |vs,.cons y q r,h=>by
  unfold FA at h;obtain⟨d,w,z,e,h1,h2,J⟩:=h;subst e;show FA H (.ref d::(z++[.ref c])) (.cons y q (r.snoc x k));unfold FA;exact⟨d,w,z++[.ref c],rfl,h1,h2,FA.snoc hc hk r J⟩
mutual
def Own (H:Hp):V->D->List Addr->Prop
 |v,.int z,fp=>v=.int z/\fp=[]
 |v,.str x,fp=>v=.str x/\fp=[]
 |v,.tup xs,fp=>∃a vs,v=.ref a/\H a=some (.tup vs)/\gC H vs xs fp
 |v,.lst xs,fp=>∃a vs J,v=.ref a/\H a=some (.lst vs)/\fp=a::J/\gC H vs xs J
 |v,.dct m,fp=>∃a kvs J,v=.ref a/\H a=some (.dK kvs)/\fp=a::J/\gF H kvs m J
def gC (H:Hp):List V->Ds->List Addr->Prop
 |vs,.nil,fp=>vs=[]/\fp=[]
 |vs,.cons _ d r,fp=>∃v q z J,vs=v::q/\fp=z++J/\Own H v d z/\gC H q r J
def gF (H:Hp):List (Key × V)->Ds->List Addr->Prop
 |kvs,.nil,fp=>kvs=[]/\fp=[]
 |kvs,.cons x d r,fp=>∃v q z J,kvs=(Sum.inr x,v)::q/\fp=z++J/\Own H v d z/\gF H q r J
end
mutual
theorem Own.keep {H H':Hp}(t:Tu H H'):∀{v:V}(d:D) {fp:List Addr},(∀a∈fp,∀o,H a=some o->H' a=some o)->Own H v d fp->Own H' v d fp
 |v,.int z,fp,k,h=>by unfold Own at h ⊢;exact h
 |v,.str x,fp,k,h=>by unfold Own at h ⊢;exact h
 |v,.tup xs,fp,k,h=>by
  unfold Own at h ⊢;obtain⟨a,vs,e,q,f⟩:=h;exact⟨a,vs,e,t _ _ q,gC.keep t xs k f⟩
 |v,.lst xs,fp,k,h=>by
  unfold Own at h ⊢;obtain⟨a,vs,J,e,q,rfl,f⟩:=h;exact⟨a,vs,J,e,k a Q05 _ q,rfl,gC.keep t xs (λb L=>k b (Q0d _ L)) f⟩
 |v,.dct m,fp,k,h=>by
  unfold Own at h ⊢;obtain⟨a,vs,J,e,q,rfl,f⟩:=h;exact⟨a,vs,J,e,k a Q05 _ q,rfl,gF.keep t m (λb L=>k b (Q0d _ L)) f⟩
theorem gC.keep {H H':Hp}(t:Tu H H'):∀{vs:List V}(xs:Ds) {fp:List Addr},(∀a∈fp,∀o,H a=some o->H' a=some o)->gC H vs xs fp->gC H' vs xs fp
 |vs,.nil,fp,k,h=>by unfold gC at h ⊢;exact h
 |vs,.cons x d r,fp,k,h=>by
  unfold gC at h ⊢;obtain⟨v,q,J,L,e,rfl,U,Y⟩:=h;exact⟨v,q,J,L,e,rfl,Own.keep t d (λb z=>k b (Q0t _ z)) U,gC.keep t r (λb z=>k b (Q09 _ z)) Y⟩
theorem gF.keep {H H':Hp}(t:Tu H H'):∀{kvs:List (Key × V)}(m:Ds) {fp:List Addr},(∀a∈fp,∀o,H a=some o->H' a=some o)->gF H kvs m fp->gF H' kvs m fp
 |kvs,.nil,fp,k,h=>by unfold gF at h ⊢;exact h
 |kvs,.cons x d r,fp,k,h=>by
  unfold gF at h ⊢;obtain⟨v,q,J,L,e,rfl,U,Y⟩:=h;exact⟨v,q,J,L,e,rfl,Own.keep t d (λb z=>k b (Q0t _ z)) U,gF.keep t r (λb z=>k b (Q09 _ z)) Y⟩
end
theorem Own.same {H H':Hp}{v:V}{d:D}{fp:List Addr}(s:Same H H')(h:Own H v d fp):Own H' v d fp:=h.keep (Tu.of s) d λa _ o e=>s a o e
theorem gC.same {H H':Hp}{v:List V}{d:Ds}{fp:List Addr}(s:Same H H')(h:gC H v d fp):gC H' v d fp:=h.keep (Tu.of s) d λa _ o e=>s a o e
theorem gF.same {H H':Hp}{v:List (Key × V)}{d:Ds}{fp:List Addr}(s:Same H H')(h:gF H v d fp):gF H' v d fp:=h.keep (Tu.of s) d λa _ o e=>s a o e
def Mu (H:Hp) (a:Addr):Prop:=(∃xs,H a=some (.lst xs))\/∃kvs,H a=some (.dK kvs)
mutual
theorem Own.alive {H:Hp}:∀{v:V}(d:D) {fp:List Addr},Own H v d fp->∀a∈fp,Mu H a
 |v,.int z,fp,h=>by unfold Own at h;rw[h.2];intro a J;exact absurd J (by simp)
 |v,.str x,fp,h=>by unfold Own at h;rw[h.2];intro a J;exact absurd J (by simp)
 |v,.tup xs,fp,h=>by
  unfold Own at h;obtain⟨a,vs,e,q,f⟩:=h;exact gC.alive xs f
 |v,.lst xs,fp,h=>by
  unfold Own at h;obtain⟨a,vs,U,e,q,rfl,f⟩:=h;intro b L;rcases List.mem_cons.mp L with z|z
  . rw[z];exact .inl ⟨_,q⟩
  . exact gC.alive xs f b z
 |v,.dct m,fp,h=>by
  unfold Own at h;obtain⟨a,vs,U,e,q,rfl,f⟩:=h;intro b L;rcases List.mem_cons.mp L with z|z
  . rw[z];exact .inr ⟨_,q⟩
  . exact gF.alive m f b z
theorem gC.alive {H:Hp}:∀{vs:List V}(xs:Ds) {fp:List Addr},gC H vs xs fp->∀a∈fp,Mu H a
 |vs,.nil,fp,h=>by unfold gC at h;rw[h.2];intro a J;exact absurd J (by simp)
 |vs,.cons x d r,fp,h=>by
  unfold gC at h;obtain⟨v,q,f1,f2,e,rfl,L,U⟩:=h;intro b Y;rcases List.mem_append.mp Y with z|z
  . exact Own.alive d L b z
  . exact gC.alive r U b z
theorem gF.alive {H:Hp}:∀{kvs:List (Key × V)}(m:Ds) {fp:List Addr},gF H kvs m fp->∀a∈fp,Mu H a
 |kvs,.nil,fp,h=>by unfold gF at h;rw[h.2];intro a J;exact absurd J (by simp)
 |kvs,.cons x d r,fp,h=>by
  unfold gF at h;obtain⟨v,q,f1,f2,e,rfl,L,U⟩:=h;intro b Y;rcases List.mem_append.mp Y with z|z
  . exact Own.alive d L b z
  . exact gF.alive r U b z
end
theorem Mu.ex {H:Hp}{a:Addr}(h:Mu H a):∃o,H a=some o:=by
 rcases h with⟨_,h⟩|⟨_,h⟩ <;> exact⟨_,h⟩
theorem Mu.wB {H:Hp}{a:Addr}(h:Mu H a)(xs:List V):H a≠some (.tup xs):=λz=>by
 rcases h with⟨_,h⟩|⟨_,h⟩ <;> rw[h] at z <;> cases z
noncomputable def Ds.len:Ds->Nat
 | .nil=>0
 | .cons _ _ r=>r.len+1
noncomputable def Ds.names:Ds->List Str
 | .nil=>[]
 | .cons x _ r=>x::r.names
noncomputable def Ds.at:Ds->Nat->Option D
 | .nil,_=>none
 | .cons _ d _,0=>some d
 | .cons _ _ r,i+1=>r.at i
noncomputable def Ds.snoc:Ds->Str->D->Ds
 | .nil,x,d=>.cons x d .nil
 | .cons y e r,x,d=>.cons y e (r.snoc x d)
theorem Ds.pd:∀{xs:Ds}{i:Nat}{d:D},xs.at i=some d->d.dep<=xs.dep
 | .nil,_,_,h=>by cases h
 | .cons _ d r,0,_,h=>by cases h;exact Q1x _ _
 | .cons _ d r,i+1,_,h=>Q0b (Ds.pd (xs:=r) (i:=i) h) (Q1y _ _)
theorem Ds.tV:∀{xs:Ds}{x:Str}{d:D},xs.get x=some d->d.dep<=xs.dep
 | .nil,_,_,h=>by cases h
 | .cons y e r,x,d,h=>by
   have h:(if x=y then some e else r.get x)=some d:=h;by_cases c:x=y
   . rw[if_pos c] at h;cases h;exact Q1x _ _
   . rw[if_neg c] at h;exact Q0b (Ds.tV h) (Q1y _ _)
theorem gC.len {H:Hp}:∀{vs:List V}(xs:Ds) {fp:List Addr},gC H vs xs fp->vs.length=xs.len
 |vs,.nil,fp,h=>by unfold gC at h;rw[h.1];rfl
 |vs,.cons x d r,fp,h=>by
  unfold gC at h;obtain⟨v,q,J,L,rfl,rfl,U,z⟩:=h;show q.length+1=r.len+1;rw[gC.len r z]
theorem gC.get {H:Hp}:∀{vs:List V}(xs:Ds) {fp:List Addr}{i:Nat}{v:V},gC H vs xs fp->vs[i]? =some v->∃d f,xs.at i=some d/\Own H v d f/\∀a∈f,a∈fp
 |vs,.nil,fp,i,v,h,e=>by
  unfold gC at h;rw[h.1] at e;simp at e
 |vs,.cons x d r,fp,0,v,h,e=>by
  unfold gC at h;obtain⟨w,q,J,Y,rfl,rfl,L,U⟩:=h;have e:some w=some v:=e
  cases e;exact⟨d,J,rfl,L,λa z=>Q0t _ z⟩
 |vs,.cons x d r,fp,i+1,v,h,e=>by
  unfold gC at h;obtain⟨w,q,J,Y,rfl,rfl,L,U⟩:=h;obtain⟨d',f,h1,h2,h3⟩:=gC.get r (i:=i) U (by simpa using e);exact⟨d',f,h1,h2,λa z=>Q09 _ (h3 a z)⟩
theorem gC.snoc {H:Hp}{v:V}{d:D}{g:List Addr}{y:Str}(z:Own H v d g):∀{vs:List V}(xs:Ds) {fp:List Addr},gC H vs xs fp->gC H (vs++[v]) (xs.snoc y d) (fp++g)
 |vs,.nil,fp,h=>by
  unfold gC at h;obtain⟨rfl,rfl⟩:=h;show gC H [v] (.cons y d .nil) g;unfold gC;exact⟨v,[],g,[],rfl,by simp,z,by unfold gC;exact⟨rfl,rfl⟩⟩
 |vs,.cons x e r,fp,h=>by
  unfold gC at h;obtain⟨w,q,J,L,rfl,rfl,U,Y⟩:=h;show gC H (w::(q++[v])) (.cons x e (r.snoc y d)) (J++L++g);unfold gC;exact⟨w,q++[v],J,L++g,rfl,by rw[Q1a],U,gC.snoc z r Y⟩
theorem gF.snoc {H:Hp}{v:V}{d:D}{g:List Addr}{y:Str}(z:Own H v d g):∀{kvs:List (Key × V)}(xs:Ds) {fp:List Addr},gF H kvs xs fp->gF H (kvs++[(Sum.inr y,v)]) (xs.snoc y d) (fp++g)
 |kvs,.nil,fp,h=>by
  unfold gF at h;obtain⟨rfl,rfl⟩:=h;show gF H [(Sum.inr y,v)] (.cons y d .nil) g;unfold gF;exact⟨v,[],g,[],rfl,by simp,z,by unfold gF;exact⟨rfl,rfl⟩⟩
 |kvs,.cons x e r,fp,h=>by
  unfold gF at h;obtain⟨w,q,J,L,rfl,rfl,U,Y⟩:=h;show gF H ((Sum.inr x,w)::(q++[(Sum.inr y,v)])) (.cons x e (r.snoc y d)) (J++L++g);unfold gF;exact⟨w,q++[(Sum.inr y,v)],J,L++g,rfl,by rw[Q1a],U,gF.snoc z r Y⟩
theorem gF.keys {H:Hp}:∀{kvs:List (Key × V)}(m:Ds) {fp:List Addr},gF H kvs m fp->kvs.map (·.1)=m.names.map Sum.inr
 |kvs,.nil,fp,h=>by unfold gF at h;rw[h.1];rfl
 |kvs,.cons x d r,fp,h=>by
  unfold gF at h;obtain⟨v,q,J,L,rfl,rfl,U,z⟩:=h;show Sum.inr x::q.map (·.1)=Sum.inr x::r.names.map Sum.inr;rw[gF.keys r z]
theorem gF.len {H:Hp}{kvs:List (Key × V)}{m:Ds}{fp:List Addr}(h:gF H kvs m fp):kvs.length=m.names.length:=by
 have:=congrArg List.length (gF.keys m h);simpa using this
theorem gF.val {H:Hp}:∀{kvs:List (Key × V)}(m:Ds) {fp:List Addr}{x:Str}{d:D},gF H kvs m fp->m.get x=some d->∃v f,gO kvs (Sum.inr x)=some v/\Own H v d f/\∀a∈f,a∈fp
 |kvs,.nil,fp,x,d,h,e=>by cases e
 |kvs,.cons y e r,fp,x,d,h,J=>by
  unfold gF at h;obtain⟨v,q,U,f2,rfl,rfl,Y,g2⟩:=h;have J:(if x=y then some e else r.get x)=some d:=J;by_cases c:x=y
  . rw[if_pos c] at J
    cases J;exact⟨v,U,k7 (by rw[c]),Y,λa L=>Q0t _ L⟩
  . rw[if_neg c] at J;obtain⟨w,f,h1,h2,h3⟩:=gF.val r g2 J;exact⟨w,f,by rw[k8 (λz=>c (Sum.inr.inj z).symm)];exact h1,h2,λa L=>Q09 _ (h3 a L)⟩
theorem ja.names:∀{fs:Fs}{m:Ds},ja fs m->m.names=fs.names
 | .nil,m,h=>by unfold ja at h;rw[h];rfl
 | .cons x k r,m,h=>by
   unfold ja at h;obtain⟨d,q,rfl,_,g⟩:=h;show x::q.names=x::r.names;rw[ja.names g]
theorem gF.K1 {H:Hp}{kvs:List (Key × V)}{m:Ds}{fp:List Addr}{x:Str}(h:gF H kvs m fp)(z:x ∉ m.names):gO kvs (Sum.inr x)=none:=by
 cases e:gO kvs (Sum.inr x) with
 |none=>rfl
 |some v=>
  have:=Dp e;rw[gF.keys m h] at this;obtain⟨y,J,L⟩:=List.mem_map.mp this
  cases L;exact absurd J z
theorem tW {kvs:List (Key × V)}{k:Key}{v:V}(h:gO kvs k=none):putK kvs k v=kvs++[(k,v)]:=by
 unfold putK;rw[if_neg];rw[mE,h];simp
def Kp (S:Addr->Prop) (H H':Hp):Prop:=∀c o,¬S c->H c=some o->H' c=some o
theorem Kp.refl (S:Addr->Prop)(H:Hp):Kp S H H:=λ_ _ _ h=>h
theorem Kp.trans {S:Addr->Prop}{H H1 H2:Hp}(x:Kp S H H1)(y:Kp S H1 H2):Kp S H H2:=λc o n h=>y c o n (x c o n h)
theorem Kp.of {S:Addr->Prop}{H H':Hp}(s:Same H H'):Kp S H H':=λc o _ h=>s c o h
theorem Kp.wC {S:Addr->Prop}{H H':Hp}{a:Addr}(x:Kp S H H')(z:¬S a)(h:H' a=none):H a=none:=by
 cases e:H a with
 |none=>rfl
 |some o=>rw[x a o z e] at h;cases h
inductive A3 {α β γ:Type} (R:α->β->γ->Prop):List α->List β->List γ->Prop
 |nil:A3 R [] [] []
 |cons {a:α} {b:β} {c:γ} {as:List α} {bs:List β} {cs:List γ}:R a b c->A3 R as bs cs->A3 R (a::as) (b::bs) (c::cs)
theorem A3.snoc {α z J:Type}{R:α->z->J->Prop}{a:α}{b:z}{c:J}(h:R a b c):∀{as:List α}{bs:List z}{L:List J},A3 R as bs L->A3 R (as++[a]) (bs++[b]) (L++[c])
 |_,_,_,.nil=>.cons h .nil
 |_,_,_,.cons x r=>.cons x (A3.snoc h r)
theorem A3.len {α J L:Type}{R:α->J->L->Prop}:∀{as:List α}{bs:List J}{z:List L},A3 R as bs z->as.length=bs.length/\as.length=z.length
 |_,_,_,.nil=>⟨rfl,rfl⟩
 |_,_,_,.cons x r=>by
  obtain⟨h1,h2⟩:=A3.len r;simp only[Q0j];omega
theorem A3.at {α z J:Type}{R:α->z->J->Prop}{a0:α}{b0:z}{c0:J}:∀{as:List α}{bs:List z}{L:List J},A3 R as bs L->∀i,i<as.length->R (as.getD i a0) (bs.getD i b0) (L.getD i c0)
 |_,_,_,.nil,i,h=>absurd h (by simp)
 |_,_,_,.cons x r,0,h=>x
 |_,_,_,.cons x r,i+1,h=>by
  have:=A3.at (a0:=a0) (b0:=b0) (c0:=c0) r i (by simpa using h);simpa using this
theorem A3.pick {α z J:Type}{R:α->z->J->Prop}{a0:α}{b0:z}{c0:J}{as:List α}{bs:List z}{L:List J}(h:A3 R as bs L):∀p:List Nat,(∀i∈p,i<as.length)->A3 R (p.map λi=>as.getD i a0) (p.map λi=>bs.getD i b0) (p.map λi=>L.getD i c0)
 |[],_=>.nil
 |i::p,hp=>.cons (h.at i (hp i Q05)) (A3.pick h p λj U=>hp j (Q0d _ U))
theorem K2 {α:Type}(a0:α):∀l:List α,((List.range l.length).map λi=>l.getD i a0)=l:=λl=>by
 apply Q2j
 . simp
 . intro i h1 h2;simp[h2]
theorem Ej {α:Type}(a0:α){l:List α}{p:List Nat}(h:p.Perm (List.range l.length)):(p.map λi=>l.getD i a0).Perm l:=by
 have:=h.map (λi=>l.getD i a0)
 rwa [K2] at this
theorem K3 {α:Type}{z J:List (List α)}(h:z.Perm J):z.flatten.Perm J.flatten:=by
 induction h with
 |nil=>exact List.Perm.refl _
 |cons x _ L=>exact L.append_left x
 |swap x y l=>
  show(y++(x++l.flatten)).Perm (x++(y++l.flatten));rw[<-Q1a,<-Q1a];exact List.perm_append_comm.append_right _
 |trans _ _ a b=>exact a.trans b
abbrev i7 (H:Hp):List V->List Ds->List (List Addr)->Prop:=A3 λv m f=>Own H v (.dct m) f
theorem i7.own {H:Hp}:∀{vs:List V}{z:List Ds}{fs:List (List Addr)},i7 H vs z fs->gC H vs (ji z) fs.flatten
 |_,_,_,.nil=>by unfold ji gC;exact⟨rfl,rfl⟩
 |_,_,_,.cons h r=>by
  unfold ji gC;exact⟨_,_,_,_,rfl,rfl,h,i7.own r⟩
theorem gC.rows {H:Hp}:∀{z:List Ds}{vs:List V}{fp:List Addr},gC H vs (ji z) fp->∃fs,i7 H vs z fs/\fp=fs.flatten
 |[],vs,fp,h=>by
  unfold ji gC at h;obtain⟨rfl,rfl⟩:=h;exact⟨[],.nil,rfl⟩
 |m::z,vs,fp,h=>by
  unfold ji gC at h;obtain⟨v,q,J,Y,rfl,rfl,L,U⟩:=h;obtain⟨fs,h1,rfl⟩:=gC.rows U;exact⟨J::fs,.cons L h1,rfl⟩
noncomputable def lt (z:Int):Str:=⟨#[97+z.toNat]⟩
theorem tX (z:Int):(lt z).length=1:=rfl
theorem K4:∀j:Nat,j<26->(("abcdefghijklmnopqrstuvwxyz":Str)).cps.toList[j]? =some (97+j):=by decide +kernel
theorem K5:(("abcdefghijklmnopqrstuvwxyz":Str)).cps.toList.length=26:=by decide +kernel
theorem qo {z:Int}(J:0<=z)(h1:z<26):jo (("abcdefghijklmnopqrstuvwxyz":Str)).cps.toList z=some (97+z.toNat):=by
 unfold jo m4;rw[K5,if_pos J,if_pos (show z<((26:Nat):Int) by omega)];exact K4 z.toNat (by omega)
theorem K6 {z:Int}(J:0<=z)(h1:z<6):jo [V.int 1,.int 3,.int 5,.int 7,.int 9,.int 11] z=some (.int (2 * z+1)):=by
 obtain⟨n,rfl⟩:=Int.eq_ofNat_of_zero_le J;have h:=Int.ofNat_lt.mp h1;clear J h1;revert n
 decide
noncomputable def nameAt (m:Int) (k:Nat):Str:=
 if m / 12168 % 4=0 then Txt.mul (lt (m / 6 % 26)) ((k:Int)+1)
 else Txt.slice (lt (m / 6 % 26)++lt (m / 156 % 26)) none (some (m / 4056 % 3))++lt ((m / 156+(k:Int) * (2 * (m % 6)+1)) % 26)++Txt.slice (lt (m / 6 % 26)++lt (m / 156 % 26)) (some (m / 4056 % 3)) none
theorem foldl_size (a:Array Nat):∀(n:Nat) (b:Array Nat),((List.replicate n a).foldl (· ++ ·) b).size=b.size+n * a.size
 |0,b=>by simp
 |n+1,b=>by
  rw[Q3d,Q1z,foldl_size a n,Q36,Q1q];omega
theorem El {x:Str}(z:x.length=1)(k:Nat):(Txt.mul x ((k:Int)+1)).length=k+1:=by
 have J:x.cps.size=1:=z;unfold Txt.mul;rw[if_neg (by omega)];by_cases h:k=0
 . subst h;rw[if_pos (by simp)];exact z
 . rw[if_neg]
   . show((List.replicate ((k:Int)+1).toNat x.cps).foldl (· ++ ·) #[]).size=k+1;rw[foldl_size,J,show((k:Int)+1).toNat=k+1 by omega];simp
   . rw[z];simp;omega
theorem wD (x y:Str):(x++y).cps.toList=x.cps.toList++y.cps.toList:=by
 show(x.cps++y.cps).toList=_;simp
theorem Em (x y:Str):(x++y).length=x.length+y.length:=by
 show(x.cps++y.cps).size=x.cps.size+y.cps.size;simp
theorem K7 {p q:Str}{z w:Int}(h:p++lt z++q=p++lt w++q):z.toNat=w.toNat:=by
 have e:=congrArg (λs:Str=>s.cps.toList) h;simp only[wD] at e;have e:=List.append_cancel_left (List.append_cancel_right e);have e:[97+z.toNat]=[97+w.toNat]:=e;have e:=List.cons.inj e |>.1;omega
theorem K8:∀s:Nat,s<6->∀i,i<12->∀j,j<12->(i * (2 * s+1)) % 26=(j * (2 * s+1)) % 26->i=j:=by decide +kernel
theorem K9 {m:Int}{i j:Nat}(U:0<=m)(hi:i<12)(J:j<12)(h:nameAt m i=nameAt m j):i=j:=by
 unfold nameAt at h;by_cases z:m / 12168 % 4=0
 . rw[if_pos z,if_pos z] at h;have e:=congrArg Str.length h;rw[El (tX _),El (tX _)] at e;omega
 . rw[if_neg z,if_neg z] at h;have e:=K7 h;obtain⟨s,L⟩:∃s:Nat,m % 6=s:=⟨(m % 6).toNat,by omega⟩;rw[L] at e;have e:((m / 156+(i * (2 * s+1):Nat)) % 26).toNat=((m / 156+(j * (2 * s+1):Nat)) % 26).toNat:=e;generalize m / 156=a at e;exact K8 s (by omega) i hi j J (by omega)
theorem K_ {f:Nat->Str}:∀{n:Nat},(∀i j,i<n->j<n->f i=f j->i=j)->((List.range n).map f).Nodup:=by
 intro n h;refine List.pairwise_map.mpr (List.Pairwise.imp_of_mem (λ{a b} J L z=>?_) (Q3e (n:=n)));intro e;exact z (h a b (List.mem_range.mp J) (List.mem_range.mp L) e)
theorem names_nodup {m:Int}{n:Nat}(z:0<=m)(J:n<=12):((List.range n).map (nameAt m)).Nodup:=
 K_ λi j hi L e=>K9 z (by omega) (by omega) e
theorem La {x:Str}(J:x.length=1){k:Nat}(hk:k<12)(hl:∀n,n<=1000->Builtin.Str.tooLong n=false):MulOk x ((k:Int)+1):=by
 refine⟨?_,λ_ z=>?_,λ_ _=>?_⟩
 . have L:decide (((k:Int)+1)< -(2 ^ 63:Int))=false:=decide_eq_false (by omega);have U:decide (((k:Int)+1) ≥ 2 ^ 63)=false:=decide_eq_false (by omega);rw[L,U];rfl
 . rw[J];clear hl J z;revert k
   decide
 . rw[J];exact hl _ (by omega)
end Pb
namespace Pb
open L2 PyProof.Rows Spec StrLaws Builtin Builtin.Str
def ll (H:Hp) (u:V) (pl:Bool):Prop:=∃a f rest,u=.ref a/\H a=some (.tup (.str f::rest))/\(pl=true->rest=[]/\(f="number"\/f="word"))/\(pl=false->f≠"number"/\f≠"word")/\∀v∈rest,(∃s,v=.str s)\/∃c,v=.ref c
theorem ll.mono {H H':Hp}(t:Tu H H'){u:V}{pl:Bool}(h:ll H u pl):ll H' u pl:=by
 obtain⟨a,f,rest,e,h1,h2⟩:=h;exact⟨a,f,rest,e,t _ _ h1,h2⟩
theorem ll.of {H:Hp}{u:V}:∀{k:Kd},KA H u k->∃pl,ll H u pl
 | .num,h=>by
   unfold KA at h;obtain⟨a,e,q⟩:=h;exact⟨true,a,_,_,e,q,λ_=>⟨rfl,.inl rfl⟩,(λz=>by cases z),λv J=>nomatch J⟩
 | .iF,h=>by
   unfold KA at h;obtain⟨a,e,q⟩:=h;exact⟨true,a,_,_,e,q,λ_=>⟨rfl,.inr rfl⟩,(λz=>by cases z),λv J=>nomatch J⟩
 | .gI fs,h=>by
   unfold KA at h;obtain⟨a,b,vs,e,q,_⟩:=h;exact⟨false,a,_,_,e,q,(λz=>by cases z),(λ_=>by decide),λv J=>by rw[List.mem_singleton.mp J];exact .inr ⟨_,rfl⟩⟩
 | .rows key U fs,h=>by
   unfold KA at h;obtain⟨a,b,vs,e,q,_⟩:=h;refine⟨false,a,_,_,e,q,(λz=>by cases z),(λ_=>by decide),λv J=>?_⟩;simp only[Q0x,Q2,or_false] at J;rcases J with z|z|z <;> subst z
   . exact .inl ⟨_,rfl⟩
   . exact .inl ⟨_,rfl⟩
   . exact .inr ⟨_,rfl⟩
 | .tree k,h=>by
   unfold KA at h;obtain⟨a,b,e,q,hk⟩:=h;obtain⟨_,c,_,_,L,_⟩:=ll.of hk;exact⟨false,a,_,_,e,q,(λz=>by cases z),(λ_=>by decide),λv J=>by rw[List.mem_singleton.mp J];exact .inr ⟨c,L⟩⟩
 | .je fs,h=>by
   unfold KA at h;obtain⟨a,b,vs,e,q,_⟩:=h;exact⟨false,a,_,_,e,q,(λz=>by cases z),(λ_=>by decide),λv J=>by rw[List.mem_singleton.mp J];exact .inr ⟨_,rfl⟩⟩
noncomputable abbrev Qd:=V × Str × Bool
def tY (H:Hp) (q:Qd):Prop:=∃c u,q.1=.ref c/\H c=some (.tup [.str q.2.1,u])/\ll H u q.2.2
def jf (H:Hp) (z:List Qd):Prop:=∀q∈z,tY H q
noncomputable def nms (z:List Qd):List Str:=z.map (·.2.1)
noncomputable def gm (z:List Qd):List V:=z.map (·.1)
theorem tY.mono {H H':Hp}(t:Tu H H'){q:Qd}(h:tY H q):tY H' q:=by
 obtain⟨c,u,e,h1,h2⟩:=h;exact⟨c,u,e,t _ _ h1,h2.mono t⟩
theorem jf.mono {H H':Hp}(t:Tu H H'){z:List Qd}(h:jf H z):jf H' z:=λq J=>(h q J).mono t
theorem jf.of {H:Hp}:∀{ys:List V}{fs:Fs},FA H ys fs->∃z,gm z=ys/\nms z=fs.names/\jf H z
 |ys,.nil,h=>by
  unfold FA at h;subst h;exact⟨[],rfl,rfl,λq J=>nomatch J⟩
 |ys,.cons x k r,h=>by
  unfold FA at h;obtain⟨c,u,vr,rfl,q,hk,L⟩:=h;obtain⟨z,U,Y,hp⟩:=jf.of L;obtain⟨pl,hs⟩:=ll.of hk;refine⟨(.ref c,x,pl)::z,by show _::gm z=_;rw[U],by show x::nms z=_;rw[Y];rfl,λq' J=>?_⟩;rcases List.mem_cons.mp J with e|e
  . subst e;exact⟨c,u,rfl,q,hs⟩
  . exact hp q' e
def sle (x y:Str):Prop:=lh (gX x) (gX y)
def slt (x y:Str):Prop:=hZ (gX x) (gX y)=true
theorem En (x y:Str)(h:slt x y):¬slt y x:=λh2=>by
 have z:=qd _ _ _ h h2;rw[tN] at z
 cases z
theorem Lb {x y:Str}(h:gX x=gX y):x=y:=Sum.inr.inj (List.cons.inj h).1
theorem wF {x y:Str}(h:sle x y):slt x y\/x=y:=by
 rcases rB (gX x) (gX y) with q|q|q
 . exact .inl q
 . exact .inr (Lb q)
 . have h:hZ (gX y) (gX x)=false:=h;rw[h] at q;cases q
theorem Eo {x y:Str}(h:slt x y):sle x y:=by
 unfold sle lh
 cases e:hZ (gX y) (gX x) with
 |false=>rfl
 |true=>exact absurd e (En _ _ h)
theorem Ep {x y z:Str}(h1:sle x y)(h2:sle y z):sle x z:=by
 rcases wF h1 with a|a
 . rcases wF h2 with b|b
   . exact Eo (qd _ _ _ a b)
   . rw[<-b];exact h1
 . rw[a];exact h2
theorem Ld (x y:Str):ltCps x.cps.toList y.cps.toList=hZ (gX x) (gX y):=by
 rw[D4];exact ltCps_eq _ _
theorem Er:∀{ss:List Str},sortedS ss=true->ss.Pairwise sle
 |[],_=>.nil
 |[x],_=>Q1w _ _
 |x::y::r,h=>by
  have h:(!ltCps y.cps.toList x.cps.toList && risingS y r)=true:=h;obtain⟨h1,h2⟩:=Bool.and_eq_true_iff.mp h;have L:(y::r).Pairwise sle:=Er (ss:=y::r) h2
  have J:sle x y:=by
   rw[Ld] at h1;unfold sle lh
   cases e:hZ (gX y) (gX x) with
   |false=>rfl
   |true=>rw[e] at h1;cases h1
  refine .cons (λz U=>?_) L;rcases List.mem_cons.mp U with e|e
  . rw[e];exact J
  . exact Ep J ((List.pairwise_cons.mp L).1 z e)
theorem Es {J:List Qd}(h:(nms J).Pairwise sle)(L:(nms J).Nodup):J.Pairwise λa b=>slt a.2.1 b.2.1:=by
 have h1:=List.pairwise_map.mp h;have h2:J.Pairwise λa b=>a.2.1≠b.2.1:=List.pairwise_map.mp L;refine(h1.and h2).imp λ{a b} ⟨x,y⟩=>?_;rcases wF x with z|z
 . exact z
 . exact absurd z y
theorem Et {α:Type}{R:α->α->Prop}(as:∀a b,R a b->¬R b a):∀{J z:List α},J.Perm z->J.Pairwise R->z.Pairwise R->J=z
 |[],z,p,_,_=>by rw[p.nil_eq]
 |a::r,[],p,_,_=>absurd p.length_eq (by simp)
 |a::r,b::q,p,h1,h2=>by
  obtain⟨Y,a2⟩:=List.pairwise_cons.mp h1;obtain⟨b1,b2⟩:=List.pairwise_cons.mp h2
  have U:a=b:=by
   have ha:a∈b::q:=p.mem_iff.mp Q05;have hb:b∈a::r:=p.mem_iff.mpr Q05;rcases List.mem_cons.mp ha with e|e
   . exact e
   . rcases List.mem_cons.mp hb with L|L
     . exact L.symm
     . exact absurd (Y b L) (as b a (b1 a e))
  subst U;rw[Et as ((Q3b a).mp p) a2 b2]
theorem Eu {J z:List Qd}(p:J.Perm z)(h1:(nms J).Pairwise sle)(h2:(nms z).Pairwise sle)(L:(nms z).Nodup):J=z:=
 Et (λa b=>En _ _) p (Es h1 ((p.map _).nodup_iff.mpr L)) (Es h2 L)
def rM (x:Str):Prop:=x.length<=12/\(∀c∈x.cps.toList,c<128)/\x≠"yx"/\x≠""/\x≠"xyxyxy"
theorem foldl_rep (c:Nat):∀(n:Nat) (b:Array Nat),((List.replicate n #[c]).foldl (· ++ ·) b).toList=b.toList++List.replicate n c
 |0,b=>by simp
 |n+1,b=>by
  rw[Q3d,Q1z,foldl_rep c n,Q3f,Q1a];rfl
theorem rN (z:Int)(k:Nat):(Txt.mul (lt z) ((k:Int)+1)).cps.toList=List.replicate (k+1) (97+z.toNat):=by
 unfold Txt.mul;rw[if_neg (by omega)];by_cases h:(((k:Int)+1 == 1) || (lt z).length == 0)=true
 . rw[if_pos h]
   have hk:k=0:=by
    rw[tX] at h;simp at h;omega
   subst hk;rfl
 . rw[if_neg h];have e:((k:Int)+1).toNat=k+1:=by omega
   rw[e];show((List.replicate (k+1) #[97+z.toNat]).foldl (· ++ ·) #[]).toList=_;rw[foldl_rep];rfl
theorem Le (a b:Int){c:Int}(U:0<=c)(h1:c<3):∃z J:List Nat,(Txt.slice (lt a++lt b) none (some c)).cps.toList=z/\(Txt.slice (lt a++lt b) (some c) none).cps.toList=J/\z++J=[97+a.toNat,97+b.toNat]:=by
 have L:(lt a++lt b)=⟨#[97+a.toNat,97+b.toNat]⟩:=rfl;rw[L];have:c=0\/c=1\/c=2:=by omega
 rcases this with rfl|rfl|rfl
 . refine⟨[],[97+a.toNat,97+b.toNat],rfl,?_,rfl⟩;have e:strSliceIndices (some 0) none 1 2=[0,1]:=by decide +kernel
   unfold Txt.slice;rw[show(⟨#[97+a.toNat,97+b.toNat]⟩:Str).length=2 from rfl,e];rfl
 . refine⟨[97+a.toNat],[97+b.toNat],rfl,?_,rfl⟩;have e:strSliceIndices (some 1) none 1 2=[1]:=by decide +kernel
   unfold Txt.slice;rw[show(⟨#[97+a.toNat,97+b.toNat]⟩:Str).length=2 from rfl,e];rfl
 . exact⟨[97+a.toNat,97+b.toNat],[],rfl,rfl,rfl⟩
theorem Ew:("yx":Str).cps.toList=[121,120]:=by decide +kernel
theorem wG:("xyxyxy":Str).cps.toList=[120,121,120,121,120,121]:=by decide +kernel
theorem Lf {m:Int}{i:Nat}(hi:i<12):rM (nameAt m i):=by
 have l1:(m / 6 % 26).toNat<26:=by omega
 have l2:(m / 156 % 26).toNat<26:=by omega
 have l3:((m / 156+(i:Int) * (2 * (m % 6)+1)) % 26).toNat<26:=by
  have:=Q0n (m / 156+(i:Int) * (2 * (m % 6)+1)) (show(0:Int)<26 by decide);have:=Q0m (m / 156+(i:Int) * (2 * (m % 6)+1)) (show(26:Int)≠0 by decide);omega
 have len:∀x:Str,x.length=x.cps.toList.length:=λx=>by rw[Q1c];rfl
 unfold nameAt;by_cases h:m / 12168 % 4=0
 . rw[if_pos h];refine⟨?_,λc hc=>?_,λe=>?_,λe=>?_,λe=>?_⟩
   . rw[len,rN,Q1e];omega
   . rw[rN] at hc;rw[(List.mem_replicate.mp hc).2];omega
   . have:=congrArg (λx:Str=>x.cps.toList) e;have this:(Txt.mul (lt (m / 6 % 26)) ((i:Int)+1)).cps.toList=("yx":Str).cps.toList:=this;rw[rN,Ew] at this
     have L:∀c∈([121,120]:List Nat),c=97+(m / 6 % 26).toNat:=λc hc=>by
      rw[<-this] at hc;exact(List.mem_replicate.mp hc).2
     have a:=L 121 (by simp);have b:=L 120 (by simp);omega
   . have:=congrArg (λx:Str=>x.cps.toList.length) e;have this:(Txt.mul (lt (m / 6 % 26)) ((i:Int)+1)).cps.toList.length=("":Str).cps.toList.length:=this;rw[rN,Q1e] at this;have:i+1=0:=this;omega
   . have:=congrArg (λx:Str=>x.cps.toList) e;have this:(Txt.mul (lt (m / 6 % 26)) ((i:Int)+1)).cps.toList=("xyxyxy":Str).cps.toList:=this;rw[rN,wG] at this
     have L:∀c∈([120,121,120,121,120,121]:List Nat),c=97+(m / 6 % 26).toNat:=λc hc=>by
      rw[<-this] at hc;exact(List.mem_replicate.mp hc).2
     have a:=L 121 (by simp);have b:=L 120 (by simp);omega
 . rw[if_neg h];obtain⟨J,p2,Y,e2,U⟩:=Le (m / 6 % 26) (m / 156 % 26) (c:=m / 4056 % 3) (by omega) (by omega)
   have z:(Txt.slice (lt (m / 6 % 26)++lt (m / 156 % 26)) none (some (m / 4056 % 3))++lt ((m / 156+(i:Int) * (2 * (m % 6)+1)) % 26)++Txt.slice (lt (m / 6 % 26)++lt (m / 156 % 26)) (some (m / 4056 % 3)) none).cps.toList
    =J++[97+((m / 156+(i:Int) * (2 * (m % 6)+1)) % 26).toNat]++p2:=by
    rw[wD,wD,Y,e2];rfl
   have aa:J.length+p2.length=2:=by
    have:=congrArg List.length U;rw[Q0a] at this;exact this
   refine⟨?_,λc hc=>?_,λe=>?_,λe=>?_,λe=>?_⟩
   . rw[len,z,Q0a,Q0a,Q15];omega
   . rw[z] at hc
     have hc:c∈J++p2\/c=97+((m / 156+(i:Int) * (2 * (m % 6)+1)) % 26).toNat:=by
      simp only[Q2o,Q20] at hc ⊢;rcases hc with(a|a)|a
      . exact .inl (.inl a)
      . exact .inr a
      . exact .inl (.inr a)
     rcases hc with a|a
     . rw[U] at a;simp only[Q0x,Q2,or_false] at a;omega
     . omega
   . have:=congrArg (λx:Str=>x.cps.toList.length) e;have this:List.length _=List.length _:=this;rw[z,Ew,Q0a,Q0a,Q15] at this;have:J.length+1+p2.length=2:=this;omega
   . have:=congrArg (λx:Str=>x.cps.toList.length) e;have this:List.length _=List.length _:=this;rw[z,Q0a,Q0a,Q15] at this;have:J.length+1+p2.length=0:=this;omega
   . have:=congrArg (λx:Str=>x.cps.toList.length) e;have this:List.length _=List.length _:=this;rw[z,wG,Q0a,Q0a,Q15] at this;have:J.length+1+p2.length=6:=this;omega
end Pb
namespace Pb
open L2
theorem boot_isinstance:bootBuiltins "isinstance"=some (.builtin "isinstance"):=by decide +kernel
theorem boot_sorted:bootBuiltins "sorted"=some (.builtin "sorted"):=by decide +kernel
theorem boot_all:bootBuiltins "all"=some (.builtin "all"):=by decide +kernel
theorem boot_int:bootBuiltins "int"=some (.type "int"):=by decide +kernel
theorem boot_bool:bootBuiltins "bool"=some (.type "bool"):=by decide +kernel
theorem boot_str:bootBuiltins "str"=some (.type "str"):=by decide +kernel
theorem boot_list:bootBuiltins "list"=some (.type "list"):=by decide +kernel
theorem boot_tuple:bootBuiltins "tuple"=some (.type "tuple"):=by decide +kernel
theorem boot_set:bootBuiltins "set"=some (.type "set"):=by decide +kernel
theorem boot_dict:bootBuiltins "dict"=some (.type "dict"):=by decide +kernel
structure Tb (mg:Str->Option Value):Prop where
 iI:mg "len"=none
 iA:mg "isinstance"=none
 px:mg "sorted"=none
 qp:mg "all"=none
 nW:mg "range"=none
 tZ:mg "enumerate"=none
 rO:mg "zip"=none
 rP:mg "int"=none
 qr:mg "bool"=none
 nt:mg "str"=none
 j_:mg "list"=none
 lJ:mg "tuple"=none
 nX:mg "dict"=none
 Lg:mg "set"=none
structure Dn (K:W.Frag) (mg:Str->Option Value) (x:Str) (ps:List Str) (st:Stmt) (f:Addr) (fd:FuncData):Prop where
 F:l8 K x x st f fd
 b:Binds K fd ps []
 m:mg x=some (.ref f)
theorem f9 {X:Cx}{k L:Nat}{f:Addr}{fd:FuncData}{ps:List Str}{sp:Sp}{x:Str}{p pos:Pos}{e:Expr}{es:List Expr}{t:TA}{st:Stmt}(F:e_ X.prog X.w X.K X.mg X.base fW k f fd ps sp)(U:ie L X.A)(D:Dn X.K X.mg x ps st f fd)(Y:PA X (e::es) t)(hg:Gl X x:=by rfl)(z:(x == ("__debug__":Str))=false:=by decide)(he:starEach (e::es) X.env=(false,eval e X.env)::starEach es X.env:=by rfl)(J:(backTo pos (starEach es X.env)).any (·.1)=false:=by rfl)(hk:k<=L:=by first|decide|omega):PE X (.Call (.Name x p) (e::es) [] pos) (mZ sp [] E0 t):=qZ F (U.mono hk) hg D.m D.F.kp D.b .nil k_ Y z he J
theorem gv {X:Cx}(i:Nat){x:Str}{e:Expr}{te:TE}{pos z:Pos}(J:X.N.Nodup)(L:PE X e te)(hi:X.N[i]? =some x:=by rfl)(U:Loc X.env.scope x:=by exact Or.inl rfl)(Y:swapsWith e (some (.Name x z)) pos.line X.env=pure false:=by rfl)(hf:X.fn x=true\/X.env.scope.names.lookup x=some .local:=by first|exact .inl rfl|exact .inr rfl|assumption):PS X (.Assign [.Name x z] e pos) (pN te (iY i)):=Cs J hi U L Y hf
theorem O8 {X:Cx}(i:Nat){x:Str}{e:Expr}{te:TE}{pos z:Pos}(J:X.N.Nodup)(L:PE X e te)(hi:X.N[i]? =some x:=by rfl)(U:Loc X.env.scope x:=by exact Or.inr rfl)(Y:swapsWith e (some (.Name x z)) pos.line X.env=pure false:=by rfl)(hf:X.fn x=true\/X.env.scope.names.lookup x=some .local:=by first|exact .inl rfl|exact .inr rfl|assumption):PS X (.Assign [.Name x z] e pos) (pN te (iY i)):=Cs J hi U L Y hf
theorem kT:0<=sizeLine:=by decide
theorem jV:1<=sizeLine:=by decide
theorem jj:2<=sizeLine:=by decide
theorem wH:4<=sizeLine:=by decide
theorem Lh:6<=sizeLine:=by decide
theorem f7 {X:Cx}{a b:Expr}{ta tb:TE}{pos:Pos}(z:PE X a ta)(J:PE X b tb)(L:vK b:=by exact λ_ _=>rfl):PE X (.Subscript a b pos) (iC (jq X.K) ta tb):=m7 Jp z J L
theorem ka {X:Cx}{a b:Expr}{ta tb:TE}{pos:Pos}(z:PE X a ta)(J:PE X b tb)(L:vK b:=by exact λ_ _=>rfl):PE X (.Subscript a b pos) (iC (C6 X.K) ta tb):=m7 Jo z J L
theorem jW {X:Cx}{own N:List Str}{scope sc:Scope}(z:X.env.scope=sc:=by rfl)(J:X.N=N:=by rfl)(k:scope.kind=.function:=by rfl)(c:vS own N scope sc=true:=by decide +kernel):kM X own scope:=kM.of z J k c
theorem ip {α:Type}{a:α}{p:Prop}:a=a\/p:=Or.inl rfl
theorem gT {N P:List Str}{sc:Scope}(h:(sc.kind == .function && !sc.isCoroutine && !sc.isGenerator && decide N.Nodup && N.take P.length == P && P.all (λx=>sc.names.lookup x == some .local || sc.names.lookup x == some .cell) && sc.names.all (λy=>y.2 != .free))=true:=by decide +kernel):gM N P sc:=by
 simp only[Bool.and_eq_true,Q1j,Bool.or_eq_true,beq_iff_eq,bne_iff_ne,decide_eq_true_eq,Bool.not_eq_true',ne_eq] at h;obtain⟨⟨⟨⟨⟨⟨h1,h2⟩,z⟩,J⟩,L⟩,U⟩,Y⟩:=h;exact⟨h1,h2,z,J,L,U,Y⟩
abbrev ib:List Str:=XF
abbrev jb:List Str:=["kind","value"]
abbrev jg:List Str:=XS
abbrev j1:List Str:=XH
abbrev j2:List Str:=["fields","name"]
abbrev kb:List Str:=["kind","tree"]
abbrev kg:List Str:=XY
abbrev kh:List Str:=XI
abbrev kB:List Str:=Xc
abbrev lu:List Str:=["value"]
abbrev lK:List Str:=XG
abbrev lM:List Str:=XV
abbrev lN:List Str:=XO
abbrev md:List Str:=Xe
abbrev me:List Str:=["kind","rows"]
abbrev mf:List Str:=["fields","value"]
abbrev mh:List Str:=["pairs"]
abbrev mI:List Str:=["stands"]
abbrev nY:List Str:=Xr
abbrev nZ:List Str:=["fields"]
abbrev n0:List Str:=XJ
abbrev n6:List Str:=["kind","seen"]
abbrev n8:List Str:=XZ
abbrev pz:List Str:=Xf
abbrev pA:List Str:=["kind","row"]
abbrev qt:List Str:=Xd
abbrev qu:List Str:=Xq
abbrev qw:List Str:=XU
abbrev rQ:List Str:=XX
abbrev rR:List Str:=XQ
abbrev rS:List Str:=Xg
abbrev t7:List Str:=Xj
abbrev t8:List Str:=Xo
abbrev t_:List Str:=["record","field"]
abbrev ua:List Str:=Xs
abbrev ub:List Str:=Xh
abbrev uc:List Str:=Xk
abbrev ud:List Str:=Xn
abbrev ue:List Str:=Xp
abbrev uf:List Str:=XM
def jP (K:W.Frag) (H:Hp) (a:Addr) (ns:List Int):Prop:=
 (∃o,H a=some (.i4 o (.lst (ns.map V.int))))\/
   ∃(o:Obj) (z:Array Value) (n:Nat),K.lookup a=some o/\o.cls=.type "list"/\o.dict=none/\o.data=.seq z n/\z.size<=sizeLine/\Vals (ns.map V.int) z.toList
theorem jP.sq {K:W.Frag}{H:Hp}{a:Addr}{ns:List Int}(h:jP K H a ns):fY K H a (ns.map V.int):=by
 rcases h with⟨o,h⟩|h
 . exact .inl (.inr ⟨o,h⟩)
 . exact .inr h
def SB (b:Addr) (H H':Hp):Prop:=∀c o,c≠b->H c=some o->H' c=some o
theorem SB.trans {b:Addr}{H H1 H2:Hp}(x:SB b H H1)(y:SB b H1 H2):SB b H H2:=λc o n h=>y c o n (x c o n h)
theorem SB.of {b:Addr}{H H':Hp}(s:Same H H'):SB b H H':=λc o _ h=>s c o h
theorem SB.wr {b:Addr}{H:Hp}{o:HO}:SB b H (upd H b o):=λc u n h=>by rw[fV n];exact h
theorem SB.new {b p:Addr}{H:Hp}{o:HO}(h:H p=none):SB b H (upd H p o):=λc u n q=>by rw[fV (gc q h)];exact q
structure G0 (K:W.Frag) (H:Hp) (a b:Addr) (ns:List Int) (n:Int):Prop where
 jw:jP K H a ns
 len:ns.length<=63
 at_:H b=some (.lst [.int n])
 pos:0<=n
theorem SB.jw {K:W.Frag}{b:Addr}{H H':Hp}{a:Addr}{ns:List Int}{n:Int}(x:SB b H H')(J:H b=some (.lst [.int n]))(h:jP K H a ns):jP K H' a ns:=by
 rcases h with⟨o,h⟩|h
 . exact .inl ⟨o,x a _ (jz h J (by intro z;cases z)) h⟩
 . exact .inr h
theorem SB.tu {b:Addr}{H H':Hp}{n:Int}(x:SB b H H')(J:H b=some (.lst [.int n])):Tu H H':=λc xs h=>x c _ (jz h J (by intro z;cases z)) h
theorem G0.go {K:W.Frag}{H H':Hp}{a b:Addr}{ns:List Int}{n z:Int}(g:G0 K H a b ns n)(x:SB b H H')(h:H' b=some (.lst [.int z]))(J:n<=z):G0 K H' a b ns z:=
 ⟨x.jw g.at_ g.jw,g.len,h,by have:=g.pos;omega⟩
theorem Same.new {H:Hp}{p:Addr}{o:HO}(h:H p=none):Same H (upd H p o):=λc u q=>by rw[fV (gc q h)];exact q
theorem int_at {ns:List Int}{z:Int}(J:0<=z)(h1:z<ns.length):jo (ns.map V.int) z=some (.int (ns.getD z.toNat 0)):=by
 obtain⟨j,rfl⟩:∃j:Nat,z=(j:Int):=⟨z.toNat,by omega⟩;rw[Q2e];exact lF (by rw[Q0f,Q0e,Q03 (by omega)];rfl)
def qx (K:W.Frag):Sp:=λvs H Q _=>∃a b ns n,vs=[.ref a,.ref b]/\G0 K H a b ns n/\n<=1000000000000/\
 ∀(H':Hp),SB b H H'->H' b=some (.lst [.int (n+1)])->Q (.int (nx ns (n+1))) H'
def pB (K:W.Frag):Sp:=λvs H Q _=>∃a b ns n,vs=[.ref a,.ref b]/\G0 K H a b ns n/\n<=1000000000000/\
 ∀(r:Int) (H':Hp),0<=r->r<1999999973->SB b H H'->H' b=some (.lst [.int (n+1)])->Q (.int r) H'
theorem ug {P:Program}{w:World}{K:W.Frag}{mg:Str->Option Value}{base:Heap}{CX:jU}{k:Nat}{f:Addr}{fd:FuncData}{ps:List Str}(F:e_ P w K mg base CX k f fd ps (qx K)):e_ P w K mg base CX k f fd ps (pB K):=
 F.imp λvs H Q E ⟨a,b,ns,n,e,g,z,q⟩=>⟨a,b,ns,n,e,g,z,λH' J h1=>q _ H' (wu _ _) (wx _ _) J h1⟩
def uh (K:W.Frag):Sp:=λvs H Q _=>∃a b ns n,vs=[.ref a,.ref b]/\G0 K H a b ns n/\n<=1000000000000/\
 ∀(v:V) (k:Kd) (H':Hp),SB b H H'->H' b=some (.lst [.int (n+1)])->KA H' v k->k.dep<=1->qh k->k.W->Q v H'
def Ex (K:W.Frag):Sp:=λvs H Q _=>∃a b ns n,∃m:Nat,vs=[.ref a,.ref b,.int m]/\m<=12/\G0 K H a b ns n/\n<=1000000000000/\
 ∀(p:Addr) (ss:List Str) (H':Hp),SB b H H'->H' b=some (.lst [.int (n+1)])->p≠b->H' p=some (.lst (ss.map V.str))->ss.length=m->ss.Nodup->Q (.ref p) H'
noncomputable def ck:Nat->Nat
 |0=>2
 |d+1=>3 * ck d+6
def qz (K:W.Frag) (d:Nat):Sp:=λvs H Q _=>∃a b ns n,vs=[.ref a,.ref b,.int d]/\G0 K H a b ns n/\n+ck d<=1000000000000/\
 ∀(v:V) (k:Kd) (z:Int) (H':Hp),SB b H H'->H' b=some (.lst [.int z])->n<=z->z<=n+ck d->KA H' v k->k.dep<=d+1->k.W->Q v H'
def Ey (K:W.Frag) (d:Nat):Sp:=λvs H Q _=>∃a b ns n,∃m:Nat,vs=[.ref a,.ref b,.int m,.int d]/\m<=3/\G0 K H a b ns n/\n+1+3 * ck d<=1000000000000/\
 ∀(t:Addr) (xs:List V) (fs:Fs) (z:Int) (H':Hp),SB b H H'->H' b=some (.lst [.int z])->n<=z->z<=n+1+3 * ck d->H' t=some (.tup xs)->FA H' xs fs->fs.names.Nodup->fs.names.length=m->fs.dep<=d+1->fs.W->Q (.ref t) H'
def Ez (K:W.Frag) (d:Nat):Sp:=λvs H Q _=>∃a b ns n,∃m:Nat,vs=[.ref a,.ref b,.int m,.int d]/\1<=m/\m<=3/\G0 K H a b ns n/\n+5+3 * ck d<=1000000000000/\
 ∀(v:V) (k:Kd) (z:Int) (H':Hp),SB b H H'->H' b=some (.lst [.int z])->n<=z->z<=n+5+3 * ck d->KA H' v k->k.dep<=d+2->k.W->(∃key J fs,k=.rows key J fs)->Q v H'
def EA (K:W.Frag):Sp:=λvs H Q _=>∃a b ns n,vs=[.ref a,.ref b]/\G0 K H a b ns n/\n<=1000000000000/\
 ∀(H':Hp),SB b H H'->H' b=some (.lst [.int (n+1)])->Q (.int (num ns (n+1))) H'
def EB (K:W.Frag):Sp:=λvs H Q _=>∃a b ns n,vs=[.ref a,.ref b]/\G0 K H a b ns n/\n<=1000000000000/\
 ∀(H':Hp),SB b H H'->H' b=some (.lst [.int (n+1)])->Q (.str (iF ns (n+1))) H'
def wI (K:W.Frag):Sp:=λvs H Q _=>∃a b ns n,∃m:Nat,vs=[.ref a,.ref b,.int m]/\m<=12/\G0 K H a b ns n/\n<=1000000000000/\
 ∀(p:Addr) (ss:List Str) (H':Hp),SB b H H'->H' b=some (.lst [.int (n+1)])->p≠b->H' p=some (.lst (ss.map V.str))->ss.length=m->ss.Nodup->ss.Pairwise sle->(∀x∈ss,rM x)->Q (.ref p) H'
theorem namesW {P:Program}{w:World}{K:W.Frag}{mg:Str->Option Value}{base:Heap}{CX:jU}{k:Nat}{f:Addr}{fd:FuncData}{ps:List Str}(F:e_ P w K mg base CX k f fd ps (wI K)):e_ P w K mg base CX k f fd ps (Ex K):=
 F.imp λvs H Q E ⟨a,b,ns,n,m,e,z,g,J,q⟩=>⟨a,b,ns,n,m,e,z,g,J,λp ss H' L h1 h2 U Y h5 _ _=>q p ss H' L h1 h2 U Y h5⟩
def ui (K:W.Frag) (d:Nat):Sp:=λvs H Q _=>∃a b ns n,∃m:Nat,vs=[.ref a,.ref b,.int m,.int d]/\m<=12/\G0 K H a b ns n/\n+1+m * ck d<=1000000000000/\
 ∀(t:Addr) (xs:List V) (fs:Fs) (z:Int) (H':Hp),SB b H H'->H' b=some (.lst [.int z])->n<=z->z<=n+1+m * ck d->H' t=some (.tup xs)->FA H' xs fs->fs.names.Nodup->fs.names.length=m->fs.dep<=d+1->fs.W->fs.names.Pairwise sle->(∀x∈fs.names,rM x)->Q (.ref t) H'
theorem Li {P:Program}{w:World}{K:W.Frag}{mg:Str->Option Value}{base:Heap}{CX:jU}{k d:Nat}{f:Addr}{fd:FuncData}{ps:List Str}(F:e_ P w K mg base CX k f fd ps (ui K d)):e_ P w K mg base CX k f fd ps (Ey K d):=
 F.imp λvs H Q E ⟨a,b,ns,n,m,e,hm,g,hn,q⟩=>by
   have e3:(m:Int) * ck d<=3 * ck d:=Q21 (by omega) (by omega);exact⟨a,b,ns,n,m,e,by omega,g,by omega,λt xs fs J H' h1 h2 L h4 U Y h7 h8 h9 z _ _=>q t xs fs J H' h1 h2 L (by omega) U Y h7 h8 h9 z⟩
variable {P:Program}{w:World}{K:W.Frag}{mg:Str->Option Value}{base:Heap}
theorem Lj:gM ["_law_script","_law_at","_law_cell","_law_m"] XF (gn (top 36)):=gT
theorem rT (T:Tb mg)(J:Dn K mg "_law_next" ib (top 36) L U):e_ P w K mg base fW (1) L U ib (qx K):=by
 refine J.F.ok Lj λvs H Q E h=>?_;obtain⟨a,b,ns,n,rfl,g,hn,q⟩:=h;refine⟨rfl,λaa A outer s nd hr hu=>?_⟩
 refine⟨_,(fT (Cr (gh j5 (ka (pv 1) d_) d_) (Iz (pv 1) d_ set_list))
  (fT (gv 2 nd d_)
  (fT (gp (gw qX (gA i9 (by rfl) T.iI PySem.boot_len (a_ (pv 0) c_)) d_ (gj _)) (fX (gv 2 nd (ka (pv 0) (gh iw (ka (pv 1) d_) (gA i9 (by rfl) T.iI PySem.boot_len (a_ (pv 0) c_)))))) gu)
  (fT (gv 3 nd (gh iw (gh mW (gh j5 (gh j5 (gh iw (pv 2) d_) (gh mW (gh mW (ka (pv 1) d_) (ka (pv 1) d_)) d_)) d_) d_) d_))
  (fX (f6 (gh iw (gh mW (pv 3) (pv 3)) d_))))))),?_⟩
 ac_rfl
 have hb:=g.at_;have hp:=g.pos;have hS:fY K (upd H b (.lst [.int (n+1)])) a (ns.map V.int):=(SB.wr.jw hb g.jw).sq;have Y:upd H b (.lst [.int (n+1)]) b=some (.lst [.int (n+1)]):=fZ;refine⟨_,rfl,b,_,_,_,rfl,rfl,fY.of hb,rfl,_,_,rfl,rfl,_,rfl,b,_,_,0,rfl,rfl,hb,rfl,?_⟩;refine⟨_,rfl,a,_,rfl,.inl hS,_,_,rfl,rfl,_,rfl,?_⟩;have hl:(ns.map V.int).length=ns.length:=Q04 _;refine iS (λc=>?_) (λc=>?_)
 . have c':(0:Int)<((ns.map V.int).length:Nat):=of_decide_eq_true c;rw[hl] at c';have i0:=Q0m (n+1) (show(ns.length:Int)≠0 by omega);have i1:=Q0n (n+1) c'
   have hz:jo (ns.map V.int) ((n+1) % (((ns.map V.int).length:Nat):Int))=some (.int (cellAt ns (n+1))):=by
    rw[hl,int_at i0 i1];unfold cellAt;rw[if_pos (by omega)]
   refine⟨_,rfl,_,rfl,b,_,_,_,rfl,rfl,fY.of Y,rfl,_,rfl,a,_,rfl,.inl hS,_,_,rfl,rfl,by rw[hl];exact c',a,_,_,_,rfl,rfl,hS,hz,?_⟩
   refine⟨_,rfl,_,_,rfl,rfl,(by show(0:Int)<_;decide),_,rfl,b,_,_,_,rfl,rfl,fY.of Y,rfl,_,rfl,b,_,_,_,rfl,rfl,fY.of Y,rfl,_,_,rfl,rfl,.inl ⟨by omega,by omega⟩,_,_,rfl,rfl,.inr ⟨by decide,by decide⟩,
    _,_,rfl,rfl,_,_,rfl,rfl,_,_,rfl,rfl,.inr ⟨by decide,by decide⟩,_,_,rfl,rfl,(by show(0:Int)<_;decide),?_⟩
   refine⟨_,rfl,_,rfl,_,_,rfl,rfl,.inl ⟨?_,?_⟩,_,_,rfl,rfl,(by show(0:Int)<_;decide),q _ SB.wr Y⟩
   . exact Q3g (by decide) (Q0m _ (by decide))
   . exact Int.lt_trans (Q0n _ (by decide)) (by decide)
 . have c':¬(0:Int)<((ns.map V.int).length:Nat):=λz=>c (decide_eq_true z);rw[hl] at c'
   have hz:cellAt ns (n+1)=0:=by
    unfold cellAt;rw[if_neg (by omega)]
   have q':Q (.int (((0:Int) % 2147483647+(n+1) * (n+1) * 7919+11) * 48271 % 2147483647 * (((0:Int) % 2147483647+(n+1) * (n+1) * 7919+11) * 48271 % 2147483647) % 1999999973)) (upd H b (.lst [.int (n+1)])):=by
    have:=q _ SB.wr Y;unfold nx at this;rw[hz] at this;exact this
   refine⟨_,rfl,_,_,rfl,rfl,(by show(0:Int)<_;decide),_,rfl,b,_,_,_,rfl,rfl,fY.of Y,rfl,_,rfl,b,_,_,_,rfl,rfl,fY.of Y,rfl,_,_,rfl,rfl,.inl ⟨by omega,by omega⟩,_,_,rfl,rfl,.inr ⟨by decide,by decide⟩,
    _,_,rfl,rfl,_,_,rfl,rfl,_,_,rfl,rfl,.inr ⟨by decide,by decide⟩,_,_,rfl,rfl,(by show(0:Int)<_;decide),?_⟩
   refine⟨_,rfl,_,rfl,_,_,rfl,rfl,.inl ⟨?_,?_⟩,_,_,rfl,rfl,(by show(0:Int)<_;decide),q'⟩
   . exact Q3g (by decide) (Q0m _ (by decide))
   . exact Int.lt_trans (Q0n _ (by decide)) (by decide)
theorem Lk:gM XF XF (gn (top 40)):=gT
theorem EC (T:Tb mg)(z:Dn K mg "_law_plain" ib (top 40) J L)(U:Dn K mg "_law_next" ib (top 36) Y aa)(ab:e_ P w K mg base fW (1) Y aa ib (pB K)):e_ P w K mg base fW (2) J L ib (uh K):=by
 refine z.F.ok Lk λvs H Q E h=>?_;obtain⟨a,b,ns,n,rfl,g,hn,q⟩:=h;refine⟨rfl,λae A outer s nd hr hu=>?_⟩
 refine⟨_,(fT (gp (gw gL (gh iw (f9 ab hr U (a_ (pv 0) (a_ (pv 1) c_))) d_) d_ (gj _)) (fX (f6 (jd (a_ gH c_)))) gu)
  (fX (f6 (jd (a_ gH c_))))),?_⟩
 ac_rfl
 refine⟨_,rfl,_,rfl,a,b,ns,n,rfl,g,hn,λr H1 r0 r1 s1 h1=>?_⟩;refine⟨_,_,rfl,rfl,(by show(0:Int)<_;decide),rfl,_,rfl,?_⟩
 have fin:∀(x:Str) (k:Kd),(∀(p:Addr) (H2:Hp),H2 p=some (.tup [.str x])->KA H2 (.ref p) k)->k.dep<=1->qh k->k.W->∀p,H1 p=none->Q (.ref p) (upd H1 p (.tup [.str x])):=λx k hk hd hp hw p ac=>
  q _ k _ (s1.trans (SB.new ac)) (by rw[fV (gc h1 ac)];exact h1) (hk p _ fZ) hd hp hw
 refine iS (λc=>?_) (λc=>?_)
 . exact⟨jV,λp hp=>fin _ .num (λp H2 e=>by unfold KA;exact⟨p,rfl,e⟩) (Q00 _) trivial (by unfold Kd.W;trivial) p hp⟩
 . exact⟨jV,λp hp=>fin _ .iF (λp H2 e=>by unfold KA;exact⟨p,rfl,e⟩) (Q00 _) trivial (by unfold Kd.W;trivial) p hp⟩
theorem Ll:gM ["_law_script","_law_at","_law_m","_law_cell"] XF (gn (top 37)):=gT
theorem Ln (T:Tb mg)(J:Dn K mg "_law_number" ib (top 37) L U)(Y:Dn K mg "_law_next" ib (top 36) aa ab)(ac:e_ P w K mg base fW (1) aa ab ib (qx K)):e_ P w K mg base fW (2) L U ib (EA K):=by
 refine J.F.ok Ll λvs H Q E h=>?_;obtain⟨a,b,ns,n,rfl,g,hn,q⟩:=h;refine⟨rfl,λaf A outer s nd hr hu=>?_⟩
 refine⟨_,(fT (gv 2 nd (f9 ac hr Y (a_ (pv 0) (a_ (pv 1) c_))))
  (fT (gv 3 nd d_)
  (fT (gp (gw qX (gA i9 (by rfl) T.iI PySem.boot_len (a_ (pv 0) c_)) d_ (gj _)) (fX (gv 3 nd (ka (pv 0) (gh iw (ka (pv 1) d_) (gA i9 (by rfl) T.iI PySem.boot_len (a_ (pv 0) c_)))))) gu)
  (fT (gp (gw gL (gh iw (pv 2) d_) d_ (gj _)) (fX (f6 (gh mV (gh iw (gh jh (pv 2) d_) d_) d_))) gu)
  (fX (f6 (gh mV (gh iw (gh j5 (gh iw (pv 3) (gh tz d_ d_)) (gh mW (pv 2) (gh tz d_ d_))) (gh mW d_ (gh tz d_ d_))) (gh tz d_ d_)))))))),?_⟩
 ac_rfl
 refine⟨_,rfl,_,rfl,a,b,ns,n,rfl,g,hn,λH1 s1 h1=>?_⟩;have g1:=g.go s1 h1 (by omega);have hS:=g1.jw.sq;have r0:=wu ns (n+1);have r1:=wx ns (n+1);have hl:(ns.map V.int).length=ns.length:=Q04 _;have hq:∀e,num ns (n+1)=e->Q (.int e) H1:=λe he=>by rw[<-he];exact q _ s1 h1
 unfold num at hq;refine⟨_,rfl,a,_,rfl,.inl hS,_,_,rfl,rfl,_,rfl,?_⟩;have pw:vv 10 40:=⟨by decide,by decide,by decide⟩;have ae:vv 10 29:=⟨by decide,by decide,by decide⟩;refine iS (λc=>?_) (λc=>?_)
 . have c':(0:Int)<((ns.map V.int).length:Nat):=of_decide_eq_true c;rw[hl] at c';have i0:=Q0m (n+1) (show(ns.length:Int)≠0 by omega);have i1:=Q0n (n+1) c'
   have hz:jo (ns.map V.int) ((n+1) % (((ns.map V.int).length:Nat):Int))=some (.int (cellAt ns (n+1))):=by
    rw[hl,int_at i0 i1];unfold cellAt;rw[if_pos (by omega)]
   refine⟨_,rfl,_,rfl,b,_,_,_,rfl,rfl,fY.of h1,rfl,_,rfl,a,_,rfl,.inl hS,_,_,rfl,rfl,by rw[hl];exact c',a,_,_,_,rfl,rfl,hS,hz,?_⟩;refine⟨_,rfl,_,_,rfl,rfl,(by show(0:Int)<_;decide),rfl,_,rfl,iS (λc2=>?_) (λc2=>?_)⟩
   . have c3:nx ns (n+1) % 3=0:=by
      have:=of_decide_eq_true c2;injection this
     refine⟨_,rfl,_,_,rfl,rfl,⟨by decide,by decide⟩,_,_,rfl,rfl,(by show(0:Int)<_;decide),_,_,rfl,rfl,hq _ (by rw[if_pos c3])⟩
   . have c3:¬nx ns (n+1) % 3=0:=λz=>c2 (decide_eq_true (show V.int (nx ns (n+1) % 3)=V.int 0 by rw[z]));refine⟨_,rfl,_,_,rfl,rfl,pw,_,_,rfl,rfl,(by show(0:Int)<_;decide),_,rfl,_,_,rfl,rfl,ae,_,_,rfl,rfl,.inl ⟨by omega,by omega⟩,_,_,rfl,rfl,_,_,rfl,rfl,pw,_,_,rfl,rfl,.inl ⟨by decide,by decide⟩,_,_,rfl,rfl,(by show(0:Int)<_;decide),_,_,rfl,rfl,pw,_,_,rfl,rfl,hq _ (by rw[if_neg c3];rfl)⟩
 . have c':¬(0:Int)<((ns.map V.int).length:Nat):=λz=>c (decide_eq_true z);rw[hl] at c'
   have hz:cellAt ns (n+1)=0:=by
    unfold cellAt;rw[if_neg (by omega)]
   refine⟨_,rfl,_,_,rfl,rfl,(by show(0:Int)<_;decide),rfl,_,rfl,iS (λc2=>?_) (λc2=>?_)⟩
   . have c3:nx ns (n+1) % 3=0:=by
      have:=of_decide_eq_true c2;injection this
     refine⟨_,rfl,_,_,rfl,rfl,⟨by decide,by decide⟩,_,_,rfl,rfl,(by show(0:Int)<_;decide),_,_,rfl,rfl,hq _ (by rw[if_pos c3])⟩
   . have c3:¬nx ns (n+1) % 3=0:=λz=>c2 (decide_eq_true (show V.int (nx ns (n+1) % 3)=V.int 0 by rw[z]));refine⟨_,rfl,_,_,rfl,rfl,pw,_,_,rfl,rfl,(by show(0:Int)<_;decide),_,rfl,_,_,rfl,rfl,ae,_,_,rfl,rfl,.inl ⟨by omega,by omega⟩,_,_,rfl,rfl,_,_,rfl,rfl,pw,_,_,rfl,rfl,.inl ⟨by decide,by decide⟩,_,_,rfl,rfl,(by show(0:Int)<_;decide),_,_,rfl,rfl,pw,_,_,rfl,rfl,hq _ (by rw[if_neg c3,hz];rfl)⟩
theorem qA:lI.length=93:=by decide +kernel
theorem ED {z:Int}(J:0<=z)(h1:z<93):jo lI.cps.toList z=some (lI.cps.toList.getD z.toNat 0):=by
 have hl:lI.cps.toList.length=93:=by
  have:=qA;rw[Q1c];exact this
 unfold jo m4;rw[hl,if_pos J,if_pos (show z<((93:Nat):Int) by omega)];show lI.cps.toList[z.toNat]? =_;rw[Q0e,Q03 (by omega)];rfl
theorem wJ (m:Int):∀k,(qi m k).length=k
 |0=>rfl
 |k+1=>by
  show(qi m k++_).length=_;rw[Em,wJ m k];rfl
noncomputable def σW (a b:Addr) (m:Int) (k:Int) (w:Str) (y z:Option V):St:=[some (.ref a),some (.ref b),some (.str lI),some (.int m),some (.int k),some (.str w),y,z]
theorem Lp:gM ["_law_script","_law_at","_law_signs","_law_m","_law_many","_law_word_here","_law_k","_law_place_here"] XF (gn (top 38)):=gT
theorem Lq (T:Tb mg)(J:Dn K mg "_law_word" ib (top 38) L U)(Y:Dn K mg "_law_next" ib (top 36) aa ab)(ac:e_ P w K mg base fW (1) aa ab ib (qx K)):e_ P w K mg base fW (2) L U ib (EB K):=by
 refine J.F.ok Lp λvs H Q E h=>?_;obtain⟨a,b,ns,n,rfl,g,hn,q⟩:=h;refine⟨rfl,λaf A outer s nd hr hu=>?_⟩
 refine⟨_,(fT (gv 2 nd gH)
  (fT (gv 2 nd (gh pP (pv 2) gH))
  (fT (gv 3 nd (f9 ac hr Y (a_ (pv 0) (a_ (pv 1) c_))))
  (fT (gv 4 nd (gh iw (pv 3) d_))
  (fT (gp (gw gL (gh iw (gh jh (pv 3) d_) d_) d_ (gj _)) (fX (gv 4 nd d_)) gu)
  (fT (gv 5 nd gH)
  (fT (jt PassesOwn.never rfl (oR rfl T.nW (a_ (pv 4) c_)) (gK (i:=6) nd rfl ip) (fT (gv 7 nd (gh j5 (gh jh (pv 3) d_) (gh mW (gh mW (pv 6) (pv 6)) (gh iw (gh jh (pv 3) d_) d_))))
  (fX (gv 5 nd (gh pP (pv 5) (m7 o5 (pv 2) (gh iw (pv 7) (gA Jz (by rfl) T.iI PySem.boot_len (a_ (pv 2) c_))) (λ_ _=>rfl)))))))
  (fX (f6 (pv 5)))))))))),?_⟩
 ac_rfl
 have ae:(lI).length<=sizeLine:=by rw[qA];decide
 refine⟨_,rfl,_,_,rfl,rfl,ae,?_⟩;refine⟨_,rfl,_,rfl,a,b,ns,n,rfl,g,hn,λH1 s1 h1=>?_⟩;have r0:=wu ns (n+1);have r1:=wx ns (n+1);have hq:∀e,iF ns (n+1)=e->Q (.str e) H1:=λe he=>by rw[<-he];exact q _ s1 h1
 unfold iF at hq;generalize nx ns (n+1)=m at *;refine⟨_,rfl,_,_,rfl,rfl,(by show(0:Int)<_;decide),?_⟩;refine⟨_,rfl,_,_,rfl,rfl,⟨by decide,by decide⟩,_,_,rfl,rfl,(by show(0:Int)<_;decide),rfl,_,rfl,iS (λc=>?_) (λc=>?_)⟩
 . have c3:m / 5 % 29=0:=by
    have:=of_decide_eq_true c;injection this
   rw[if_pos c3] at hq;refine⟨_,rfl,_,rfl,by decide,by decide,nO (n:=Int.toNat 40) (λi σ H'=>∃y z,σ=σW a b m 40 (qi m i) y z/\H'=H1) ⟨_,_,rfl,rfl⟩ ?_ ?_⟩
   . rintro i σ H' hi ⟨y,z,rfl,rfl⟩;have hi:i<40:=hi;have e0:(0:Int)+(i:Int)=(i:Int):=by omega
     have l3:0<=(m / 145+((0:Int)+(i:Int)) * ((0:Int)+(i:Int)) * (m / 7 % 3)) % 93/\(m / 145+((0:Int)+(i:Int)) * ((0:Int)+(i:Int)) * (m / 7 % 3)) % 93<93:=⟨Q0m _ (by decide),Q0n _ (by decide)⟩;refine⟨_,rfl,_,_,rfl,rfl,⟨by decide,by decide⟩,_,rfl,_,rfl,_,_,rfl,rfl,.inl ⟨by omega,by omega⟩,_,rfl,_,_,rfl,rfl,⟨by decide,by decide⟩,_,_,rfl,rfl,(by show(0:Int)<_;decide),_,_,rfl,rfl,.inr ⟨by omega,by omega⟩,_,_,rfl,rfl,?_⟩;refine⟨_,rfl,_,rfl,_,rfl,_,rfl,_,rfl,ae,_,_,rfl,rfl,(by show(0:Int)<((lI.length:Nat):Int);rw[qA];decide),lI,_,_,rfl,rfl,ae,(by rw[qA];exact ED l3.1 l3.2),_,_,rfl,rfl,?_,?_⟩
     . rw[wJ];show i+1<=sizeLine;exact Q0k (i2 (by omega))
     . rw[e0];exact⟨_,_,rfl,rfl⟩
   . rintro σ H' ⟨y,z,rfl,rfl⟩;exact⟨_,rfl,hq _ rfl⟩
 . have c3:¬m / 5 % 29=0:=λz=>c (decide_eq_true (show V.int (m / 5 % 29)=V.int 0 by rw[z]));rw[if_neg c3] at hq;have h5:0<=m % 5/\m % 5<5:=by omega
   refine⟨_,rfl,_,rfl,by omega,by omega,nO (n:=Int.toNat (m % 5)) (λi σ H'=>∃y z,σ=σW a b m (m % 5) (qi m i) y z/\H'=H1) ⟨_,_,rfl,rfl⟩ ?_ ?_⟩
   . rintro i σ H' hi ⟨y,z,rfl,rfl⟩;have hi:i<40:=by omega
     have e0:(0:Int)+(i:Int)=(i:Int):=by omega
     have l3:0<=(m / 145+((0:Int)+(i:Int)) * ((0:Int)+(i:Int)) * (m / 7 % 3)) % 93/\(m / 145+((0:Int)+(i:Int)) * ((0:Int)+(i:Int)) * (m / 7 % 3)) % 93<93:=⟨Q0m _ (by decide),Q0n _ (by decide)⟩;refine⟨_,rfl,_,_,rfl,rfl,⟨by decide,by decide⟩,_,rfl,_,rfl,_,_,rfl,rfl,.inl ⟨by omega,by omega⟩,_,rfl,_,_,rfl,rfl,⟨by decide,by decide⟩,_,_,rfl,rfl,(by show(0:Int)<_;decide),_,_,rfl,rfl,.inr ⟨by omega,by omega⟩,_,_,rfl,rfl,?_⟩;refine⟨_,rfl,_,rfl,_,rfl,_,rfl,_,rfl,ae,_,_,rfl,rfl,(by show(0:Int)<((lI.length:Nat):Int);rw[qA];decide),lI,_,_,rfl,rfl,ae,(by rw[qA];exact ED l3.1 l3.2),_,_,rfl,rfl,?_,?_⟩
     . rw[wJ];show i+1<=sizeLine;exact Q0k (i2 (by omega))
     . rw[e0];exact⟨_,_,rfl,rfl⟩
   . rintro σ H' ⟨y,z,rfl,rfl⟩;exact⟨_,rfl,hq _ rfl⟩
theorem Lr (n:Nat)(h:n<=1000):Builtin.Str.tooLong n=false:=by
 have:n<=sizeLine:=Q0k (i2 h);unfold Builtin.Str.tooLong;exact decide_eq_false (by omega)
theorem Ls (f:Nat->Str)(i:Nat):((List.range (i+1)).map f).map V.str=((List.range i).map f).map V.str++[V.str (f i)]:=by
 rw[Q3h,Q0i,Q0i];rfl
noncomputable abbrev abc:Str:="abcdefghijklmnopqrstuvwxyz"
noncomputable abbrev stemOf (r:Int):Str:=lt (r / 6 % 26)++lt (r / 156 % 26)
noncomputable def σN (a b:Addr) (m:Nat) (r:Int) (p:Addr) (y z:Option V):St:=
 [some (.ref a),some (.ref b),some (.int m),some (.str abc),some (.int r),some (.int (2 * (r % 6)+1)),some (.str (stemOf r)),some (.int (r / 4056 % 3)),some (.ref p),y,z]
theorem Lu:gM ["_law_script","_law_at","_law_many","_law_letters","_law_m","_law_step","_law_stem","_law_cut","_law_names_here","_law_k","_law_sign"] Xf (gn (top 39)):=gT
theorem EE (T:Tb mg)(J:Dn K mg "_law_names" pz (top 39) L U)(Y:Dn K mg "_law_next" ib (top 36) aa ab)(ac:e_ P w K mg base fW (1) aa ab ib (pB K)):e_ P w K mg base fW (2) L U pz (wI K):=by
 refine J.F.ok Lu λvs H Q E h=>?_;obtain⟨a,b,ns,n,m,rfl,hm,g,hn,q⟩:=h;refine⟨rfl,λan A outer s nd hr hu=>?_⟩
 refine⟨_,(fT (gv 3 nd gH)
  (fT (gv 4 nd (f9 ac hr Y (a_ (pv 0) (a_ (pv 1) c_))))
  (fT (gv 5 nd (ka (iM (a_ d_ (a_ d_ (a_ d_ (a_ d_ (a_ d_ (a_ d_ c_))))))) (gh iw (pv 4) d_)))
  (fT (gv 6 nd (gh pP (m7 o5 (pv 3) (gh iw (gh jh (pv 4) d_) d_) (λ_ _=>rfl)) (m7 o5 (pv 3) (gh iw (gh jh (pv 4) d_) d_) (λ_ _=>rfl))))
  (fT (gv 7 nd (gh iw (gh jh (pv 4) d_) d_))
  (fT (gv 8 nd (iM c_))
  (fT (jt PassesOwn.never rfl (oR rfl T.nW (a_ (pv 2) c_)) (gK (i:=9) nd rfl ip) (fX (gp (gw gL (gh iw (gh jh (pv 4) d_) d_) d_ (gj _)) (fX (kY (rf PySem.F.plainAttrs_list PySem.F.slot_list_append PySem.F.type_list_append tF (pv 8) (a_ (gh Kb (m7 o5 (pv 3) (gh iw (gh jh (pv 4) d_) d_) (λ_ _=>rfl)) (gh j5 (pv 9) d_)) c_)))) (fT (gv 10 nd (m7 o5 (pv 3) (gh iw (gh j5 (gh jh (pv 4) d_) (gh mW (pv 9) (pv 5))) d_) (λ_ _=>rfl)))
  (fX (kY (rf PySem.F.plainAttrs_list PySem.F.slot_list_append PySem.F.type_list_append tF (pv 8) (a_ (gh pP (gh pP (o4 DB (pv 6) oY (oZ (pv 7))) (pv 10)) (o4 DB (pv 6) (oZ (pv 7)) oY)) c_))))))))
  (fX (f6 (gA J6 (by rfl) T.px boot_sorted (a_ (pv 8) c_))))))))))),?_⟩
 ac_rfl
 refine⟨_,rfl,_,rfl,a,b,ns,n,rfl,g,hn,λr H1 r0 r1 s1 h1=>?_⟩;have hz:(abc).length<=sizeLine:=by decide +kernel
 have m6:0<=r % 6/\r % 6<6:=by omega
 have l1:0<=r / 6 % 26/\r / 6 % 26<26:=by omega
 have l2:0<=r / 156 % 26/\r / 156 % 26<26:=by omega
 refine⟨Lh,λp1 aj=>?_⟩;refine⟨_,rfl,_,_,rfl,rfl,(by show(0:Int)<_;decide),p1,_,_,_,rfl,rfl,fY.of fZ,K6 m6.1 m6.2,?_⟩;have s2:SB b H (upd H1 p1 (.lst [.int 1,.int 3,.int 5,.int 7,.int 9,.int 11])):=s1.trans (SB.new aj);have h2:upd H1 p1 (.lst [.int 1,.int 3,.int 5,.int 7,.int 9,.int 11]) b=some (.lst [.int (n+1)]):=by rw[fV (gc h1 aj)];exact h1
 generalize upd H1 p1 (.lst [.int 1,.int 3,.int 5,.int 7,.int 9,.int 11])=H2 at s2 h2
 refine⟨_,rfl,_,rfl,_,_,rfl,rfl,⟨by decide,by decide⟩,_,_,rfl,rfl,(by show(0:Int)<_;decide),_,_,_,rfl,rfl,hz,qo l1.1 l1.2,_,rfl,_,rfl,_,_,rfl,rfl,⟨by decide,by decide⟩,_,_,rfl,rfl,(by show(0:Int)<_;decide),_,_,_,rfl,rfl,hz,qo l2.1 l2.2,
  _,_,rfl,rfl,jj,?_⟩
 refine⟨_,rfl,_,_,rfl,rfl,⟨by decide,by decide⟩,_,_,rfl,rfl,(by show(0:Int)<_;decide),?_⟩;refine⟨kT,λp hp=>?_⟩;have al:p≠b:=λz=>by rw[z,h2] at hp;cases hp
 have em:Int.toNat (m:Int)=m:=by omega
 refine⟨_,rfl,_,rfl,by omega,by omega,nO (n:=Int.toNat (m:Int)) (λi σ H'=>∃y z,σ=σN a b m r p y z/\SB b H H'/\H' b=some (.lst [.int (n+1)])/\H' p=some (.lst (((List.range i).map (nameAt r)).map V.str))) ?_ ?_ ?_⟩
 . exact⟨_,_,rfl,s2.trans (SB.new hp),by rw[fV (gc h2 hp)];exact h2,fZ⟩
 . intro i σ H' hi zq;obtain⟨y,z,rfl,sb,ah,af⟩:=zq;rw[em] at hi
   have ae:(((List.range i).map (nameAt r)).map V.str).length<sizeLine:=by
    rw[Q04,Q04,Q1p];exact i2 (by omega)
   have next:∀(v:Str) (y' z':Option V),v=nameAt r i->∃y z,σN a b m r p y' z'=σN a b m r p y z/\SB b H (upd H' p (.lst (((List.range i).map (nameAt r)).map V.str++[V.str v])))/\
    upd H' p (.lst (((List.range i).map (nameAt r)).map V.str++[V.str v])) b=some (.lst [.int (n+1)])/\upd H' p (.lst (((List.range i).map (nameAt r)).map V.str++[V.str v])) p=some (.lst (((List.range (i+1)).map (nameAt r)).map V.str)):=by
    rintro v y' z' rfl;refine⟨y',z',rfl,λc o hc hh=>?_,by rw[fV (Ne.symm al)];exact ah,by rw[fZ,Ls]⟩;by_cases e:c=p
    . subst e;have:=s2 c o hc hh;rw[hp] at this;cases this
    . rw[fV e];exact sb c o hc hh
   have e0:(0:Int)+(i:Int)=(i:Int):=by omega
   refine⟨_,rfl,_,_,rfl,rfl,⟨by decide,by decide⟩,_,_,rfl,rfl,(by show(0:Int)<_;decide),rfl,_,rfl,?_⟩;refine iS (λc=>?_) (λc=>?_)
   . have c':r / 12168 % 4=0:=by
      have:=of_decide_eq_true c;injection this
     refine⟨_,rfl,.inl ⟨rfl,_,fY.of af⟩,_,rfl,_,rfl,_,_,rfl,rfl,⟨by decide,by decide⟩,_,_,rfl,rfl,(by show(0:Int)<_;decide),_,_,_,rfl,rfl,hz,qo l1.1 l1.2,_,rfl,_,_,rfl,rfl,_,_,rfl,rfl,?_,p,_,_,rfl,rfl,af,ae,?_⟩
     . rw[e0];exact La (tX _) (by omega) Lr
     . refine next _ _ _ ?_;rw[e0];unfold nameAt;rw[if_pos c'];rfl
   . have c':¬r / 12168 % 4=0:=λz=>c (decide_eq_true (show V.int (r / 12168 % 4)=V.int 0 by rw[z]));have l3:0<=(r / 156+((0:Int)+(i:Int)) * (2 * (r % 6)+1)) % 26/\(r / 156+((0:Int)+(i:Int)) * (2 * (r % 6)+1)) % 26<26:=⟨Q0m _ (by decide),Q0n _ (by decide)⟩;have ls:(stemOf r).length<=sizeLine:=jj;refine⟨_,rfl,_,rfl,_,_,rfl,rfl,⟨by decide,by decide⟩,_,rfl,_,rfl,_,_,rfl,rfl,.inl ⟨by omega,by omega⟩,_,_,rfl,rfl,_,_,rfl,rfl,(by show(0:Int)<_;decide),_,_,_,rfl,rfl,hz,qo l3.1 l3.2,?_⟩;have k1:=Txt.slice_le (stemOf r) none (some (r / 4056 % 3));have k2:=Txt.slice_le (stemOf r) (some (r / 4056 % 3)) none;have k0:(stemOf r).length=2:=rfl;rw[k0] at k1 k2;refine⟨_,rfl,.inl ⟨rfl,_,fY.of af⟩,_,rfl,_,rfl,_,rfl,_,rfl,ls,_,rfl,_,_,rfl,rfl,?_,_,rfl,_,rfl,_,rfl,_,rfl,ls,_,_,rfl,rfl,?_,p,_,_,rfl,rfl,af,ae,?_⟩
     . show _+1<=sizeLine;exact Q0b (Q3i k1 1) (by decide)
     . rw[Em];show _+1+_<=sizeLine;exact Q0b (Nat.add_le_add (Q3i k1 1) k2) (by decide)
     . refine next _ _ _ ?_;rw[e0];unfold nameAt;rw[if_neg c'];rfl
 . intro σ H' zq;obtain⟨y,z,rfl,sb,ah,af⟩:=zq;rw[em] at af;have ae:((List.range m).map (nameAt r)).length=m:=by rw[Q04,Q1p]
   refine⟨_,rfl,p,_,rfl,fY.of af,by rw[ae];omega,λp' am ai ag ak=>?_⟩;refine q p' am _ (sb.trans (SB.new ai)) (by rw[fV (gc ah ai)];exact ah) (λz=>by rw[z,ah] at ai;cases ai) fZ (ag.length_eq.trans ae) (ag.nodup_iff.mpr (names_nodup r0 hm)) (Er ak) λx hx=>?_;obtain⟨i,hi,rfl⟩:=List.mem_map.mp (ag.mem_iff.mp hx);exact Lf (by have:=List.mem_range.mp hi;omega)
theorem Lv:gM Xi XG (gn (top 41)):=gT
theorem EF (d:Nat)(T:Tb mg)(J:Dn K mg "_law_fields" lK (top 41) L U)(Y:Dn K mg "_law_names" pz (top 39) aa ab)(ac:e_ P w K mg base fW (2) aa ab pz (wI K))(ae:Dn K mg "_law_kind" md (top 43) af ag)(ah:e_ P w K mg base fW (2 * d+4) af ag md (qz K d)):e_ P w K mg base fW (2 * d+5) L U lK (ui K d):=by
 refine J.F.ok Lv λvs H Q E h=>?_;obtain⟨a,b,ns,n,m,rfl,hm,g,hn,q⟩:=h;refine⟨rfl,λaF A outer s nd hr hu=>?_⟩
 refine⟨_,(fT (gv 4 nd (f9 ac hr Y (a_ (pv 0) (a_ (pv 1) (a_ (pv 2) c_)))))
  (fX (f6 (jZ o6 (by rfl) T.lJ boot_tuple (a_ (j9 (g:=(iY 0)) (tt:=kx) (te:=(qY (iO (gR 0) (iO (mZ _ _ _ (iO (gR 1) (iO (gR 2) (iO (gR 4) jT)))) jT)))) (own:=["_law_name"]) rfl (jW (N:=Xi) (sc:=gn (top 41))) (s_ (pv 4)) (λ_ _ _ _ _=>(gK (i:=0) (show(["_law_name","_law_script","_law_at","_law_many","_law_deep","_law_names_here"]:List Str).Nodup by decide +kernel) rfl (Or.inl rfl) (.inr rfl))) (λ_ _ _ _ _=>lb) (λ_ _ _ _ _=>(jd (a_ (pv 0) (a_ (f9 ah hr ae (a_ (pv 1) (a_ (pv 2) (a_ (pv 4) c_)))) c_))))) c_))))),?_⟩
 ac_rfl
 have aG:0<=(m:Int) * ck d:=Int.mul_nonneg (by omega) (by omega);have ar:n<=1000000000000:=by omega
 refine⟨_,rfl,_,rfl,_,rfl,a,b,ns,n,m,rfl,by omega,g,ar,λp ss H1 s1 h1 au hp hl av aw ap=>?_⟩
 refine⟨_,rfl,p,rfl,⟨_,fY.of hp⟩,λi m' ys H'=>m'=ss.length - i/\i<=ss.length/\∃(fs:Fs) (n':Int),SB b H H'/\H' b=some (.lst [.int n'])/\n<=n'/\n'<=n+1+i * ck d/\H' p=some (.lst (ss.map V.str))/\FA H' ys fs/\fs.names=ss.take i/\fs.dep<=d+1/\ys.length=i/\fs.W,
  ⟨_,rfl,Q0g _,.nil,n+1,s1,h1,by omega,by omega,hp,by unfold FA;rfl,by simp[Fs.names],by simp[Fs.dep],rfl,by unfold Fs.W;trivial⟩,?_⟩
 intro i m' ys H' zq;obtain⟨rfl,aE,fs,n',sb,ak,z1,z2,al,hf,ai,ax,hy,hW⟩:=zq;by_cases hi:i<ss.length
 . refine .inr ⟨⟨_,.str ss[i],fY.of al,by rw[Q0f,Q03 hi];rfl⟩,i2 (by omega),λx ay y=>?_⟩;obtain⟨rfl,y⟩:=y;have hx:=y _ (fY.of al)
   have ex:x=.str ss[i]:=by
    rw[Q0f,Q03 hi] at hx;exact(Option.some.inj hx).symm
   subst ex;refine⟨rfl,yes (ix ?_)⟩;have az:((i:Int)+1) * ck d<=(m:Int) * ck d:=Q21 (by omega) (by omega);rw[Q2p,Int.one_mul] at az;refine⟨_,rfl,_,rfl,_,rfl,_,rfl,a,b,ns,n',rfl,g.go sb ak z1,by omega,λv k aA H2 s2 h2 y1 y2 hk aH aB=>?_⟩;refine⟨jj,λt ht=>?_⟩;have aD:t≠b:=λz=>by rw[z,h2] at ht;cases ht
   have an:Tu H2 (upd H2 t (.tup [.str ss[i],v])):=Tu.of (λc o h=>by rw[fV (gc h ht)];exact h);have tu:Tu ay (upd H2 t (.tup [.str ss[i],v])):=(s2.tu ak).trans an;refine⟨_,Nat.sub_lt_sub_left hi (Q12 i),rfl,hi,fs.snoc ss[i] k,aA,sb.trans (s2.trans (SB.new ht)),by rw[fV (Ne.symm aD)];exact h2,by omega,?_,?_,FA.snoc fZ (KA.mono an k hk) fs (FA.mono tu fs hf),?_,?_,?_,Fs.wh aB hW⟩
   . have e:((i+1:Nat):Int) * ck d=(i:Int) * ck d+ck d:=by
      rw[Q3j,Q2p];simp
     rw[e];omega
   . have h3:=s2 p _ au al;rw[fV (gc h3 ht)];exact h3
   . rw[Fs.we,ai,Q0y,Q03 hi];rfl
   . rw[Fs.wg];omega
   . rw[Q0a,hy];rfl
 . have ei:i=m:=by omega
   subst ei;refine .inl ⟨⟨_,fY.of al,by rw[Q04];omega⟩,λp' aj=>?_⟩;refine⟨p',ys,rfl,.inl ⟨fY.of fZ,λt ht=>?_⟩⟩;have aq:p'≠b:=λz=>by rw[z,ak] at aj;cases aj
   have ao:upd H' p' (.lst ys) b=some (.lst [.int n']):=by rw[fV (Ne.symm aq)];exact ak
   have tu:Tu H' (upd (upd H' p' (.lst ys)) t (.tup ys)):=λc xs h=>by
    rw[fV (gc (show upd H' p' (.lst ys) c=some (.tup xs) by rw[fV (gc h aj)];exact h) ht),fV (gc h aj)];exact h
   have am:ss.take i=ss:=by rw[<-hl,Q0w]
   refine q t ys fs n' _ (sb.trans ((SB.new aj).trans (SB.new ht))) (by rw[fV (gc ao ht)];exact ao) z1 (by omega) fZ (FA.mono tu fs hf) ?_ ?_ ax hW ?_ ?_
   . rw[ai,am];exact av
   . rw[ai,am];exact hl
   . rw[ai,am];exact aw
   . rw[ai,am];exact ap
noncomputable def σR (a b:Addr) (m d:Nat) (p:Addr) (r:Int) (J:Addr) (x y z:Option V):St:=
 [some (.ref a),some (.ref b),some (.int m),some (.int d),some (.ref p),some (.int r),some (.int (r % m)),some (.int (r / m % (m+1))),some (.ref J),x,y,z]
theorem wK {ss:List Str}{z:Int}(J:0<=z)(h1:z<ss.length):∃x:Str,jo (ss.map V.str) z=some (.str x)/\ss[z.toNat]? =some x:=by
 obtain⟨j,rfl⟩:∃j:Nat,z=(j:Int):=⟨z.toNat,by omega⟩;exact⟨ss[j]'(by omega),lF (by rw[Q0f,Q03 (by omega)];rfl),by rw[Q2e];exact Q03 (by omega)⟩
theorem Fs.EG:∀{fs:Fs}{x:Str}{k:Kd}{j:Nat}{y:Str}{q:Kd},fs.at j=some (y,q)->(fs.snoc x k).at j=some (y,q)
 | .nil,_,_,_,_,_,h=>by cases h
 | .cons _ _ _,_,_,0,_,_,h=>h
 | .cons _ _ r,x,k,j+1,y,q,h=>Fs.EG (fs:=r) (j:=j) h
theorem Fs.EH:∀{fs:Fs}{x:Str}{k:Kd},(fs.snoc x k).at fs.names.length=some (x,k)
 | .nil,_,_=>rfl
 | .cons _ _ r,x,k=>Fs.EH (fs:=r)
theorem Lw:gM ["_law_script","_law_at","_law_many","_law_deep","_law_names_here","_law_m","_law_lead","_law_by","_law_fields_here","_law_k","_law_kind_here","_law_name"] XG (gn (top 42)):=gT
theorem Lx (d:Nat)(T:Tb mg)(U:Dn K mg "_law_rows_kind" lK (top 42) Y aa)(ae:Dn K mg "_law_names" pz (top 39) af ag)(ah:e_ P w K mg base fW (2) af ag pz (Ex K))(an:Dn K mg "_law_next" ib (top 36) ao ap)(aq:e_ P w K mg base fW (1) ao ap ib (pB K))(ai:Dn K mg "_law_plain" ib (top 40) aj ak)(al:e_ P w K mg base fW (2) aj ak ib (uh K))(ar:Dn K mg "_law_kind" md (top 43) au av)(aw:e_ P w K mg base fW (2 * d+4) au av md (qz K d)):
 e_ P w K mg base fW (2 * d+5) Y aa lK (Ez K d):=by
 refine U.F.ok Lw λvs H Q E h=>?_;obtain⟨a,b,ns,n,m,rfl,bo,hm,g,hn,q⟩:=h;refine⟨rfl,λbp A outer s nd hr hu=>?_⟩
 refine⟨_,(fT (gv 4 nd (f9 ah hr ae (a_ (pv 0) (a_ (pv 1) (a_ (pv 2) c_)))))
  (fT (gv 5 nd (f9 aq hr an (a_ (pv 0) (a_ (pv 1) c_))))
  (fT (gv 6 nd (gh iw (pv 5) (pv 2)))
  (fT (gv 7 nd (gh iw (gh jh (pv 5) (pv 2)) (gh j5 (pv 2) d_)))
  (fT (gv 8 nd (iM c_))
  (fT (jt PassesOwn.never rfl (oR rfl T.nW (a_ (pv 2) c_)) (gK (i:=9) nd rfl ip) (fT (gv 10 nd (f9 aw hr ar (a_ (pv 0) (a_ (pv 1) (a_ (pv 3) c_)))))
  (fT (gp (PW.pt (iX (gw gL (pv 9) (pv 6) (gj _)) (i5 (gw gL (pv 9) (pv 7) (gj _))))) (fX (gv 10 nd (f9 al hr ai (a_ (pv 0) (a_ (pv 1) c_))))) gu)
  (fX (kY (rf PySem.F.plainAttrs_list PySem.F.slot_list_append PySem.F.type_list_append tF (pv 8) (a_ (jd (a_ (ka (pv 4) (pv 9)) (a_ (pv 10) c_))) c_)))))))
  (fT (gv 11 nd gH)
  (fT (gp (PW.pt (oM (gw tD (pv 7) (pv 2) (gj _)) (oK (gw jF (pv 7) (pv 6) (gj _))))) (fX (gv 11 nd (ka (pv 4) (pv 7)))) gu)
  (fX (f6 (jd (a_ gH (a_ (ka (pv 4) (pv 6)) (a_ (pv 11) (a_ (jZ o6 (by rfl) T.lJ boot_tuple (a_ (pv 8) c_)) c_))))))))))))))),?_⟩
 ac_rfl
 refine⟨_,rfl,_,rfl,_,rfl,a,b,ns,n,m,rfl,by omega,g,by omega,λp ss H1 s1 h1 aA hp hl a9=>?_⟩;refine⟨_,rfl,_,rfl,a,b,ns,n+1,rfl,g.go s1 h1 (by omega),by omega,λr H2 r0 r1 s2 h2=>?_⟩;have aN:H2 p=some (.lst (ss.map V.str)):=s2 p _ aA hp;have aV:SB b H H2:=s1.trans s2;refine⟨_,rfl,_,rfl,_,_,rfl,rfl,by omega,?_⟩;refine⟨_,rfl,_,rfl,_,_,rfl,rfl,⟨by omega,by omega⟩,_,rfl,_,_,rfl,rfl,_,_,rfl,rfl,by omega,?_⟩;refine⟨kT,λJ aB=>?_⟩;have ab:J≠b:=λz=>by rw[z,h2] at aB;cases aB
 have aW:p≠J:=λz=>by rw[z,aB] at aN;cases aN
 have a5:∀o,H J=some o->False:=λo ho=>by
  have:=aV J o ab ho;rw[aB] at this;cases this
 have em:Int.toNat (m:Int)=m:=by omega
 refine⟨_,rfl,_,rfl,by omega,by omega,nO (n:=Int.toNat (m:Int)) (λi σ H'=>∃(x y z:Option V) (n':Int) (ys:List V) (fs:Fs),σ=σR a b m d p r J x y z/\SB b H H'/\H' b=some (.lst [.int n'])/\n<=n'/\n'<=n+2+i * (ck d+1)/\
  H' p=some (.lst (ss.map V.str))/\H' J=some (.lst ys)/\FA H' ys fs/\fs.dep<=d+1/\ys.length=i/\fs.W/\fs.names=ss.take i/\∀j:Nat,j<i->((j:Int)=r % m\/(j:Int)=r / m % (m+1))->∃y q,fs.at j=some (y,q)/\qh q) ?_ ?_ ?_⟩
 . refine⟨_,_,_,n+1+1,[],.nil,rfl,aV.trans (SB.new aB),by rw[fV (Ne.symm ab)];exact h2,by omega,by omega,by rw[fV aW];exact aN,fZ,by unfold FA;rfl,by simp[Fs.dep],rfl,by unfold Fs.W;trivial,rfl,λj hj=>absurd hj (by omega)⟩
 . intro i σ H' hi zq;obtain⟨x,y,z,n',ys,fs,rfl,sb,ax,z1,z2,am,L,aI,ba,hy,hW,aJ,aK⟩:=zq;rw[em] at hi;have bb:(i:Int)<=2:=by omega
   have bq:(i:Int) * (ck d+1)<=2 * (ck d+1):=Q21 bb (by omega)
   have e1:((i+1:Nat):Int) * (ck d+1)=(i:Int) * (ck d+1)+(ck d+1):=by
    rw[Q3j,Q2p];simp
   have aD:ys.length<sizeLine:=i2 (by omega);have bc:∃q:Str,jo (ss.map V.str) ((0:Int)+(i:Int))=some (.str q)/\ss[((0:Int)+(i:Int)).toNat]? =some q:=wK (by omega) (by omega);obtain⟨nm,aE,ay⟩:=bc
   have ay:ss[i]? =some nm:=by
    rw[show((0:Int)+(i:Int)).toNat=i by omega] at ay;exact ay
   have bd:fs.names.length=i:=by rw[<-FA.len fs aI];exact hy
   have next:∀(x' y' z':Option V) (v:V) (k:Kd) (n2:Int) (H3:Hp) (t:Addr),SB b H' H3->H3 b=some (.lst [.int n2])->n'<=n2->n2<=n'+(ck d+1)->KA H3 v k->k.dep<=d+1->k.W->(((i:Int)=r % m\/(i:Int)=r / m % (m+1))->qh k)->H3 t=none->
    ∃(x y z:Option V) (n':Int) (aO:List V) (fs:Fs),σR a b m d p r J x' y' z'=σR a b m d p r J x y z/\SB b H (upd (upd H3 t (.tup [.str nm,v])) J (.lst (ys++[.ref t])))/\(upd (upd H3 t (.tup [.str nm,v])) J (.lst (ys++[.ref t]))) b=some (.lst [.int n'])/\n<=n'/\
     n'<=n+2+((i+1:Nat):Int) * (ck d+1)/\(upd (upd H3 t (.tup [.str nm,v])) J (.lst (ys++[.ref t]))) p=some (.lst (ss.map V.str))/\(upd (upd H3 t (.tup [.str nm,v])) J (.lst (ys++[.ref t]))) J=some (.lst aO)/\
     FA (upd (upd H3 t (.tup [.str nm,v])) J (.lst (ys++[.ref t]))) aO fs/\fs.dep<=d+1/\aO.length=i+1/\fs.W/\fs.names=ss.take (i+1)/\∀j:Nat,j<i+1->((j:Int)=r % m\/(j:Int)=r / m % (m+1))->∃y q,fs.at j=some (y,q)/\qh q:=by
    intro x' y' z' v k n2 H3 t s3 h3 w1 w2 hk aX aP be ht;have aY:H3 J=some (.lst ys):=s3 J _ ab L;have aZ:H3 p=some (.lst (ss.map V.str)):=s3 p _ aA am;have bf:t≠J:=λz=>by rw[z,aY] at ht;cases ht
    have bg:t≠b:=λz=>by rw[z,h3] at ht;cases ht
    have bh:t≠p:=λz=>by rw[z,aZ] at ht;cases ht
    have a1:Tu H3 (upd (upd H3 t (.tup [.str nm,v])) J (.lst (ys++[.ref t]))):=λc xs h=>by
     rw[fV (jz h aY (by intro z;cases z)),fV (gc h ht)];exact h
    have rU:upd (upd H3 t (.tup [.str nm,v])) J (.lst (ys++[.ref t])) t=some (.tup [.str nm,v]):=by rw[fV bf];exact fZ
    refine⟨x',y',z',n2,ys++[.ref t],fs.snoc nm k,rfl,λc o hc hh=>?_,?_,by omega,by rw[e1];omega,?_,fZ,FA.snoc rU (KA.mono a1 k hk) fs (FA.mono ((s3.tu ax).trans a1) fs aI),by rw[Fs.wg];omega,by rw[Q0a,hy];rfl,Fs.wh aP hW,by rw[Fs.we,aJ,Q0y,ay];rfl,λj hj az=>?_⟩
    . have q1:=s3 c o hc (sb c o hc hh);by_cases e:c=J
      . subst e;exact(a5 o hh).elim
      . rw[fV e,fV (gc q1 ht)];exact q1
    . rw[fV (Ne.symm ab),fV (Ne.symm bg)];exact h3
    . rw[fV aW,fV (Ne.symm bh)];exact aZ
    . by_cases e:j<i
      . obtain⟨y,q,e1,e2⟩:=aK j e az;exact⟨y,q,Fs.EG e1,e2⟩
      . have:j=i:=by omega
        subst this;exact⟨nm,k,by have:=Fs.EH (fs:=fs) (x:=nm) (k:=k);rwa [bd] at this,be az⟩
   refine⟨_,rfl,_,rfl,_,rfl,a,b,ns,n',rfl,g.go sb ax z1,by omega,λv k n2 H3 s3 h3 w1 w2 hk aX aP=>?_⟩;refine⟨_,rfl,_,rfl,rfl,_,rfl,?_⟩;refine iS (λc=>ix ?_) (λcL=>⟨_,rfl,_,rfl,rfl,_,rfl,iS (λc=>?_) (λc=>?_)⟩)
   . refine⟨_,rfl,_,rfl,a,b,ns,n2,rfl,(g.go sb ax z1).go s3 h3 w1,by omega,λv' k' H4 s4 h4 aT a6 aF aG=>?_⟩;have ac:=s3.trans s4;refine⟨_,rfl,.inl ⟨rfl,_,fY.of (ac J _ ab L)⟩,_,rfl,_,rfl,p,_,_,_,rfl,rfl,fY.of (ac p _ aA am),aE,_,rfl,jj,λt ht=>?_⟩;refine⟨J,_,_,rfl,rfl,by rw[fV (gc (ac J _ ab L) ht)];exact ac J _ ab L,aD,?_⟩;exact next _ _ _ v' k' _ H4 t ac h4 (by omega) (by omega) aT (by omega) aG (λ_=>aF) ht
   . refine⟨_,rfl,_,rfl,a,b,ns,n2,rfl,(g.go sb ax z1).go s3 h3 w1,by omega,λv' k' H4 s4 h4 aT a6 aF aG=>?_⟩;have ac:=s3.trans s4;refine⟨_,rfl,.inl ⟨rfl,_,fY.of (ac J _ ab L)⟩,_,rfl,_,rfl,p,_,_,_,rfl,rfl,fY.of (ac p _ aA am),aE,_,rfl,jj,λt ht=>?_⟩;refine⟨J,_,_,rfl,rfl,by rw[fV (gc (ac J _ ab L) ht)];exact ac J _ ab L,aD,?_⟩;exact next _ _ _ v' k' _ H4 t ac h4 (by omega) (by omega) aT (by omega) aG (λ_=>aF) ht
   . refine⟨_,rfl,.inl ⟨rfl,_,fY.of (s3 J _ ab L)⟩,_,rfl,_,rfl,p,_,_,_,rfl,rfl,fY.of (s3 p _ aA am),aE,_,rfl,jj,λt ht=>?_⟩;refine⟨J,_,_,rfl,rfl,by rw[fV (gc (s3 J _ ab L) ht)];exact s3 J _ ab L,aD,?_⟩;refine next _ _ _ v k _ H3 t s3 h3 (by omega) (by omega) hk aX aP (λaz=>?_) ht
     exact(by
      rcases az with e|e
      . exact absurd (decide_eq_true (show V.int ((0:Int)+(i:Int))=V.int (r % m) by rw[<-e];congr 1;omega)) cL
      . exact absurd (decide_eq_true (show V.int ((0:Int)+(i:Int))=V.int (r / m % (m+1)) by rw[<-e];congr 1;omega)) c)
 . intro σ H' zq;obtain⟨x,y,z,n',ys,fs,rfl,sb,ax,z1,z2,am,L,aI,ba,hy,hW,aJ,aK⟩:=zq;rw[em] at z2 hy aK aJ;have e3:(m:Int) * (ck d+1)<=3 * (ck d+1):=Q21 (by omega) (by omega);have l0:0<=r % (m:Int):=Q0m _ (by omega);have l1:r % (m:Int)<m:=Q0n _ (by omega);have b0:0<=r / (m:Int) % ((m:Int)+1):=Q0m _ (by omega);obtain⟨xk,aU,bi⟩:=wK (ss:=ss) l0 (by omega);have aH:fs.names=ss:=by rw[aJ,<-hl,Q0w]
   have a2:fs.names.Nodup:=by rw[aH];exact a9
   have pl:∀(z:Int) (x:Str),0<=z->z<m->(z=r % m\/z=r / m % (m+1))->ss[z.toNat]? =some x->fs.pl x:=λz x h0 h1 az hx=>by
    obtain⟨y,q,e1,e2⟩:=aK z.toNat (by omega) (by rw[Q3k h0];exact az);have a3:=Fs.kz fs z.toNat;rw[e1,aH,hx] at a3;have e3:some x=some y:=a3
    cases e3;exact⟨q,Fs.nS a2 e1,e2⟩
   have bj:fs.pl xk:=pl _ _ l0 l1 (.inl rfl) bi;have aM:fs.names.length<=12:=by rw[aH,hl];omega
   have fin:∀(nm:Str),(nm=""\/fs.pl nm)->∀(t:Addr),H' t=none->∀v:Addr,upd H' t (.tup ys) v=none->Q (.ref v) (upd (upd H' t (.tup ys)) v (.tup [.str "rows",.str xk,.str nm,.ref t])):=by
    intro nm bm t ht v hv;have bn:v≠t:=λz=>by rw[z,fZ] at hv;cases hv
    have tu:Tu H' (upd (upd H' t (.tup ys)) v (.tup [.str "rows",.str xk,.str nm,.ref t])):=λc xs h=>by
     have e:upd H' t (.tup ys) c=some (.tup xs):=by rw[fV (gc h ht)];exact h
     rw[fV (gc e hv)];exact e
    have a4:upd H' t (.tup ys) b=some (.lst [.int n']):=by rw[fV (gc ax ht)];exact ax
    refine q (.ref v) (.rows xk nm fs) n' _ (sb.trans ((SB.new ht).trans (SB.new hv))) (by rw[fV (gc a4 hv)];exact a4) z1 (by omega) ?_ (by simp only[Kd.dep];omega) (by unfold Kd.W;exact⟨a2,aM,hW,bj,bm⟩) ⟨_,_,_,rfl⟩;unfold KA;exact⟨v,t,ys,rfl,fZ,by rw[fV (Ne.symm bn)];exact fZ,FA.mono tu fs aI⟩
   refine⟨_,rfl,_,rfl,_,_,rfl,rfl,_,rfl,?_⟩;refine iS (λc=>⟨_,rfl,_,rfl,rfl,_,rfl,iS (λc2=>?_) (λc2=>?_)⟩) (λc=>gP ?_)
   . have c':r / (m:Int) % ((m:Int)+1)<m:=of_decide_eq_true c;obtain⟨nm,a7,a8⟩:=wK (ss:=ss) b0 (by omega);refine⟨_,rfl,_,rfl,p,_,_,_,rfl,rfl,fY.of am,a7,?_⟩;exact⟨_,rfl,_,rfl,p,_,_,_,rfl,rfl,fY.of am,aU,_,rfl,_,rfl,J,ys,rfl,.inl ⟨fY.of L,λt ht=>⟨wH,λv hv=>fin nm (.inr (pl _ _ b0 c' (.inr rfl) a8)) t ht v hv⟩⟩⟩
   . exact⟨_,rfl,_,rfl,p,_,_,_,rfl,rfl,fY.of am,aU,_,rfl,_,rfl,J,ys,rfl,.inl ⟨fY.of L,λt ht=>⟨wH,λv hv=>fin _ (.inl rfl) t ht v hv⟩⟩⟩
   . exact⟨_,rfl,_,rfl,p,_,_,_,rfl,rfl,fY.of am,aU,_,rfl,_,rfl,J,ys,rfl,.inl ⟨fY.of L,λt ht=>⟨wH,λv hv=>fin _ (.inl rfl) t ht v hv⟩⟩⟩
theorem EI:gM ["_law_script","_law_at","_law_deep","_law_m"] Xe (gn (top 43)):=gT
theorem Ly (T:Tb mg)(Y:Dn K mg "_law_kind" md (top 43) aa ab)(ac:Dn K mg "_law_next" ib (top 36) ae af)(ag:e_ P w K mg base fW (1) ae af ib (pB K))(z:Dn K mg "_law_plain" ib (top 40) J L)(U:e_ P w K mg base fW (2) J L ib (uh K)):e_ P w K mg base fW (2 * 0+4) aa ab md (qz K 0):=by
 refine Y.F.ok EI λvs H Q E h=>?_;obtain⟨a,b,ns,n,rfl,g,hn,q⟩:=h;refine⟨rfl,λai A outer s nd hr hu=>?_⟩;have ah:ck 0=2:=rfl;rw[ah] at hn q
 refine⟨_,(fT (gv 3 nd (f9 ag hr ac (a_ (pv 0) (a_ (pv 1) c_))))
  (fT (gp (PW.pt (iX (gw CH (pv 2) d_ (gj _)) (i5 J5))) (fX (f6 (f9 U hr z (a_ (pv 0) (a_ (pv 1) c_))))) gu) Iw)),?_⟩
 ac_rfl
 refine⟨_,rfl,_,rfl,a,b,ns,n,rfl,g,by omega,λr H1 r0 r1 s1 h1=>?_⟩;refine⟨_,rfl,_,_,rfl,rfl,_,rfl,?_⟩;refine iS (λc=>ix ?_) (λc=>(c (by decide)).elim);refine⟨_,rfl,_,rfl,a,b,ns,n+1,rfl,g.go s1 h1 (by omega),by omega,λv k H2 s2 h2 hk hd hp hw=>?_⟩;exact q v k (n+1+1) H2 (s1.trans s2) h2 (by omega) (by omega) hk (by omega) hw
theorem Lz (d:Nat)(T:Tb mg)(L:Dn K mg "_law_kind" md (top 43) U Y)(al:Dn K mg "_law_next" ib (top 36) am an)(ao:e_ P w K mg base fW (1) am an ib (pB K))(ah:Dn K mg "_law_plain" ib (top 40) ai aj)(ak:e_ P w K mg base fW (2) ai aj ib (uh K))(z:Dn K mg "_law_fields" lK (top 41) af ag)(J:e_ P w K mg base fW (2 * d+5) af ag lK (Ey K d))(aa:Dn K mg "_law_rows_kind" lK (top 42) ab ac)(ae:e_ P w K mg base fW (2 * d+5) ab ac lK (Ez K d))
 (ap:e_ P w K mg base fW (2 * d+4) U Y md (qz K d)):e_ P w K mg base fW (2 * (d+1)+4) U Y md (qz K (d+1)):=by
 refine L.F.ok EI λvs H Q E h=>?_;obtain⟨a,b,ns,n,rfl,g,hn,q⟩:=h;refine⟨rfl,λaw A outer s nd hr hu=>?_⟩
 have aq:(ck (d+1):Int)=3 * ck d+6:=by
  have:ck (d+1)=3 * ck d+6:=rfl;omega
 rw[aq] at hn
 refine⟨_,(fT (gv 3 nd (f9 ao hr al (a_ (pv 0) (a_ (pv 1) c_))))
  (fT (gp (PW.pt (iX (gw CH (pv 2) d_ (gj _)) (i5 (gw tD (gh iw (pv 3) d_) d_ (gj _))))) (fX (f6 (f9 ak hr ah (a_ (pv 0) (a_ (pv 1) c_))))) gu)
  (fT (gp (gw tD (gh iw (pv 3) d_) d_ (gj _)) (fX (f6 (jd (a_ gH (a_ (f9 J hr z (a_ (pv 0) (a_ (pv 1) (a_ (gh iw (gh jh (pv 3) d_) d_) (a_ (gh mV (pv 2) d_) c_))))) c_))))) gu)
  (fT (gp (gw tD (gh iw (pv 3) d_) d_ (gj _)) (fX (f6 (f9 ae hr aa (a_ (pv 0) (a_ (pv 1) (a_ (gh j5 d_ (gh iw (gh jh (pv 3) d_) d_)) (a_ (gh mV (pv 2) d_) c_))))))) gu)
  (fT (gp (gw gL (gh iw (pv 3) d_) d_ (gj _)) (fX (f6 (jd (a_ gH (a_ (f9 ap hr L (a_ (pv 0) (a_ (pv 1) (a_ (gh mV (pv 2) d_) c_)))) c_))))) gu)
  (fX (f6 (jd (a_ gH (a_ (f9 J hr z (a_ (pv 0) (a_ (pv 1) (a_ (gh j5 d_ (gh iw (gh jh (pv 3) d_) d_)) (a_ (gh mV (pv 2) d_) c_))))) c_)))))))))),?_⟩
 ac_rfl
 refine⟨_,rfl,_,rfl,a,b,ns,n,rfl,g,by omega,λr H1 r0 r1 s1 h1=>?_⟩;have g1:=g.go s1 h1 (by omega);have e2:(((d+1:Nat):Int)) - 1=(d:Int):=by omega
 have e0:(if decide ((((d+1:Nat):Int))<=0)=true then True else False)=False:=by
  rw[if_neg (by rw[decide_eq_true_iff];omega)]
 refine⟨_,rfl,_,_,rfl,rfl,_,rfl,iS (λc=>?_) (λc=>?_)⟩
 . exact absurd (of_decide_eq_true c) (by omega)
 refine⟨_,rfl,_,_,rfl,rfl,(by show(0:Int)<_;decide),_,_,rfl,rfl,_,rfl,iS (λc1=>?_) (λc1=>?_)⟩
 . refine⟨_,rfl,_,rfl,a,b,ns,n+1,rfl,g1,by omega,λv k H2 s2 h2 hk hd hp hw=>?_⟩;exact q v k (n+1+1) H2 (s1.trans s2) h2 (by omega) (by rw[aq];omega) hk (by omega) hw
 refine⟨_,rfl,_,_,rfl,rfl,(by show(0:Int)<_;decide),_,_,rfl,rfl,_,rfl,iS (λc2=>?_) (λc2=>?_)⟩
 . obtain⟨m,hm⟩:∃m:Nat,r / 10 % 4=(m:Int):=⟨(r / 10 % 4).toNat,by omega⟩;refine⟨_,rfl,_,rfl,_,rfl,_,_,rfl,rfl,⟨by decide,by decide⟩,_,_,rfl,rfl,(by show(0:Int)<_;decide),_,rfl,_,_,rfl,rfl,a,b,ns,n+1,m,(by show [V.ref a,V.ref b,V.int (r / 10 % 4),V.int (((d+1:Nat):Int) - 1)]=_;rw[hm,e2]),by omega,g1,by omega,λt xs fs n' H2 s2 h2 w1 w2 ht ar au hl av hW=>?_⟩;refine⟨jj,λv hv=>?_⟩;have tu:Tu H2 (upd H2 v (.tup [.str "record",.ref t])):=λc ys h=>by rw[fV (gc h hv)];exact h
   refine q (.ref v) (.gI fs) n' _ (s1.trans (s2.trans (SB.new hv))) (by rw[fV (gc h2 hv)];exact h2) (by omega) (by rw[aq];omega) ?_ (by simp only[Kd.dep];omega) (by unfold Kd.W;exact⟨au,by omega,hW⟩);unfold KA;exact⟨v,t,xs,rfl,fZ,tu _ _ ht,FA.mono tu fs ar⟩
 refine⟨_,rfl,_,_,rfl,rfl,(by show(0:Int)<_;decide),_,_,rfl,rfl,_,rfl,iS (λc3=>?_) (λc3=>?_)⟩
 . obtain⟨m,hm⟩:∃m:Nat,1+r / 10 % 3=(m:Int):=⟨(1+r / 10 % 3).toNat,by omega⟩;refine⟨_,rfl,_,rfl,_,rfl,_,_,rfl,rfl,⟨by decide,by decide⟩,_,_,rfl,rfl,(by show(0:Int)<_;decide),_,_,rfl,rfl,_,rfl,_,_,rfl,rfl,a,b,ns,n+1,m,(by show [V.ref a,V.ref b,V.int (1+r / 10 % 3),V.int (((d+1:Nat):Int) - 1)]=_;rw[hm,e2]),by omega,by omega,g1,by omega,λv k n' H2 s2 h2 w1 w2 hk av hw _=>?_⟩;exact q v k n' H2 (s1.trans s2) h2 (by omega) (by rw[aq];omega) hk (by omega) hw
 refine⟨_,rfl,_,_,rfl,rfl,(by show(0:Int)<_;decide),rfl,_,rfl,iS (λc4=>?_) (λc4=>?_)⟩
 . refine⟨_,rfl,_,rfl,_,rfl,_,_,rfl,rfl,a,b,ns,n+1,(by show [V.ref a,V.ref b,V.int (((d+1:Nat):Int) - 1)]=_;rw[e2]),g1,by omega,λu k n' H2 s2 h2 w1 w2 hk av hw=>?_⟩;refine⟨jj,λv hv=>?_⟩;have tu:Tu H2 (upd H2 v (.tup [.str "tree",u])):=λc ys h=>by rw[fV (gc h hv)];exact h
   refine q (.ref v) (.tree k) n' _ (s1.trans (s2.trans (SB.new hv))) (by rw[fV (gc h2 hv)];exact h2) (by omega) (by rw[aq];omega) ?_ (by simp only[Kd.dep];omega) (by unfold Kd.W;exact hw);unfold KA;exact⟨v,u,rfl,fZ,KA.mono tu k hk⟩
 . obtain⟨m,hm⟩:∃m:Nat,1+r / 10 % 3=(m:Int):=⟨(1+r / 10 % 3).toNat,by omega⟩;refine⟨_,rfl,_,rfl,_,rfl,_,_,rfl,rfl,⟨by decide,by decide⟩,_,_,rfl,rfl,(by show(0:Int)<_;decide),_,_,rfl,rfl,_,rfl,_,_,rfl,rfl,a,b,ns,n+1,m,(by show [V.ref a,V.ref b,V.int (1+r / 10 % 3),V.int (((d+1:Nat):Int) - 1)]=_;rw[hm,e2]),by omega,g1,by omega,λt xs fs n' H2 s2 h2 w1 w2 ht ar au hl av hW=>?_⟩;refine⟨jj,λv hv=>?_⟩;have tu:Tu H2 (upd H2 v (.tup [.str "either",.ref t])):=λc ys h=>by rw[fV (gc h hv)];exact h
   refine q (.ref v) (.je fs) n' _ (s1.trans (s2.trans (SB.new hv))) (by rw[fV (gc h2 hv)];exact h2) (by omega) (by rw[aq];omega) ?_ (by simp only[Kd.dep];omega) (by unfold Kd.W;exact⟨au,by omega,by omega,hW⟩);unfold KA;exact⟨v,t,xs,rfl,fZ,tu _ _ ht,FA.mono tu fs ar⟩
theorem kind_all (T:Tb mg)(L:Dn K mg "_law_kind" md (top 43) ab ac)(z:Dn K mg "_law_next" ib (top 36) am an)(J:Dn K mg "_law_plain" ib (top 40) ai aj)(Y:Dn K mg "_law_names" pz (top 39) ak al)(aa:Dn K mg "_law_fields" lK (top 41) ag ah)(U:Dn K mg "_law_rows_kind" lK (top 42) ae af):∀d:Nat,e_ P w K mg base fW (2 * d+4) ab ac md (qz K d)
 |0=>Ly T L z (ug (rT T z)) J (EC T J z (ug (rT T z)))
 |d+1=>by
  have N:=ug (rT (P:=P) (w:=w) (base:=base) T z);have Pl:=EC T J z N;have Nm:=EE T Y z N;have ih:=kind_all T L z J Y aa U d;have Fd:=EF d T aa Y Nm L ih;have Rw:=Lx d T U Y (namesW Nm) z N J Pl L ih;exact Lz d T L z N J Pl aa (Li Fd) U Rw ih
theorem EJ (ns:List Int)(x:Str)(k:Kd)(z:Nat):∀(fs:Fs) (n:Int),gN ns (fs.snoc x k) z n=((gN ns fs z n).1.snoc x (val ns k z (gN ns fs z n).2).1,(val ns k z (gN ns fs z n).2).2)
 | .nil,n=>by
   show gN ns (.cons x k .nil) z n=_;simp only[gN,Ds.snoc]
 | .cons y q r,n=>by
   show gN ns (.cons y q (r.snoc x k)) z n=_;simp only[gN,Ds.snoc];rw[EJ ns x k z r]
theorem EK (g:Int->D × Int):∀(m:Nat) (n:Int),times g (m+1) n=((times g m n).1.snoc "" (g (times g m n).2).1,(g (times g m n).2).2)
 |0,n=>by simp only[times,Ds.snoc]
 |m+1,n=>by
  have z:=EK g m (g n).2;show(Ds.cons "" (g n).1 (times g (m+1) (g n).2).1,(times g (m+1) (g n).2).2)=_;rw[z];simp only[times,Ds.snoc]
theorem wM {g h:Int->D × Int}(e:∀n,g n=h n):∀(m:Nat) (n:Int),times g m n=times h m n
 |0,n=>rfl
 |m+1,n=>by
  simp only[times];rw[e n,wM e m]
theorem n9 {ns:List Int}{f:Nat->Int->D × Int}:∀(fu z:Nat) (n:Int),z<2 ^ fu->i6 ns f (fu+1) z n=i6 ns f (fu+2) z n
 |0,z,n,h=>by
  have e:z=0:=by simpa using h
  subst e
  have J:(nx ns ((f (0 / 2) n).2+1) % (((0:Nat):Int)+1)).toNat=0:=by
   have:nx ns ((f (0 / 2) n).2+1) % (((0:Nat):Int)+1)=0:=by
    show _ % (1:Int)=0;exact Int.emod_one _
   rw[this];rfl
  unfold i6;rw[J];rfl
 |fu+1,z,n,h=>by
  have L:=λm=>n9 (ns:=ns) (f:=f) fu (z / 2) m (by rw[Nat.pow_succ] at h;omega);show(pairD (f (z / 2) n).1 (.lst (times (i6 ns f (fu+1) (z / 2)) _ _).1),(times (i6 ns f (fu+1) (z / 2)) _ _).2)=(pairD (f (z / 2) n).1 (.lst (times (i6 ns f (fu+2) (z / 2)) _ _).1),(times (i6 ns f (fu+2) (z / 2)) _ _).2);rw[wM L]
theorem LA (ns:List Int)(k:Kd)(z:Nat)(n:Int)(h:z<8):val ns (.tree k) z n=
 (pairD (val ns k (z / 2) n).1 (.lst (times (val ns (.tree k) (z / 2)) (nx ns ((val ns k (z / 2) n).2+1) % ((z:Int)+1)).toNat ((val ns k (z / 2) n).2+1)).1),
   (times (val ns (.tree k) (z / 2)) (nx ns ((val ns k (z / 2) n).2+1) % ((z:Int)+1)).toNat ((val ns k (z / 2) n).2+1)).2):=by
 have e:∀m,val ns (.tree k) (z / 2) m=i6 ns (val ns k) 3 (z / 2) m:=λm=>by
  show i6 ns (val ns k) 4 (z / 2) m=_;exact(n9 2 (z / 2) m (by show _<4;omega)).symm
 rw[wM e];simp only[val,i6]
theorem wN {g:Int->Ds × Int}{key:Str}:∀(m:Nat) (z:List Ds) (n:Int),ik g key (m+1) z n=
 (if nV key (ik g key m z n).1 (keyOf (g (ik g key m z n).2).1 key)=true then((ik g key m z n).1,(g (ik g key m z n).2).2) else((ik g key m z n).1++[(g (ik g key m z n).2).1],(g (ik g key m z n).2).2))
 |0,z,n=>by
  simp only[ik]
  first
   |rfl
   |(by_cases c:nV key z (keyOf (g n).1 key)=true <;> simp[c])
 |m+1,z,n=>by
  rw[ik];split
  . rename_i c;rw[wN m z]
    conv=>rhs;rw[ik]
    simp only[c,if_true]
  . rename_i c;rw[wN m (z++[(g n).1])]
    conv=>rhs;rw[ik]
    simp only[c,if_false];rfl
noncomputable def mu:Kd->Nat->Nat
 | .rows key J fs,z=>(2 * (fs.dep+1)+1) * 8+z
 |k,z=>(2 * k.dep) * 8+z
theorem LB (k:Kd)(z:Nat):mu k z<=(2 * k.dep+1) * 8+z:=by
 cases k <;> simp only[mu,Kd.dep] <;> omega
theorem wO {k L:Kd}{z J:Nat}(h:k.dep<L.dep)(U:z<8):mu k z<mu L J:=by
 have:=LB k z
 cases L <;> simp only[mu,Kd.dep] at * <;> omega
noncomputable def gr (z:Nat):Nat:=if z=0 then 1 else if z=1 then 9 else if z<4 then 73 else 585
noncomputable def kc:Kd->Nat->Nat
 | .tree k,z=>(k.cB+1) * gr z
 |k,_=>k.cB
theorem wQ (z:Nat):1<=gr z/\gr z<=585:=by
 unfold gr;by_cases J:z=0
 . rw[if_pos J];omega
 . rw[if_neg J];by_cases h1:z=1
   . rw[if_pos h1];omega
   . rw[if_neg h1];by_cases h2:z<4
     . rw[if_pos h2];omega
     . rw[if_neg h2];omega
theorem LC (z:Nat):gr z<=585:=(wQ z).2
theorem uj (k:Kd)(z:Nat):kc k z<=k.cB:=by
 cases k with
 |tree k=>exact Q3l _ (LC z)
 |_=>exact Q00 _
theorem LD {z:Nat}(h1:1<=z)(J:z<8):1+z * gr (z / 2)<=gr z:=by
 have h:z=1\/z=2\/z=3\/z=4\/z=5\/z=6\/z=7:=by omega
 rcases h with h|h|h|h|h|h|h <;> subst h <;> decide
theorem LF (ns:List Int)(k:Kd)(z:Nat)(n:Int)(h:z<8):n<=(val ns (.tree k) z n).2/\(val ns (.tree k) z n).2<=n+((k.cB+1) * gr z:Nat):=by
 have J:=λ(z:Nat) (n:Int) (h:z<8)=>pq ns k z n h;have e:val ns (.tree k) z n=i6 ns (val ns k) 4 z n:=by simp only[val]
 rw[e];unfold gr;by_cases L:z=0
 . rw[if_pos L,<-n9 2 z n (by omega),<-n9 1 z n (by omega),<-n9 0 z n (by omega)];exact qk (N:=k.cB) J 1 z n h
 . rw[if_neg L];by_cases h1:z=1
   . rw[if_pos h1,<-n9 2 z n (by omega),<-n9 1 z n (by omega)];exact qk (N:=k.cB) J 2 z n h
   . rw[if_neg h1];by_cases h2:z<4
     . rw[if_pos h2,<-n9 2 z n (by omega)];exact qk (N:=k.cB) J 3 z n h
     . rw[if_neg h2];exact qk (N:=k.cB) J 4 z n h
theorem EL (ns:List Int):∀(fs:Fs) (i z:Nat) (n:Int) (x:Str) (k:Kd),fs.at i=some (x,k)->jA ns fs i z n=(pairD (.str x) (val ns k z n).1,(val ns k z n).2)
 | .nil,i,_,_,_,_,h=>by cases h
 | .cons y q r,0,z,n,x,k,h=>by
   cases h;simp only[jA]
 | .cons y q r,i+1,z,n,x,k,h=>by
   simp only[jA];exact EL ns r i z n x k h
theorem Fs.EM:∀{fs:Fs}{i:Nat}{x:Str}{k:Kd},fs.at i=some (x,k)->k.cB<=fs.cB
 | .nil,_,_,_,h=>by cases h
 | .cons y q r,0,x,k,h=>by
   cases h;simp only[Fs.cB];omega
 | .cons y q r,i+1,x,k,h=>by
   have:=Fs.EM (fs:=r) (i:=i) h;simp only[Fs.cB];omega
theorem Fs.EO:∀{fs:Fs}{i:Nat}{x:Str}{k:Kd},fs.at i=some (x,k)->(fs.take i).cB+k.cB<=fs.cB
 | .nil,_,_,_,h=>by cases h
 | .cons y q r,0,x,k,h=>by
   cases h;simp only[Fs.take,Fs.cB];omega
 | .cons y q r,i+1,x,k,h=>by
   have:=Fs.EO (fs:=r) (i:=i) h;simp only[Fs.take,Fs.cB];omega
theorem Fs.wR:∀(fs:Fs) (i:Nat),(fs.take i).names=fs.names.take i
 | .nil,i=>by simp[Fs.take,Fs.names]
 | .cons x k r,0=>by simp[Fs.take,Fs.names]
 | .cons x k r,i+1=>by
   show x::(r.take i).names=x::r.names.take i;rw[Fs.wR r i]
theorem Fs.LG {fs:Fs}{i:Nat}{x:Str}{k:Kd}(z:fs.names.Nodup)(h:fs.at i=some (x,k)):x ∉ (fs.take i).names:=by
 rw[Fs.wR];intro J;obtain⟨j,L,e⟩:=Q10 J;have U:fs.names[i]? =some x:=by rw[Fs.kz,h];rfl
 obtain⟨hi,Y⟩:=List.getElem?_eq_some_iff.mp U;rw[Q0r] at L;rw[Q22] at e;have:=(Q28 z).mp (e.trans Y.symm);omega
theorem uk (ns:List Int)(z:Nat):∀(fs:Fs) (n:Int),(gN ns fs z n).1.names=fs.names
 | .nil,n=>by simp[gN,Ds.names,Fs.names]
 | .cons x k r,n=>by
   simp only[gN,Ds.names,Fs.names];rw[uk ns z r]
theorem gF.key {H:Hp}{kvs:List (Key × V)}{m:Ds}{fp:List Addr}{fs:Fs}{x:Str}(h:gF H kvs m fp)(f:ja fs m)(hp:fs.pl x):gO kvs (Sum.inr x)=some (kV (keyOf m x)):=by
 rcases(f.plain hp).2 with⟨z,J,L,_⟩|⟨s,J,L,_⟩
 . obtain⟨v,g,h1,h2,_⟩:=gF.val m h J;unfold Own at h2;rw[h1,L,h2.1];rfl
 . obtain⟨v,g,h1,h2,_⟩:=gF.val m h J;unfold Own at h2;rw[h1,L,h2.1];rfl
abbrev gY (b P:Addr):Hp->Hp->Prop:=Kp (λc=>c=b\/c=P)
theorem _root_.L2.gz.tab {P:Addr}{z:Pos}{J:Str}{H:Hp}(h:gz P z J H):∃ps,H P=some (.gQ ps):=by
 rcases h with e|⟨c,e,_⟩ <;> exact⟨_,e⟩
theorem _root_.L2.gz.keep {P:Addr}{J:Pos}{L:Str}{H H':Hp}(h:gz P J L H)(k:∀c o,(∀xs,o≠ .lst xs)->H c=some o->H' c=some o):gz P J L H':=by
 rcases h with e|⟨c,e,f⟩
 . exact .inl (k _ _ (by intro xs z;cases z) e)
 . exact .inr ⟨c,k _ _ (by intro xs z;cases z) e,k _ _ (by intro xs z;cases z) f⟩
theorem _root_.L2.gz.same {P:Addr}{z:Pos}{J:Str}{H H':Hp}(h:gz P z J H)(s:Same H H'):gz P z J H':=h.keep λc o _ e=>s c o e
theorem _root_.L2.gz.sb {P b:Addr}{z:Pos}{J:Str}{H H':Hp}{l:List V}(h:gz P z J H)(L:H b=some (.lst l))(s:SB b H H'):gz P z J H':=
 h.keep λc o U e=>s c o (jz e L (U l)) e
theorem _root_.L2.gz.wr {P p:Addr}{L:Pos}{U:Str}{H:Hp}{o:HO}(h:gz P L U H)(hp:Mu H p):gz P L U (upd H p o):=by
 have key:∀c u,(∀xs,u≠ .lst xs)->(∀J,u≠ .dK J)->H c=some u->upd H p o c=some u:=λc u h1 h2 e=>by
  rw[fV];· exact e
  intro z;subst z;rcases hp with⟨xs,q⟩|⟨J,q⟩
  . rw[e] at q;exact h1 xs (Option.some.inj q)
  . rw[e] at q;exact h2 J (Option.some.inj q)
 rcases h with e|⟨c,e,f⟩
 . exact .inl (key _ _ (by intro xs z;cases z) (by intro xs z;cases z) e)
 . exact .inr ⟨c,key _ _ (by intro xs z;cases z) (by intro xs z;cases z) e,key _ _ (by intro xs z;cases z) (by intro xs z;cases z) f⟩
theorem SB.iJ {b P:Addr}{H H':Hp}(s:SB b H H'):gY b P H H':=λc o n e=>s c o (λz=>n (.inl z)) e
theorem gY.at {b P c:Addr}{H H':Hp}{n:Int}{J:Pos}{L:Str}{o:HO}(x:gY b P H H')(U:H b=some (.lst [.int n]))(hT:gz P J L H)(h1:o≠ .lst [.int n])(h2:∀ps,o≠ .gQ ps)(e:H c=some o):H' c=some o:=by
 obtain⟨ps,Y⟩:=hT.tab;refine x c o (λz=>?_) e;rcases z with z|z
 . exact jz e U h1 z
 . exact jz e Y (h2 ps) z
theorem gY.tu {b P:Addr}{H H':Hp}{n:Int}{J:Pos}{L:Str}(x:gY b P H H')(U:H b=some (.lst [.int n]))(hT:gz P J L H):Tu H H':=λa xs e=>x.at U hT (by intro z;cases z) (by intro ps z;cases z) e
theorem gY.g0 {K:W.Frag}{a b P:Addr}{H H':Hp}{ns:List Int}{n J:Int}{L:Pos}{U:Str}(x:gY b P H H')(g:G0 K H a b ns n)(hT:gz P L U H)(h:H' b=some (.lst [.int J]))(Y:n<=J):G0 K H' a b ns J:=by
 refine⟨?_,g.len,h,by have:=g.pos;omega⟩;rcases g.jw with⟨o,e⟩|e
 . exact .inl ⟨o,x.at g.at_ hT (by intro z;cases z) (by intro ps z;cases z) e⟩
 . exact .inr e
theorem Own.iJ {b P:Addr}{H₀ H H':Hp}{v:V}{d:D}{fp:List Addr}{n:Int}{L:Pos}{U:Str}(h:Own H v d fp)(x:gY b P H H')(Y:H b=some (.lst [.int n]))(hT:gz P L U H)(J:∃o,H₀ b=some o)(fr:∀c∈fp,H₀ c=none):Own H' v d fp:=by
 refine h.keep (x.tu Y hT) d λc hc o e=>x c o (λz=>?_) e;rcases z with z|z
 . obtain⟨o',e'⟩:=J;have:=fr c hc;rw[z,e'] at this;cases this
 . obtain⟨ps,hP⟩:=hT.tab;rcases Own.alive d h c hc with⟨xs,q⟩|⟨xs,q⟩ <;> rw[z,hP] at q <;> cases q
def rV:Sp:=λvs H Q _=>∃p r b key z fs kvs m fp,vs=[.ref p,.ref r]/\H p=some (.tup [.str "rows",.str key,.str z,.ref b])/\H r=some (.dK kvs)/\gF H kvs m fp/\ja fs m/\fs.pl key/\(z=""\/fs.pl z)/\
 ∀q,H q=none->Q (.ref q) (upd H q (.tup ((rankOf key z m).map kV)))
noncomputable def LH (st:Stmt):Pos:=match(i3 st).getLast? with
 |some (.Return (some (.Call _ _ [⟨_,.Lambda _ _ _ z,_⟩] _)) _)=>z
 |_=>⟨0,0,0,0⟩
noncomputable abbrev lO:Pos:=LH (top 45)
noncomputable abbrev lP:Str:=("_law_rows":Str)++".<locals>."++"<lambda>"
def qB (K:W.Frag) (P:Addr) (N:Nat):Sp:=λvs H Q _=>∃a b ns n J k,∃z:Nat,vs=[.ref a,.ref b,J,.int z]/\G0 K H a b ns n/\gz P lO lP H/\KA H J k/\k.W/\z<8/\mu k z<=N/\n+kc k z<=1000000000000/\
 ∀(v:V) (H':Hp) (fp:List Addr),gY b P H H'->H' b=some (.lst [.int (val ns k z n).2])->gz P lO lP H'->Own H' v (val ns k z n).1 fp->fp.Nodup->(∀c∈fp,H c=none)->Q v H'
def ER (K:W.Frag) (P:Addr) (N:Nat):Sp:=λvs H Q _=>∃a b ns n L key J fs,∃z:Nat,vs=[.ref a,.ref b,L,.int z]/\G0 K H a b ns n/\gz P lO lP H/\KA H L (.rows key J fs)/\(Kd.rows key J fs).W/\z<8/\mu (.rows key J fs) z<=N+1/\n+(Kd.rows key J fs).cB<=1000000000000/\
 ∀(v:V) (H':Hp) (fp:List Addr),gY b P H H'->H' b=some (.lst [.int (val ns (.rows key J fs) z n).2])->gz P lO lP H'->Own H' v (val ns (.rows key J fs) z n).1 fp->fp.Nodup->(∀c∈fp,H c=none)->Q v H'
theorem LI:gM XX XX (gn (top 44)):=gT
theorem LJ (T:Tb mg)(J:Dn K mg "_law_rank" rQ (top 44) L U):e_ P w K mg base fW (1) L U rQ (rV):=by
 refine J.F.ok LI λvs H Q E h=>?_;obtain⟨p,r,b,key,Y,fs,kvs,m,fp,rfl,hp,hR,hO,hF,hk,aa,q⟩:=h;refine⟨rfl,λac A outer s nd hr hu=>?_⟩
 refine⟨_,(fT (gp (gw gL (f7 (pv 0) d_) gH (gj _)) (fX (f6 (jd (a_ (jr hu (pv 1) (f7 (pv 0) d_) (λ_ _=>rfl)) c_)))) gu)
  (fX (f6 (jd (a_ (jr hu (pv 1) (f7 (pv 0) d_) (λ_ _=>rfl)) (a_ (jr hu (pv 1) (f7 (pv 0) d_) (λ_ _=>rfl)) c_)))))),?_⟩
 ac_rfl
 have gk:ig H r (.str key) (some (kV (keyOf m key))):=by have:=ig.k (k:=Sum.inr key) hR;rw[hO.key hF hk] at this;exact this
 refine⟨_,rfl,p,_,_,_,rfl,rfl,fU.of hp,rfl,rfl,_,rfl,iS (λc=>?_) (λc=>?_)⟩
 . have c':Y="":=by
    have:=of_decide_eq_true c;injection this
   refine⟨_,rfl,_,rfl,p,_,_,_,rfl,rfl,fU.of hp,rfl,r,_,rfl,gk,jV,λt ht=>?_⟩;have:=q t ht;unfold rankOf at this;rw[if_pos c'] at this;exact this
 . have c':¬Y="":=λz=>c (decide_eq_true (show V.str Y=V.str "" by rw[z]));have ab:fs.pl Y:=aa.resolve_left c';have gb:ig H r (.str Y) (some (kV (keyOf m Y))):=by have:=ig.k (k:=Sum.inr Y) hR;rw[hO.key hF ab] at this;exact this
   refine⟨_,rfl,_,rfl,p,_,_,_,rfl,rfl,fU.of hp,rfl,r,_,rfl,gb,_,rfl,_,rfl,p,_,_,_,rfl,rfl,fU.of hp,rfl,r,_,rfl,gk,jj,λt ht=>?_⟩;have:=q t ht;unfold rankOf at this;rw[if_neg c'] at this;exact this
theorem LK:gM ["kind","row","key","by"] ["kind","row"] (gn (top 17)):=gT
theorem ES (T:Tb mg)(L:Dn K mg "rank" pA (top 17) U Y):e_ P w K mg base fW (1) U Y pA (rV):=by
 refine L.F.ok LK λvs H Q E h=>?_;obtain⟨p,r,b,key,J,fs,kvs,m,fp,rfl,hp,hR,hO,hF,hk,aa,q⟩:=h;refine⟨rfl,λac A outer s nd hr hu=>?_⟩
 refine⟨_,(fT (gv 2 nd (f7 (pv 0) d_))
  (fT (gv 3 nd (f7 (pv 0) d_))
  (fT (gp (gw gL (pv 3) gH (gj _)) (fX (f6 (jd (a_ (jr hu (pv 1) (pv 2) (λ_ _=>rfl)) c_)))) gu)
  (fX (f6 (jd (a_ (jr hu (pv 1) (pv 3) (λ_ _=>rfl)) (a_ (jr hu (pv 1) (pv 2) (λ_ _=>rfl)) c_)))))))),?_⟩
 ac_rfl
 have gk:ig H r (.str key) (some (kV (keyOf m key))):=by have:=ig.k (k:=Sum.inr key) hR;rw[hO.key hF hk] at this;exact this
 refine⟨_,rfl,p,_,_,_,rfl,rfl,fU.of hp,rfl,?_⟩;refine⟨_,rfl,p,_,_,_,rfl,rfl,fU.of hp,rfl,?_⟩;refine⟨_,rfl,rfl,_,rfl,iS (λc=>?_) (λc=>?_)⟩
 . have c':J="":=by
    have:=of_decide_eq_true c;injection this
   refine⟨_,rfl,_,rfl,r,_,rfl,gk,jV,λt ht=>?_⟩;have:=q t ht;unfold rankOf at this;rw[if_pos c'] at this;exact this
 . have c':¬J="":=λz=>c (decide_eq_true (show V.str J=V.str "" by rw[z]));have ab:fs.pl J:=aa.resolve_left c';have gb:ig H r (.str J) (some (kV (keyOf m J))):=by have:=ig.k (k:=Sum.inr J) hR;rw[hO.key hF ab] at this;exact this
   refine⟨_,rfl,_,rfl,r,_,rfl,gb,_,rfl,_,rfl,r,_,rfl,gk,jj,λt ht=>?_⟩;have:=q t ht;unfold rankOf at this;rw[if_neg c'] at this;exact this
noncomputable def σV (a b J:Addr) (z:Nat) (L ps:Addr) (x y:Option V):St:=[some (.ref a),some (.ref b),some (.ref J),some (.int z),some (.ref L),some (.ref ps),x,y]
theorem ET {α z:Type}{F:α->z->Prop}{a:α}{b:z}:∀{as:List α}{bs:List z},Paired F as bs->F a b->Paired F (as++[a]) (bs++[b])
 |_,_,.nil,h=>.cons h .nil
 |_,_,.cons x r,h=>.cons x (ET r h)
theorem EU {J:List (Key × V)}{z:List Ds}{key:Str}(h:J.map (·.1)=z.map λr=>keyOf r key)(k:Key):(gO J k).isSome=nV key z k:=by
 rw[<-mE];unfold nV;have e:∀(l:List Ds),(l.any λr=>decide (keyOf r key=k))=((l.map λr=>keyOf r key).any λx=>decide (x=k)):=λl=>by rw[Q2q];rfl
 rw[e,<-h,Q2q];rfl
theorem i7.iJ {b P:Addr}{H₀ H H':Hp}{n:Int}{lp:Pos}{ql:Str}(x:gY b P H H')(L:H b=some (.lst [.int n]))(hT:gz P lp ql H)(z:∃o,H₀ b=some o):
 ∀{vs:List V} {U:List Ds} {J:List (List Addr)},i7 H vs U J->(∀c∈J.flatten,H₀ c=none)->i7 H' vs U J
 |_,_,_,.nil,_=>.nil
 |_,_,_,.cons h r,Y=>.cons (h.iJ x L hT z λc hc=>Y c (Q0t _ hc)) (i7.iJ x L hT z r λc hc=>Y c (Q09 _ hc))
theorem i7.keep {H H':Hp}(t:Tu H H'):∀{vs:List V}{J:List Ds}{z:List (List Addr)},i7 H vs J z->(∀c∈z.flatten,∀o,H c=some o->H' c=some o)->i7 H' vs J z
 |_,_,_,.nil,_=>.nil
 |_,_,_,.cons h r,k=>.cons (h.keep t _ λc hc=>k c (Q0t _ hc)) (i7.keep t r λc hc=>k c (Q09 _ hc))
theorem i7.mu {H:Hp}{vs:List V}{J:List Ds}{z:List (List Addr)}(h:i7 H vs J z):∀c∈z.flatten,Mu H c:=gC.alive _ h.own
theorem EV:gM XW XH (gn (top 45)):=gT
theorem LL {Pt c:Addr}(N:Nat)(T:Tb mg)(ak:Dn K mg "_law_rows" j1 (top 45) al ab)(be:ab.code=.ref c)(bD:W.CodeHd base c Pt)(bE:BM mg base)(am:Dn K mg "_law_next" ib (top 36) an ao)(ap:e_ P w K mg base fW (1) an ao ib (qx K))(U:Dn K mg "_law_rank" rQ (top 44) aq ar)(au:e_ P w K mg base fW (1) aq ar rQ (rV))(af:Dn K mg "_law_value" j1 (top 46) ag ah)(ai:e_ P w K mg base fW (2 * N+5) ag ah j1 (qB K Pt N)):
 e_ P w K mg base fW (2 * N+6) al ab j1 (ER K Pt N):=by
 refine ak.F.rF be EV (λvs H Q E h=>?_) (λA outer s H vs Q E hr h=>?_)
 . obtain⟨a,b,ns,n,kv,key,Y,fs,J,rfl,_⟩:=h;rfl
 obtain⟨a,b,ns,n,kv,key,Y,fs,J,rfl,g,hT,hk,hW,b6,bF,hn,q⟩:=h;have nd:=EV.nd;have hu:=tH hr;unfold KA at hk;obtain⟨pk,pb,xs,rfl,a2,bG,bH⟩:=hk;have b7:=hW;unfold Kd.W at hW;obtain⟨bI,bJ,a3,aI,bh⟩:=hW
 refine⟨_,(fT (gv 4 nd (iM c_))
  (fT (gv 5 nd pU)
  (fT (jt PassesOwn.never rfl (oR rfl T.nW (a_ (gh iw (f9 ap hr am (a_ (pv 0) (a_ (pv 1) c_))) (gh j5 (pv 3) d_)) c_)) (gK (i:=6) nd rfl ip) (fT (gv 7 nd (f9 ai hr af (a_ (pv 0) (a_ (pv 1) (a_ (jd (a_ gH (a_ (f7 (pv 2) d_) c_))) (a_ (gh jh (pv 3) d_) c_))))))
  (fX (gp (qS (vQ hu (jr hu (pv 7) (f7 (pv 2) d_) (λ_ _=>rfl)) (pv 5)) (by with_unfolding_all rfl)) (fT (mF hu (pv 5) (jr hu (pv 7) (f7 (pv 2) d_) (λ_ _=>rfl)) iH rfl)
  (fX (kY (rf PySem.F.plainAttrs_list PySem.F.slot_list_append PySem.F.type_list_append tF (pv 4) (a_ (pv 7) c_))))) gu))))
  (fX (f6 (Kv (x:="_law_row") (N':=["","","_law_kind_here","","","","",""]) rfl T.px boot_sorted hr rfl rfl bD bE (lg.of (N:=XW) (sc:=gn (top 45)) rfl rfl rfl rfl rfl (by decide +kernel)) rfl (λ_ _ _ _ _=>rfl) (pv 4) (λ_ _ _ _ _=>(qZ au (ie.deeper (k:=1) (ie.in1 (k:=2) (ie.in1 (k:=3) (hr.mono (by omega)))) _) rfl U.m U.F.kp U.b .nil k_ (a_ (pv 3) (a_ (pv 0) c_)))))))))),?_⟩
 ac_rfl
 have bK:(Kd.rows key Y fs).cB=8 * fs.cB+1:=rfl;rw[bK] at hn;have hb:=g.at_;obtain⟨b8,hP⟩:=hT.tab;refine⟨kT,λpr aP=>?_⟩;intro ps aB
 have aJ:H ps=none:=by
  by_cases e:ps=pr
  . rw[e,fZ] at aB;cases aB
  . rwa [fV e] at aB
 have a4:ps≠pr:=λe=>by rw[e,fZ] at aB;cases aB
 have s0:Same H (upd (upd H pr (.lst [])) ps (.dK [])):=(Same.new aP).trans (Same.new aB);have hT0:=hT.same s0;have g0:G0 K (upd (upd H pr (.lst [])) ps (.dK [])) a b ns n:=⟨(SB.of s0).jw hb g.jw,g.len,s0 _ _ hb,g.pos⟩;refine⟨_,rfl,_,rfl,a,b,ns,n,rfl,g0,by omega,λH1 s1 h1=>?_⟩;refine⟨_,rfl,_,_,rfl,rfl,_,_,rfl,rfl,by omega,?_⟩;have b9:=Q0m (nx ns (n+1)) (show((J:Int)+1)≠0 by omega);have ca:=Q0n (nx ns (n+1)) (show(0:Int)<(J:Int)+1 by omega);have a5:b≠pr:=gc hb aP;have a6:b≠ps:=gc hb aJ;have mS:Pt≠pr:=gc hP aP;have bL:Pt≠ps:=gc hP aJ;have bM:H1 pr=some (.lst []):=s1 pr _ (Ne.symm a5) (by rw[fV (Ne.symm a4)];exact fZ);have bN:H1 ps=some (.dK []):=s1 ps _ (Ne.symm a6) fZ;have bO:gz Pt lO lP H1:=hT0.sb (s0 _ _ hb) s1;have k1:gY b Pt H H1:=λc o nc e=>s1 c o (λz=>nc (.inl z)) (s0 c o e);have cnt:=λm=>rK ns fs (J / 2) m (by omega)
 refine⟨_,rfl,by omega,by omega,nO (n:=Int.toNat (nx ns (n+1) % ((J:Int)+1))) (λi σ H'=>∃x y vs fl sk,σ=σV a b pk J pr ps x y/\gY b Pt H H'/\H' b=some (.lst [.int (ik (gN ns fs (J / 2)) key i [] (n+1)).2])/\gz Pt lO lP H'/\
  H' pr=some (.lst vs)/\H' ps=some (.dK sk)/\i7 H' vs (ik (gN ns fs (J / 2)) key i [] (n+1)).1 fl/\fl.flatten.Nodup/\(∀c∈fl.flatten,H c=none/\c≠pr/\c≠ps)/\sk.map (·.1)=((ik (gN ns fs (J / 2)) key i [] (n+1)).1.map λr=>keyOf r key)/\vs.length<=i) ?_ ?_ ?_⟩
 . exact⟨_,_,[],[],[],rfl,k1,h1,bO,bM,bN,.nil,Q18,λc hc=>absurd hc (by simp),rfl,Q00 _⟩
 . intro i σ H' hi zq;obtain⟨x,y,vs,fl,sk,rfl,kp,aF,aD,aT,a7,ac,aU,aw,aG,bP⟩:=zq;have cb:i<8:=by omega
   obtain⟨c1,c2⟩:=tT (key:=key) cnt i [] (n+1);have c3:i * fs.cB<=7 * fs.cB:=Q19 _ (by omega);have aH:Tu H H':=kp.tu hb hT;refine⟨_,rfl,_,rfl,_,rfl,pk,_,_,_,rfl,rfl,fU.of (aH _ _ a2),rfl,jj,λt ht=>?_⟩;have st:Same H' (upd H' t (.tup [.str "record",.ref pb])):=Same.new ht;have e2:((J / 2:Nat):Int)=(J:Int) / 2:=by omega
   have bQ:KA (upd H' t (.tup [.str "record",.ref pb])) (.ref t) (.gI fs):=by
    unfold KA;exact⟨t,pb,xs,rfl,fZ,st _ _ (aH _ _ bG),FA.mono (aH.trans (Tu.of st)) fs bH⟩
   have cd:=g.pos;refine⟨_,rfl,_,_,rfl,rfl,⟨by decide,by decide⟩,a,b,ns,(ik (gN ns fs (J / 2)) key i [] (n+1)).2,.ref t,.gI fs,J / 2,(by rw[e2];rfl),gY.g0 (kp.trans (Kp.of st)) g hT (st _ _ aF) (by omega),aD.same st,bQ,(by unfold Kd.W;exact⟨bI,bJ,a3⟩),by omega,(by simp only[mu,Kd.dep] at bF ⊢;omega),(by simp only[kc,Kd.cB];omega),?_⟩;intro v H2 fp iJ aE bi ay bw aY;have ev:val ns (.gI fs) (J / 2) (ik (gN ns fs (J / 2)) key i [] (n+1)).2=(.dct (gN ns fs (J / 2) (ik (gN ns fs (J / 2)) key i [] (n+1)).2).1,(gN ns fs (J / 2) (ik (gN ns fs (J / 2)) key i [] (n+1)).2).2):=by simp only[val]
   rw[ev] at aE ay;have bx:=rJ ns fs a3 (J / 2) (ik (gN ns fs (J / 2)) key i [] (n+1)).2 (by omega);have succ:=wN (g:=gN ns fs (J / 2)) (key:=key) i [] (n+1);generalize ik (gN ns fs (J / 2)) key (i+1) [] (n+1)=ce at succ ⊢;generalize ik (gN ns fs (J / 2)) key i [] (n+1)=L at *;generalize gN ns fs (J / 2) L.2=ae at *;have av:gY b Pt H' H2:=(Kp.of st).trans iJ;have bR:∃o,H b=some o:=⟨_,hb⟩;have bj:H2 pr=some (.lst vs):=av pr _ (λz=>z.elim (Ne.symm a5) (Ne.symm mS)) aT;have aV:H2 ps=some (.dK sk):=av ps _ (λz=>z.elim (Ne.symm a6) (Ne.symm bL)) a7;have aa:i7 H2 vs L.1 fl:=i7.iJ av aF aD bR ac λc hc=>(aw c hc).1;have bf:=ay;unfold Own at ay;obtain⟨rr,kvs,fq,rfl,a8,cf,a9⟩:=ay;have az:H2 pk=some (.tup [.str "rows",.str key,.str Y,.ref pb]):=gY.at (kp.trans av) hb hT (by intro z;cases z) (by intro ps z;cases z) a2;have gk:ig H2 rr (.str key) (some (kV (keyOf ae.1 key))):=by have:=ig.k (k:=Sum.inr key) a8;rw[a9.key bx aI] at this;exact this
   have gs:ig H2 ps (kV (keyOf ae.1 key)) (gO sk (keyOf ae.1 key)):=ig.k aV;have sv:=EU aG (keyOf ae.1 key);have aM:gY b Pt H H2:=kp.trans av;refine⟨_,rfl,_,rfl,pk,_,_,_,rfl,rfl,fU.of az,rfl,rr,_,rfl,gk,_,rfl,ps,_,rfl,gs,_,rfl,?_⟩
   cases ec:nV key L.1 (keyOf ae.1 key) with
   |true=>
    rw[ec] at sv;rw[ec,if_pos rfl] at succ;rw[sv];subst succ;exact gP ⟨_,_,vs,fl,sk,rfl,aM,aE,bi,bj,aV,aa,aU,aw,aG,by omega⟩
   |false=>
    rw[ec] at sv;rw[ec,if_neg (by simp)] at succ;rw[sv];subst succ;refine ix ?_
    have bS:gO sk (keyOf ae.1 key)=none:=by
     cases z:gO sk (keyOf ae.1 key) with
     |none=>rfl
     |some o=>rw[z] at sv;cases sv
    have bz:sk.length<sizeLine:=by
     have e1:sk.length=(L.1.map λr=>keyOf r key).length:=by rw[<-aG,Q04]
     rw[Q04] at e1;have cg:=(A3.len aa).1;exact i2 (by omega)
    refine⟨_,rfl,_,rfl,_,rfl,pk,_,_,_,rfl,rfl,fU.of az,rfl,rr,_,rfl,gk,ps,_,rfl,kK.k aV bz,?_⟩;rw[tW bS];have bm:Mu H2 ps:=.inr ⟨_,aV⟩;have bT:Tu H2 (upd H2 ps (.dK (sk++[(keyOf ae.1 key,.bl true)]))):=Tu.wr λys z=>bm.wB ys z;have ba:upd H2 ps (.dK (sk++[(keyOf ae.1 key,.bl true)])) pr=some (.lst vs):=by rw[fV (Ne.symm a4)];exact bj
    refine⟨_,rfl,.inl ⟨rfl,_,fY.of ba⟩,_,rfl,pr,_,_,rfl,rfl,ba,i2 (by omega),?_⟩;have bn:Mu (upd H2 ps (.dK (sk++[(keyOf ae.1 key,.bl true)]))) pr:=.inl ⟨_,ba⟩;have bo:Tu H2 (upd (upd H2 ps (.dK (sk++[(keyOf ae.1 key,.bl true)]))) pr (.lst (vs++[.ref rr]))):=bT.trans (Tu.wr λys z=>bn.wB ys z)
    have aK:∀c∈fp,H c=none/\c≠pr/\c≠ps:=λc hc=>by
     have z:=aY c hc;have z':H' c=none:=st.free z;have nb:c≠b:=λe=>by rw[e,aF] at z';cases z'
     obtain⟨bp,bb⟩:=aD.tab;have nP:c≠Pt:=λe=>by rw[e,bb] at z';cases z'
     refine⟨kp.wC (λe=>e.elim nb nP) z',λe=>?_,λe=>?_⟩
     . rw[e,aT] at z';cases z'
     . rw[e,a7] at z';cases z'
    have aj:∀c,c≠pr->c≠ps->upd (upd H2 ps (.dK (sk++[(keyOf ae.1 key,.bl true)]))) pr (.lst (vs++[.ref rr])) c=H2 c:=λc n1 n2=>by rw[fV n1,fV n2]
    refine⟨_,_,vs++[.ref rr],fl++[fp],_,rfl,λc o nc e=>?_,by rw[aj b a5 a6];exact aE,(bi.wr bm).wr bn,fZ,by rw[fV a4];exact fZ,?_,?_,?_,?_,by rw[Q0a];show vs.length+1<=i+1;omega⟩
    . rw[aj c (gc e aP) (gc e aJ)];exact aM c o nc e
    . refine A3.snoc ?_ (i7.keep bo aa λc hc o e=>by rw[aj c (aw c hc).2.1 (aw c hc).2.2];exact e);exact bf.keep bo _ λc hc o e=>by rw[aj c (aK c hc).2.1 (aK c hc).2.2];exact e
    . rw[Q3m];refine List.nodup_append.mpr ⟨aU,by simpa using bw,λc hc d hd=>?_⟩;have bU:d∈fp:=by simpa using hd
      intro e;subst e;obtain⟨o,eo⟩:=(i7.mu ac c hc).ex;have:=st.free (aY c bU);rw[eo] at this;cases this
    . intro c hc;rw[Q3m] at hc;rcases List.mem_append.mp hc with z|z
      . exact aw c z
      . exact aK c (by simpa using z)
    . rw[Q0i,Q0i,aG];rfl
 . intro σ H' zq;obtain⟨x,y,vs,fl,sk,rfl,kp,aF,aD,aT,a7,ac,aU,aw,aG,bP⟩:=zq;have bV:val ns (.rows key Y fs) J n=(.lst (ji (nU key Y (ik (gN ns fs (J / 2)) key (nx ns (n+1) % ((J:Int)+1)).toNat [] (n+1)).1)),(ik (gN ns fs (J / 2)) key (nx ns (n+1) % ((J:Int)+1)).toNat [] (n+1)).2):=by simp only[val]
   rw[bV] at q;have aN:∀m∈(ik (gN ns fs (J / 2)) key (nx ns (n+1) % ((J:Int)+1)).toNat [] (n+1)).1,ja fs m:=qj (R:=ja fs) (λn=>rJ ns fs a3 (J / 2) n (by omega)) _ _ _ (λr hr=>absurd hr (by simp));have bW:=tQ (g:=gN ns fs (J / 2)) (key:=key) (nx ns (n+1) % ((J:Int)+1)).toNat [] (n+1) Q18;generalize ik (gN ns fs (J / 2)) key (nx ns (n+1) % ((J:Int)+1)).toNat [] (n+1)=L at *;obtain⟨aZ,bA⟩:=A3.len ac;refine⟨_,rfl,pr,vs,rfl,fY.of aT,by omega,aD,λc' H2 bc mono=>?_⟩;have aH:Tu H H':=kp.tu hb hT
   have np:∀cc o,(∀ps,o≠ .gQ ps)->H' cc=some o->H2 cc=some o:=λcc o ho e=>by
    obtain⟨bp,bb⟩:=aD.tab;exact mono cc o (jz e bb (ho bp)) e
   have bq:Tu H' H2:=λcc ys e=>np cc _ (by intro ps z;cases z) e
   have aa:i7 H2 vs L.1 fl:=i7.keep bq ac λcc hc o e=>np cc o (by
    intro ps z;rcases i7.mu ac cc hc with⟨_,q⟩|⟨_,q⟩ <;> rw[e] at q <;> rw[z] at q <;> cases q) e
   have az:H2 pk=some (.tup [.str "rows",.str key,.str Y,.ref pb]):=bq _ _ (aH _ _ a2);refine⟨λks H3=>Same H2 H3/\ks.length<=vs.length/\qe H3 ks ((L.1.map (rankOf key Y)).take ks.length),⟨Same.refl _,Q0g _,.nil⟩,λks H3 hw=>bc.mono λcc o _ e=>hw.1 _ _ e,?_,?_⟩
   . rintro ks H3 yv ⟨s3,bX,aW⟩ hy;have br:ks.length<vs.length:=(List.getElem?_eq_some_iff.mp hy).1;have a1:=A3.at (a0:=V.non) (b0:=Ds.nil) (c0:=[]) aa ks.length br;have ey:vs.getD ks.length .non=yv:=by rw[Q0e,hy];rfl
     rw[ey] at a1
     have bB:L.1.getD ks.length .nil∈L.1:=by
      rw[Q0e,Q03 (by omega)];exact Q1m _
     have aO:=Own.same s3 a1;unfold Own at aO;obtain⟨rr,kvs,fq,rfl,a8,_,a9⟩:=aO;refine⟨_,rfl,_,rfl,pk,rr,pb,key,Y,fs,kvs,_,fq,rfl,s3 _ _ az,a8,a9,aN _ bB,aI,bh,λt ht=>⟨s3.trans (Same.new ht),by rw[Q0a];exact br,?_⟩⟩
     have et:(L.1.map (rankOf key Y)).take (ks++[V.ref t]).length=(L.1.map (rankOf key Y)).take ks.length++[rankOf key Y (L.1.getD ks.length .nil)]:=by
      rw[Q0a];show List.take (ks.length+1) _=_;rw[Q0y,Q0f,Q0e,Q03 (by omega)];rfl
     rw[et];refine ET (Paired.sO aW λk kl z=>?_) ⟨t,rfl,fZ⟩;obtain⟨pp,e,hh⟩:=z;exact⟨pp,e,by rw[fV (gc hh ht)];exact hh⟩
   . rintro ks H3 ⟨s3,bX,aW⟩ bC
     have bY:(L.1.map (rankOf key Y)).take ks.length=L.1.map (rankOf key Y):=by
      rw[bC,aZ,Q1b (by rw[Q04];exact Q00 _)]
     rw[bY] at aW;refine⟨_,aW,⟨if Y="" then [pj (fs.get key)] else [pj (fs.get Y),pj (fs.get key)],by split <;> simp,λkl bZ=>?_⟩,λp hp hs D hD=>?_⟩
     . obtain⟨m,hm,rfl⟩:=List.mem_map.mp bZ;exact wq (aN m hm) aI bh
     have bd:∀i∈p,i<vs.length:=λi hi=>by
      have:=hp.mem_iff.mp hi;simpa using this
     have b1:p.Perm (List.range L.1.length):=by rw[<-aZ];exact hp
     have hz:(p.map λi=>L.1.getD i .nil)=nU key Y L.1:=by
      refine KZ (Ej _ b1) ?_ bW;rw[Q17] at hs ⊢;refine List.Pairwise.imp_of_mem (λ{i j} hi hj h=>?_) hs;have b2:=bd i hi;have b3:=bd j hj
      have ge:∀i,i<vs.length->(L.1.map (rankOf key Y)).getD i []=rankOf key Y (L.1.getD i .nil):=λi hi=>by
       rw[Q0e,Q0e,Q0f,Q03 (by omega)];rfl
      rw[ge i b2,ge j b3] at h;exact h
     have aA:i7 H3 vs L.1 fl:=i7.keep (Tu.of s3) aa λcc _ o e=>s3 cc o e;have sD:Same H3 (upd H3 D (.lst (p.map λi=>vs.getD i .non))):=Same.new hD;have aX:i7 (upd H3 D (.lst (p.map λi=>vs.getD i .non))) vs L.1 fl:=i7.keep (Tu.of sD) aA λcc _ o e=>sD cc o e;have bg:=A3.pick (a0:=V.non) (b0:=Ds.nil) (c0:=[]) aX p bd;have b4:(p.map λi=>fl.getD i []).Perm fl:=Ej _ (by rw[<-bA];exact hp);have ax:=K3 b4;have aE:H2 b=some (.lst [.int L.2]):=np b _ (by intro ps z;cases z) aF;have bt:D≠b:=λe=>by rw[e,s3 _ _ aE] at hD;cases hD
     have bu:D≠Pt:=λe=>by rw[e,s3 _ _ bc.1] at hD;cases hD
     have bv:=s3.free hD
     have b5:H' D=none:=by
      cases e:H' D with
      |none=>rfl
      |some o=>rw[mono D o bu e] at bv;cases bv
     refine q (.ref D) _ (D::(p.map λi=>fl.getD i []).flatten) (λcc o nc e=>?_) (by rw[fV (Ne.symm bt)];exact s3 _ _ aE) (.inr ⟨c',bc.mono λcc o _ e=>sD _ _ (s3 _ _ e)⟩) ?_ ?_ ?_
     . have e1:=kp cc o nc e;exact sD _ _ (s3 _ _ (mono cc o (λz=>nc (.inr z)) e1))
     . unfold Own;exact⟨D,_,_,rfl,fZ,rfl,by rw[<-hz];exact i7.own bg⟩
     . refine List.nodup_cons.mpr ⟨λhm=>?_,ax.nodup_iff.mpr aU⟩;obtain⟨o,eo⟩:=(i7.mu aA D (ax.mem_iff.mp hm)).ex;rw[hD] at eo;cases eo
     . intro cc hc;rcases List.mem_cons.mp hc with z|z
       . rw[z];exact kp.wC (λe=>e.elim bt bu) b5
       . exact(aw cc (ax.mem_iff.mp z)).1
theorem LM (k:Kd)(z:Nat):16<=mu k z:=by
 have:=k.nq
 cases k <;> simp only[mu,Kd.dep] at * <;> omega
noncomputable def σU (a b:Addr) (J:V) (z:Nat) (L U Y x4 x5:Option V):St:=[some (.ref a),some (.ref b),some J,some (.int z),L,U,Y,x4,x5]
theorem gF.iJ {b P:Addr}{H₀ H H':Hp}{v:List (Key × V)}{d:Ds}{fp:List Addr}{n:Int}{L:Pos}{U:Str}(h:gF H v d fp)(x:gY b P H H')(Y:H b=some (.lst [.int n]))(hT:gz P L U H)(J:∃o,H₀ b=some o)(fr:∀c∈fp,H₀ c=none):gF H' v d fp:=by
 refine h.keep (gY.tu x Y hT) d λc hc o e=>x c o (λz=>?_) e;rcases z with z|z
 . obtain⟨o',e'⟩:=J;have:=fr c hc;rw[z,e'] at this;cases this
 . obtain⟨ps,hP⟩:=hT.tab;rcases gF.alive d h c hc with⟨xs,q⟩|⟨xs,q⟩ <;> rw[z,hP] at q <;> cases q
theorem gC.iJ {b P:Addr}{H₀ H H':Hp}{v:List V}{d:Ds}{fp:List Addr}{n:Int}{L:Pos}{U:Str}(h:gC H v d fp)(x:gY b P H H')(Y:H b=some (.lst [.int n]))(hT:gz P L U H)(J:∃o,H₀ b=some o)(fr:∀c∈fp,H₀ c=none):gC H' v d fp:=by
 refine h.keep (gY.tu x Y hT) d λc hc o e=>x c o (λz=>?_) e;rcases z with z|z
 . obtain⟨o',e'⟩:=J;have:=fr c hc;rw[z,e'] at this;cases this
 . obtain⟨ps,hP⟩:=hT.tab;rcases gC.alive d h c hc with⟨xs,q⟩|⟨xs,q⟩ <;> rw[z,hP] at q <;> cases q
theorem gY.fresh {b P c:Addr}{H H':Hp}{n:Int}{J:Pos}{L:Str}(x:gY b P H H')(U:H' b=some (.lst [.int n]))(hT:gz P J L H')(h:H' c=none):H c=none:=by
 obtain⟨ps,Y⟩:=hT.tab;exact x.wC (λe=>e.elim (λz=>by rw[z,U] at h;cases h) λz=>by rw[z,Y] at h;cases h) h
theorem EW:gM XT XH (gn (top 46)):=gT
theorem LN {Pt:Addr}(T:Tb mg)(z:Dn K mg "_law_value" j1 (top 46) J L):e_ P w K mg base fW (2 * 0+5) J L j1 (qB K Pt 0):=by
 refine z.F.ok EW λvs H Q E h=>?_;obtain⟨a,b,ns,n,kv,k,U,rfl,g,hT,hk,hW,aa,Y,_⟩:=h;refine⟨rfl,λab A outer s nd hr hu=>?_⟩;exact absurd Y (by have:=LM k U;omega)
theorem LO {Pt:Addr}(N:Nat)(T:Tb mg)(L:Dn K mg "_law_value" j1 (top 46) ac ae)(Y:e_ P w K mg base fW (2 * N+5) ac ae j1 (qB K Pt N))(aq:Dn K mg "_law_rows" j1 (top 45) ar au)(av:e_ P w K mg base fW (2 * N+6) ar au j1 (ER K Pt N))(af:Dn K mg "_law_next" ib (top 36) aw ax)(ag:e_ P w K mg base fW (1) aw ax ib (qx K))(am:Dn K mg "_law_number" ib (top 37) an ao)(ap:e_ P w K mg base fW (2) an ao ib (EA K))(ay:Dn K mg "_law_word" ib (top 38) az aA)(aB:e_ P w K mg base fW (2) az aA ib (EB K)):
 e_ P w K mg base fW (2 * (N+1)+5) ac ae j1 (qB K Pt (N+1)):=by
 refine L.F.ok EW λvs H Q E h=>?_;obtain⟨a,b,ns,n,kv,k,J,rfl,g,hT,hk,hW,ab,a7,hn,q⟩:=h;refine⟨rfl,λbG A outer s nd hr hu=>?_⟩
 refine⟨_,(fT (gp (gw gL (f7 (pv 2) d_) gH (gj _)) (fX (f6 (f9 ap hr am (a_ (pv 0) (a_ (pv 1) c_))))) gu)
  (fT (gp (gw gL (f7 (pv 2) d_) gH (gj _)) (fX (f6 (f9 aB hr ay (a_ (pv 0) (a_ (pv 1) c_))))) gu)
  (fT (gp (gw gL (f7 (pv 2) d_) gH (gj _)) (fT (gv 4 nd pU)
  (fT (jt PassesOwn.never rfl (jS (f7 (pv 2) d_)) (jE rfl (ic (gK (i:=5) nd rfl ip) (ic (gK (i:=6) nd rfl ip) jD))) (fX (mF hu (pv 4) (pv 5) (f9 Y hr L (a_ (pv 0) (a_ (pv 1) (a_ (pv 6) (a_ (pv 3) c_))))) rfl)))
  (fX (f6 (pv 4))))) gu)
  (fT (gp (gw gL (f7 (pv 2) d_) gH (gj _)) (fX (f6 (f9 av hr aq (a_ (pv 0) (a_ (pv 1) (a_ (pv 2) (a_ (pv 3) c_))))))) gu)
  (fT (gp (gw gL (f7 (pv 2) d_) gH (gj _)) (fT (gv 7 nd (f9 Y hr L (a_ (pv 0) (a_ (pv 1) (a_ (f7 (pv 2) d_) (a_ (gh jh (pv 3) d_) c_))))))
  (fT (gv 8 nd (gh iw (f9 ag hr af (a_ (pv 0) (a_ (pv 1) c_))) (gh j5 (pv 3) d_)))
  (fX (f6 (jd (a_ (pv 7) (a_ (j9 (g:=(iY 0)) (tt:=kx) (te:=(mZ _ _ _ (iO (gR 1) (iO (gR 2) (iO (gR 3) (iO (iC _ (gR 4) (tC (.int 2))) jT)))))) (own:=["_law_k"]) rfl (jW (N:=XT) (sc:=gn (top 46))) (oR rfl T.nW (a_ (pv 8) c_)) (λ_ _ _ _ _=>(gK (i:=0) (show(["_law_k","_law_script","_law_at","_law_kind_here","_law_room","_law_made","_law_name","_law_inner","_law_top","_law_many"]:List Str).Nodup by decide +kernel) rfl (Or.inl rfl) (.inr rfl))) (λ_ _ _ _ _=>lb) (λ_ _ _ _ _=>(f9 Y hr L (a_ (pv 1) (a_ (pv 2) (a_ (pv 3) (a_ (gh jh (pv 4) d_) c_))))))) c_))))))) gu)
  (fT (Cr (f7 (f7 (pv 2) d_) (gh iw (f9 ag hr af (a_ (pv 0) (a_ (pv 1) c_))) (gA i9 (by rfl) T.iI PySem.boot_len (a_ (f7 (pv 2) d_) c_)))) (jE rfl (ic (gK (i:=5) nd rfl ip) (ic (gK (i:=6) nd rfl ip) jD))))
  (fX (f6 (jd (a_ (pv 5) (a_ (f9 Y hr L (a_ (pv 0) (a_ (pv 1) (a_ (pv 6) (a_ (pv 3) c_))))) c_))))))))))),?_⟩
 ac_rfl
 have hb:=g.at_;have bH:=g.pos;have aW:∃o,H b=some o:=⟨_,hb⟩;obtain⟨bI,hP⟩:=hT.tab;have e2:((J / 2:Nat):Int)=(J:Int) / 2:=by omega
 cases k with
 |num=>
  unfold KA at hk;obtain⟨c,rfl,hc⟩:=hk;simp only[kc,Kd.cB] at hn;refine l_ rfl hc rfl (by decide +kernel) ?_;refine⟨_,rfl,_,rfl,a,b,ns,n,rfl,g,by omega,λH1 s1 h1=>?_⟩;have ev:val ns .num J n=(.int (num ns (n+1)),n+1):=by simp only[val]
  rw[ev] at q;exact q _ H1 [] (SB.iJ s1) h1 (hT.sb hb s1) (by unfold Own;exact⟨rfl,rfl⟩) Q18 λc hc=>absurd hc (by simp)
 |iF=>
  unfold KA at hk;obtain⟨c,rfl,hc⟩:=hk;simp only[kc,Kd.cB] at hn;refine iU rfl hc rfl (by decide +kernel) ?_;refine l_ rfl hc rfl (by decide +kernel) ?_;refine⟨_,rfl,_,rfl,a,b,ns,n,rfl,g,by omega,λH1 s1 h1=>?_⟩;have ev:val ns .iF J n=(.str (iF ns (n+1)),n+1):=by simp only[val]
  rw[ev] at q;exact q _ H1 [] (SB.iJ s1) h1 (hT.sb hb s1) (by unfold Own;exact⟨rfl,rfl⟩) Q18 λc hc=>absurd hc (by simp)
 |gI fs=>
  unfold KA at hk;obtain⟨pk,pb,xs,rfl,aa,aF,aG⟩:=hk;unfold Kd.W at hW;obtain⟨a8,bi,aX⟩:=hW;refine iU rfl aa rfl (by decide +kernel) ?_;refine iU rfl aa rfl (by decide +kernel) ?_;refine l_ rfl aa rfl (by decide +kernel) ?_;intro p hp;have a9:b≠p:=gc hb hp;have bj:Pt≠p:=gc hP hp;have s0:Same H (upd H p (.dK [])):=Same.new hp;have bm:val ns (.gI fs) J n=(.dct (gN ns fs J n).1,(gN ns fs J n).2):=by simp only[val]
  rw[bm] at q;simp only[kc,Kd.cB] at hn
  refine⟨_,rfl,pk,_,_,_,rfl,rfl,fU.of (s0 _ _ aa),rfl,pb,rfl,⟨_,fU.of (s0 _ _ aF)⟩,nN (xs:=xs) (λi σ H'=>∃x2 x3 x4 x5 kvs fq,σ=σU a b (.ref pk) J (some (.ref p)) x2 x3 x4 x5/\gY b Pt H H'/\H' b=some (.lst [.int (gN ns (fs.take i) J n).2])/\gz Pt lO lP H'/\
   H' p=some (.dK kvs)/\gF H' kvs (gN ns (fs.take i) J n).1 fq/\fq.Nodup/\∀c∈fq,H c=none/\c≠p) ?_ ?_ ?_ ?_⟩
  . rw[Fs.take_zero];refine⟨_,_,_,_,[],[],rfl,Kp.of s0,by simp only[gN];exact s0 _ _ hb,hT.same s0,fZ,?_,Q18,λc hc=>absurd hc (by simp)⟩;simp only[gN];unfold gF;exact⟨rfl,rfl⟩
  . intro i σ H' _ zq;obtain⟨x2,x3,x4,x5,kvs,fq,rfl,kp,_⟩:=zq;exact fU.of (gY.tu kp hb hT _ _ aF)
  . intro i v σ H' hv zq;obtain⟨x2,x3,x4,x5,kvs,fq,rfl,kp,ah,ai,aM,hO,aH,aj⟩:=zq;have ba:=gY.tu kp hb hT;obtain⟨c,u,nm,k,rfl,ak,hc,hk⟩:=FA.get fs aG hv;have cn:=rK ns (fs.take i) J n ab;have cb:=Fs.EO ak;refine⟨c,_,rfl,fU.of (ba _ _ hc),rfl,_,_,rfl,_,_,rfl,rfl,?_⟩;refine⟨_,rfl,_,rfl,_,rfl,_,rfl,a,b,ns,(gN ns (fs.take i) J n).2,u,k,J,rfl,gY.g0 kp g hT ah cn.1,ai,KA.mono ba k hk,Fs.pf aX ak,ab,?_,by have:=uj k J;omega,?_⟩
    . have:mu k J<mu (.gI fs) J:=wO (by have:=Fs.pd ak;simp only[Kd.dep];omega) ab;omega
    intro v2 H2 fp iJ aI aJ aD aE al;have bb:H2 p=some (.dK kvs):=iJ p _ (λz=>z.elim (Ne.symm a9) (Ne.symm bj)) aM;have bn:=gF.iJ hO iJ ah ai aW λc hc=>(aj c hc).1;have bo:nm ∉ (gN ns (fs.take i) J n).1.names:=by rw[uk];exact Fs.LG a8 ak
    have bp:kvs.length<sizeLine:=by
     rw[gF.len hO,uk];have:(fs.take i).names.length<=fs.names.length:=by rw[Fs.wR,Q0r];omega
     exact i2 (by omega)
    refine⟨_,rfl,_,rfl,p,_,rfl,kK.k (k:=Sum.inr nm) bb bp,?_⟩;rw[tW (gF.K1 hO bo)];have bc:Mu H2 p:=.inr ⟨_,bb⟩;have bd:Tu H2 (upd H2 p (.dK (kvs++[(Sum.inr nm,v2)]))):=Tu.wr λys z=>bc.wB ys z
    have aT:∀c∈fp,H c=none/\c≠p:=λc hc=>by
     have z:=al c hc;exact⟨gY.fresh kp ah ai z,λe=>by rw[e,aM] at z;cases z⟩
    have sn:=EJ ns nm k J (fs.take i) n;rw[Fs.take_succ ak,sn];refine⟨_,_,_,_,_,fq++fp,rfl,λc o nc e=>?_,by rw[fV a9];exact aI,aJ.wr bc,fZ,?_,?_,?_⟩
    . rw[fV (gc e hp)];exact iJ c o nc (kp c o nc e)
    . exact gF.snoc (aD.keep bd _ λc hc o e=>by rw[fV (aT c hc).2];exact e) _ (bn.keep bd _ λc hc o e=>by rw[fV (aj c hc).2];exact e)
    . refine List.nodup_append.mpr ⟨aH,aE,λc hc d hd=>?_⟩;intro e;subst e;obtain⟨o,eo⟩:=(gF.alive _ hO c hc).ex;rw[al c hd] at eo;cases eo
    . intro c hc;rcases List.mem_append.mp hc with z|z
      . exact aj c z
      . exact aT c z
  . intro σ H' zq;obtain⟨x2,x3,x4,x5,kvs,fq,rfl,kp,ah,ai,aM,hO,aH,aj⟩:=zq;rw[FA.len fs aG,Fs.take_all] at ah hO;refine⟨_,rfl,q (.ref p) H' (p::fq) kp ah ai ?_ ?_ ?_⟩
    . unfold Own;exact⟨p,kvs,fq,rfl,aM,rfl,hO⟩
    . exact List.nodup_cons.mpr ⟨λhm=>(aj p hm).2 rfl,aH⟩
    . intro c hc;rcases List.mem_cons.mp hc with z|z
      . rw[z];exact hp
      . exact(aj c z).1
 |rows key bq fs=>
  have aY:=hk;unfold KA at hk;obtain⟨pk,pb,xs,rfl,aa,aF,aG⟩:=hk;simp only[kc] at hn;refine iU rfl aa rfl (by decide +kernel) ?_;refine iU rfl aa rfl (by decide +kernel) ?_;refine iU rfl aa rfl (by decide +kernel) ?_;refine l_ rfl aa rfl (by decide +kernel) ?_;exact⟨_,rfl,_,rfl,_,rfl,_,rfl,a,b,ns,n,_,key,bq,fs,J,rfl,g,hT,aY,hW,ab,a7,hn,q⟩
 |tree k=>
  have aY:=hk;unfold KA at hk;obtain⟨pk,u,rfl,aa,br⟩:=hk;unfold Kd.W at hW;refine iU rfl aa rfl (by decide +kernel) ?_;refine iU rfl aa rfl (by decide +kernel) ?_;refine iU rfl aa rfl (by decide +kernel) ?_;refine iU rfl aa rfl (by decide +kernel) ?_;refine l_ rfl aa rfl (by decide +kernel) ?_;have ev:=LA ns k J n ab;rw[ev] at q;simp only[kc,Kd.cB] at hn;have bJ:k.cB+1<=(k.cB+1) * gr J:=Q3n _ (wQ J).1
  have m1:mu k (J / 2)<=N:=by
   have:mu k (J / 2)<mu (.tree k) J:=wO (by simp only[Kd.dep];omega) (by omega);omega
  refine⟨_,rfl,_,rfl,_,rfl,pk,_,_,_,rfl,rfl,fU.of aa,rfl,_,rfl,_,_,rfl,rfl,⟨by decide,by decide⟩,a,b,ns,n,u,k,J / 2,(by rw[e2];rfl),g,hT,br,hW,by omega,m1,by have:=uj k (J / 2);have:k.cB+1<=(k.cB+1) * gr J:=Q3n _ (wQ J).1;omega,?_⟩;intro vt Ht aN aZ aO be bt bu a5;have ct:=pq ns k (J / 2) n (by omega);generalize bK:val ns k (J / 2) n=U at *;refine⟨_,rfl,_,rfl,a,b,ns,U.2,rfl,gY.g0 aZ g hT aO ct.1,by omega,λH1 s1 h1=>?_⟩;have g1:G0 K H1 a b ns (U.2+1):=(gY.g0 aZ g hT aO ct.1).go s1 h1 (by omega);have a6:=be.sb aO s1;have k1:gY b Pt H H1:=aZ.trans (SB.iJ s1);have aU:Own H1 vt U.1 aN:=bt.iJ (SB.iJ s1) aO be aW a5;refine⟨_,rfl,_,_,rfl,rfl,_,_,rfl,rfl,by omega,?_⟩;have bv:=Q0m (nx ns (U.2+1)) (show((J:Int)+1)≠0 by omega);have bw:=Q0n (nx ns (U.2+1)) (show(0:Int)<(J:Int)+1 by omega);have bx:=λm=>LF ns k (J / 2) m (by omega);have bg:=λi=>wz (g:=val ns (.tree k) (J / 2)) (N:=(k.cB+1) * gr (J / 2)) bx i (U.2+1)
  refine⟨_,rfl,_,rfl,_,rfl,by omega,by omega,λi m ys H'=>m=(nx ns (U.2+1) % ((J:Int)+1)).toNat - i/\i<=(nx ns (U.2+1) % ((J:Int)+1)).toNat/\ys.length=i/\∃fq,gY b Pt H1 H'/\H' b=some (.lst [.int (times (val ns (.tree k) (J / 2)) i (U.2+1)).2])/\gz Pt lO lP H'/\
   gC H' ys (times (val ns (.tree k) (J / 2)) i (U.2+1)).1 fq/\fq.Nodup/\∀c∈fq,H1 c=none,⟨(nx ns (U.2+1) % ((J:Int)+1)).toNat,rfl,Q0g _,rfl,[],Kp.refl _ _,h1,a6,?_,Q18,λc hc=>absurd hc (by simp)⟩,?_⟩
  . simp only[times];unfold gC;exact⟨rfl,rfl⟩
  intro i m ys H' zq;obtain⟨rfl,bF,bz,fq,kp,ah,ai,hO,aH,aj⟩:=zq;by_cases hi:i<(nx ns (U.2+1) % ((J:Int)+1)).toNat
  . refine .inr ⟨hi,i2 (by omega),λx bA y=>?_⟩;obtain⟨rfl,rfl⟩:=y;refine⟨rfl,yes (ix ?_)⟩;have bB:1<=J:=by omega
    have bL:=bg i
    have bC:(times (val ns (.tree k) (J / 2)) i (U.2+1)).2+((k.cB+1) * gr (J / 2):Nat)<=1000000000000:=by
     have a1:=Q3l (k.cB+1) (LD bB ab);have a2:(k.cB+1) * (1+J * gr (J / 2))=(k.cB+1)+J * ((k.cB+1) * gr (J / 2)):=by rw[Nat.mul_add,Nat.mul_one,Q3c]
     have a3:(i+1) * ((k.cB+1) * gr (J / 2))<=J * ((k.cB+1) * gr (J / 2)):=Q19 _ (by omega);have a4:(i+1) * ((k.cB+1) * gr (J / 2))=i * ((k.cB+1) * gr (J / 2))+(k.cB+1) * gr (J / 2):=Q1q _ _;omega
    have kA:gY b Pt H bA:=k1.trans kp;refine⟨_,rfl,_,rfl,_,rfl,_,rfl,_,_,rfl,rfl,⟨by decide,by decide⟩,a,b,ns,(times (val ns (.tree k) (J / 2)) i (U.2+1)).2,.ref pk,.tree k,J / 2,(by rw[e2];rfl),gY.g0 kA g hT ah (by omega),ai,KA.mono (gY.tu kA hb hT) _ aY,(by unfold Kd.W;exact hW),by omega,(by simp only[mu] at a7 ⊢;omega),bC,?_⟩;intro v2 H2 fp iJ aI aJ aD aE al;have sn:=EK (val ns (.tree k) (J / 2)) i (U.2+1);refine⟨(nx ns (U.2+1) % ((J:Int)+1)).toNat - (i+1),by omega,rfl,hi,by rw[Q0a,bz];rfl,fq++fp,kp.trans iJ,by rw[sn];exact aI,aJ,?_,?_,?_⟩
    . rw[sn];exact gC.snoc aD _ (gC.iJ hO iJ ah ai ⟨_,h1⟩ aj)
    . refine List.nodup_append.mpr ⟨aH,aE,λc hc d hd=>?_⟩;intro e;subst e;obtain⟨o,eo⟩:=(gC.alive _ hO c hc).ex;rw[al c hd] at eo;cases eo
    . intro c hc;rcases List.mem_append.mp hc with z|z
      . exact aj c z
      . exact gY.fresh kp ah ai (al c z)
  . have ei:i=(nx ns (U.2+1) % ((J:Int)+1)).toNat:=by omega
    subst ei;refine .inl ⟨Q00 _,λpl aP=>⟨jj,λt ht=>?_⟩⟩;have sl:Same H' (upd H' pl (.lst ys)):=Same.new aP;have st:Same (upd H' pl (.lst ys)) (upd (upd H' pl (.lst ys)) t (.tup [vt,.ref pl])):=Same.new ht;have sa:=sl.trans st;have aV:Own H' vt U.1 aN:=aU.iJ kp h1 a6 aW a5;have kA:gY b Pt H H':=k1.trans kp;refine q (.ref t) _ (aN++(pl::fq)) (kA.trans (Kp.of sa)) (sa _ _ ah) (ai.same sa) ?_ ?_ ?_
    . unfold Own;refine⟨t,_,rfl,fZ,?_⟩;unfold gC;refine⟨vt,[.ref pl],aN,pl::fq,rfl,rfl,Own.same sa aV,?_⟩;unfold gC;refine⟨.ref pl,[],pl::fq,[],rfl,by simp,?_,by unfold gC;exact⟨rfl,rfl⟩⟩;unfold Own;exact⟨pl,ys,fq,rfl,st _ _ fZ,rfl,gC.same sa hO⟩
    . refine List.nodup_append.mpr ⟨bu,List.nodup_cons.mpr ⟨λhm=>?_,aH⟩,λc hc d hd=>?_⟩
      . obtain⟨o,eo⟩:=(gC.alive _ hO pl hm).ex;rw[aP] at eo;cases eo
      . intro e;subst e;rcases List.mem_cons.mp hd with z|z
        . obtain⟨o,eo⟩:=(Own.alive _ aV c hc).ex;rw[z,aP] at eo;cases eo
        . obtain⟨o,eo⟩:=(Own.alive _ aU c hc).ex;rw[aj c z] at eo;cases eo
    . intro c hc;rcases List.mem_append.mp hc with z|z
      . exact a5 c z
      . rcases List.mem_cons.mp z with y|y
        . rw[y];exact gY.fresh kA ah ai aP
        . exact gY.fresh k1 h1 a6 (aj c y)
 |je fs=>
  unfold KA at hk;obtain⟨pk,pb,xs,rfl,aa,aF,aG⟩:=hk;unfold Kd.W at hW;obtain⟨a8,bi,bM,aX⟩:=hW;refine iU rfl aa rfl (by decide +kernel) ?_;refine iU rfl aa rfl (by decide +kernel) ?_;refine iU rfl aa rfl (by decide +kernel) ?_;refine iU rfl aa rfl (by decide +kernel) ?_;refine iU rfl aa rfl (by decide +kernel) ?_;simp only[kc,Kd.cB] at hn;refine⟨_,rfl,pk,_,_,_,rfl,rfl,fU.of aa,rfl,_,rfl,_,rfl,a,b,ns,n,rfl,g,by omega,λH1 s1 h1=>?_⟩;have aK:=s1.tu hb;have bf:(xs.length:Int)=(fs.names.length:Int):=by rw[FA.len fs aG]
  have bv:=Q0m (nx ns (n+1)) (show((fs.names.length:Int))≠0 by omega);have bw:=Q0n (nx ns (n+1)) (show(0:Int)<(fs.names.length:Int) by omega);obtain⟨nm,k,ak⟩:=Fs.D6 (fs:=fs) (i:=(nx ns (n+1) % (fs.names.length:Int)).toNat) (by omega);obtain⟨c,u,bD,hc,hk⟩:=FA.at aG ak
  have bE:jo xs (nx ns (n+1) % ((xs.length:Nat):Int))=some (.ref c):=by
   have e:nx ns (n+1) % ((xs.length:Nat):Int)=(((nx ns (n+1) % (fs.names.length:Int)).toNat:Nat):Int):=by rw[bf];omega
   rw[e];exact lF bD
  refine⟨_,rfl,pk,_,_,_,rfl,rfl,fU.of (aK _ _ aa),rfl,pb,_,rfl,.inr (fU.of (aK _ _ aF)),_,_,rfl,rfl,by rw[bf];omega,pb,_,_,_,rfl,rfl,fU.of (aK _ _ aF),bE,?_⟩;refine⟨c,_,rfl,fU.of (aK _ _ hc),rfl,_,_,rfl,_,_,rfl,rfl,?_⟩
  have ev:val ns (.je fs) J n=(pairD (.str nm) (val ns k J (n+1)).1,(val ns k J (n+1)).2):=by
   show jA ns fs (nx ns (n+1) % (fs.names.length:Int)).toNat J (n+1)=_;exact EL ns fs _ J (n+1) nm k ak
  rw[ev] at q;have cb:=Fs.EM ak;refine⟨_,rfl,_,rfl,_,rfl,_,rfl,_,rfl,a,b,ns,n+1,u,k,J,rfl,g.go s1 h1 (by omega),hT.sb hb s1,KA.mono aK k hk,Fs.pf aX ak,ab,?_,by have:=uj k J;omega,?_⟩
  . have:mu k J<mu (.je fs) J:=wO (by have:=Fs.pd ak;simp only[Kd.dep];omega) ab;omega
  intro v2 H2 fp iJ aI aJ aD aE al;have bh:gY b Pt H H2:=(SB.iJ s1).trans iJ;refine⟨jj,λt ht=>?_⟩;have st:Same H2 (upd H2 t (.tup [.str nm,v2])):=Same.new ht;refine q (.ref t) _ fp (bh.trans (Kp.of st)) (st _ _ aI) (aJ.same st) ?_ aE λc hc=>gY.fresh (SB.iJ s1) h1 (hT.sb hb s1) (al c hc);unfold Own;refine⟨t,_,rfl,fZ,?_⟩;unfold gC;refine⟨.str nm,[v2],[],fp,rfl,rfl,by unfold Own;exact⟨rfl,rfl⟩,?_⟩;unfold gC;exact⟨v2,[],fp,[],rfl,by simp,Own.same st aD,by unfold gC;exact⟨rfl,rfl⟩⟩
theorem EX {Pt c:Addr}{ae:Addr}{af:FuncData}(T:Tb mg)(J:Dn K mg "_law_value" j1 (top 46) ab ac)(U:Dn K mg "_law_rows" j1 (top 45) ak ag)(ah:ag.code=.ref c)(ap:W.CodeHd base c Pt)(aq:BM mg base)(z:Dn K mg "_law_next" ib (top 36) al am)(L:Dn K mg "_law_number" ib (top 37) ai aj)(Y:Dn K mg "_law_word" ib (top 38) an ao)(aa:Dn K mg "_law_rank" rQ (top 44) ae af):∀N:Nat,e_ P w K mg base fW (2 * N+5) ab ac j1 (qB K Pt N)
 |0=>LN T J
 |N+1=>by
  have ih:=EX T J U ah ap aq z L Y aa N;have Nx:=rT (P:=P) (w:=w) (base:=base) T z;have R:=LL N T U ah ap aq z Nx aa (LJ T aa) J ih;exact LO N T J ih U R z Nx L (Ln T L z Nx) Y (Lq T Y z Nx)
mutual
def D.Sm:D->Prop
 | .int _=>True
 | .str _=>True
 | .tup xs=>xs.len<=100/\xs.Sm
 | .lst xs=>xs.len<=100/\xs.Sm
 | .dct m=>m.len<=100/\m.Sm
def Ds.Sm:Ds->Prop
 | .nil=>True
 | .cons _ d r=>d.Sm/\r.Sm
end
theorem Ds.wU:∀{xs:Ds}{i:Nat}{d:D},xs.Sm->xs.at i=some d->d.Sm
 | .nil,_,_,_,h=>by cases h
 | .cons _ d r,0,_,w,h=>by unfold Ds.Sm at w;cases h;exact w.1
 | .cons _ d r,i+1,_,w,h=>by unfold Ds.Sm at w;exact Ds.wU (xs:=r) (i:=i) w.2 h
theorem Ds.um:∀{xs:Ds}{x:Str}{d:D},xs.Sm->xs.get x=some d->d.Sm
 | .nil,_,_,_,h=>by cases h
 | .cons y e r,x,d,w,h=>by
   unfold Ds.Sm at w;have h:(if x=y then some e else r.get x)=some d:=h;by_cases c:x=y
   . rw[if_pos c] at h;cases h;exact w.1
   . rw[if_neg c] at h;exact Ds.um w.2 h
theorem EY:∀(m:Ds),m.names.length=m.len
 | .nil=>rfl
 | .cons _ _ r=>by show r.names.length+1=r.len+1;rw[EY r]
theorem wV:∀l:List Ds,(ji l).len=l.length
 |[]=>rfl
 |m::r=>by show(ji r).len+1=r.length+1;rw[wV r]
theorem EZ:∀{l:List Ds},(∀m∈l,(D.dct m).Sm)->(ji l).Sm
 |[],_=>by unfold ji Ds.Sm;trivial
 |m::r,h=>by
  unfold ji Ds.Sm;exact⟨h m Q05,EZ λx z=>h x (Q0d _ z)⟩
theorem wW:∀{l:List Ds},(ji l).Sm->∀m∈l,(D.dct m).Sm
 |[],_,m,z=>absurd z (by simp)
 |x::r,h,m,z=>by
  unfold ji Ds.Sm at h;rcases List.mem_cons.mp z with e|e
  . rw[e];exact h.1
  . exact wW h.2 m e
theorem wX:∀{l:List Ds},∀m∈l,m.dep+1<=(ji l).dep
 |[],m,z=>absurd z (by simp)
 |x::r,m,z=>by
  simp only[ji,Ds.dep,D.dep];rcases List.mem_cons.mp z with e|e
  . rw[e];omega
  . have:=wX (l:=r) m e;omega
theorem E1 (g:Int->D × Int):∀(m:Nat) (n:Int),(times g m n).1.len=m
 |0,_=>rfl
 |m+1,n=>by show(times g m (g n).2).1.len+1=m+1;rw[E1 g m]
theorem E2 {g:Int->D × Int}(z:∀n,(g n).1.Sm):∀(m:Nat) (n:Int),(times g m n).1.Sm
 |0,_=>by unfold times Ds.Sm;trivial
 |m+1,n=>by
  unfold times Ds.Sm;exact⟨z n,E2 z m _⟩
theorem E3 {a b:D}(h1:a.Sm)(h2:b.Sm):(pairD a b).Sm:=by
 unfold D.Sm;exact⟨by show 2<=100;decide,by unfold Ds.Sm;exact⟨h1,by unfold Ds.Sm;exact⟨h2,by unfold Ds.Sm;trivial⟩⟩⟩
theorem E4 {ns:List Int}{f:Nat->Int->D × Int}(J:∀z n,z<8->(f z n).1.Sm):∀(fu z:Nat) (n:Int),z<8->(i6 ns f fu z n).1.Sm
 |0,_,_,_=>by unfold i6 D.Sm;trivial
 |fu+1,z,n,h=>by
  unfold i6;refine E3 (J _ _ (by omega)) ?_;unfold D.Sm;refine⟨?_,E2 (λn=>E4 J fu (z / 2) n (by omega)) _ _⟩;rw[E1];have:=mod_le (a:=nx ns ((f (z / 2) n).2+1)) h;omega
theorem wY {g:Int->Ds × Int}{key:Str}:∀(m:Nat) (z:List Ds) (n:Int),(ik g key m z n).1.length<=z.length+m
 |0,z,n=>by simp[ik]
 |m+1,z,n=>by
  unfold ik;split
  . have:=wY (g:=g) (key:=key) m z (g n).2;omega
  . have:=wY (g:=g) (key:=key) m (z++[(g n).1]) (g n).2;rw[Q0a] at this;have e:[(g n).1].length=1:=rfl;omega
mutual
theorem uo (ns:List Int):∀(k:Kd),k.W->∀(z:Nat) (n:Int),z<8->(val ns k z n).1.Sm
 | .num,_,_,_,_=>by unfold val D.Sm;trivial
 | .iF,_,_,_,_=>by unfold val D.Sm;trivial
 | .gI fs,w,z,n,h=>by
   unfold Kd.W at w;unfold val;exact wZ ns fs w.2.2 z n h w.2.1
 | .rows key J fs,w,z,n,h=>by
   unfold Kd.W at w;unfold val D.Sm;refine⟨?_,EZ λm L=>?_⟩
   . rw[wV,(nr key J _).length_eq];have:=wY (g:=gN ns fs (z / 2)) (key:=key) (nx ns (n+1) % ((z:Int)+1)).toNat [] (n+1);have e:=mod_le (a:=nx ns (n+1)) h;have Y:([]:List Ds).length=0:=rfl;omega
   . exact qj (R:=λm=>(D.dct m).Sm) (λn=>wZ ns fs w.2.2.1 (z / 2) n (by omega) w.2.1) _ _ _ (λr U=>absurd U (by simp)) m ((nr key J _).mem_iff.mp L)
 | .tree k,w,z,n,h=>by
   unfold Kd.W at w;unfold val;exact E4 (λz n h=>uo ns k w z n h) 4 z n h
 | .je fs,w,z,n,h=>by
   unfold Kd.W at w;unfold val;exact E5 ns fs w.2.2.2 _ z _ h
theorem wZ (ns:List Int):∀(fs:Fs),fs.W->∀(z:Nat) (n:Int),z<8->fs.names.length<=12->(D.dct (gN ns fs z n).1).Sm
 | .nil,_,_,_,_,_=>by
   unfold gN D.Sm;exact⟨by show 0<=100;omega,by unfold Ds.Sm;trivial⟩
 | .cons x k r,w,z,n,h,hl=>by
   unfold Fs.W at w;have hl:r.names.length+1<=12:=hl;have a:=uo ns k w.1 z n h;have b:=wZ ns r w.2 z (val ns k z n).2 h (by omega);unfold D.Sm at b;unfold gN D.Sm;refine⟨?_,by unfold Ds.Sm;exact⟨a,b.2⟩⟩;show(gN ns r z (val ns k z n).2).1.len+1<=100;rw[<-EY,uk];omega
theorem E5 (ns:List Int):∀(fs:Fs),fs.W->∀(i z:Nat) (n:Int),z<8->(jA ns fs i z n).1.Sm
 | .nil,_,_,_,_,_=>by unfold jA D.Sm;trivial
 | .cons x k r,w,0,z,n,h=>by
   unfold Fs.W at w;unfold jA;exact E3 (by unfold D.Sm;trivial) (uo ns k w.1 z n h)
 | .cons x k r,w,i+1,z,n,h=>by
   unfold Fs.W at w;unfold jA;exact E5 ns r w.2 i z n h
end
theorem kP.at {P:D->Prop}:∀{xs:Ds}{i:Nat}{d:D},kP P xs->xs.at i=some d->Tree P d
 | .nil,_,_,_,h=>by cases h
 | .cons _ d r,0,_,w,h=>by unfold kP at w;cases h;exact w.1
 | .cons _ d r,i+1,_,w,h=>by unfold kP at w;exact kP.at (xs:=r) (i:=i) w.2 h
theorem Own.pair {H:Hp}{v:V}{x y:Str}{a b:D}{fp:List Addr}(h:Own H v (.tup (.cons x a (.cons y b .nil))) fp):∃c z J L U,v=.ref c/\H c=some (.tup [z,J])/\fp=L++U/\Own H z a L/\Own H J b U:=by
 unfold Own at h;obtain⟨c,vs,rfl,hc,h⟩:=h;unfold gC at h;obtain⟨z,q,L,U,rfl,rfl,Y,h⟩:=h;unfold gC at h;obtain⟨J,q2,g,f3,rfl,rfl,g2,h⟩:=h;unfold gC at h;obtain⟨rfl,rfl⟩:=h;exact⟨c,z,J,L,g,rfl,hc,by simp,Y,g2⟩
def CW (F:Nat->List V) (n:Nat) (H:Hp) (i m:Nat) (ys:List V) (H':Hp):Prop:=m=n - i/\i<=n/\ys=F i/\(F i).length<=i/\H'=H
theorem mi {J:It}{H:Hp}{xs:List V}{S:List V->Hp->Prop}{C:(Nat->Nat->List V->Hp->Prop)->Nat->Nat->List V->V->Hp->Prop}(Y:qW J H xs)(F:Nat->List V)(aa:xs.length<=1000)
 (q:S (F xs.length) H) (step:∀i x,xs[i]? =some x->(∀y,F (i+1)=F i++[y]->∃U,U<xs.length - i/\CW F xs.length H (i+1) U (F i++[y]) H)->(F (i+1)=F i->∃U,U<xs.length - i/\CW F xs.length H (i+1) U (F i) H)->C (CW F xs.length H) i (xs.length - i) (F i) x H) (h0:F 0=[]:=by rfl):
 ∃W:Nat->Nat->List V->Hp->Prop,(∃m,W 0 m [] H)/\∀i m ys H',W i m ys H'->(J.stop i H'/\S ys H')\/(J.go i H'/\ys.length<sizeLine/\∀x L,J.mT i H' x L->C W i m ys x L):=by
 refine⟨CW F xs.length H,⟨_,rfl,Q0g _,h0.symm,by rw[h0];exact Q00 0,rfl⟩,?_⟩;rintro i m ys H' ⟨rfl,hi,rfl,hl,rfl⟩;by_cases z:i<xs.length
 . refine .inr ⟨Y.1 i _ (Q03 z),i2 (by omega),λx L y=>?_⟩;obtain⟨rfl,hx⟩:=Y.2.1 _ _ _ y;exact step i x hx (λy e=>⟨_,Q2b _ _ z,rfl,z,e.symm,by rw[e,Q0a];exact Q3o hl,rfl⟩) (λe=>⟨_,Q2b _ _ z,rfl,z,e.symm,by rw[e];omega,rfl⟩)
 . cases Q2c hi (Q1d z);exact .inl ⟨Y.2.2,q⟩
def qC (tu:Bool) (K:W.Frag) (H:Hp) (a:Addr) (xs:List V):Prop:=match tu with|true=>fU K H a xs|false=>fY K H a xs
def E6 (tu:Bool) (K:W.Frag) (tl:TE):TI:=match tu with|true=>Cu K tl|false=>Ct K tl
theorem w5 (tu:Bool){X:Cx}{tg l:Expr}{tl:TE}(hl:PE X l tl):PI X tg l (E6 tu X.K tl):=by
 cases tu
 . exact s_ hl
 . exact jS hl
noncomputable def uq (tu:Bool) (xs:List V):HO:=match tu with|true=>.tup xs|false=>.lst xs
theorem qC.of {tu:Bool}{K:W.Frag}{H:Hp}{a:Addr}{xs:List V}(h:H a=some (uq tu xs)):qC tu K H a xs:=by
 cases tu
 . exact fY.of h
 . exact fU.of h
theorem w6 {tu:Bool}{K:W.Frag}{tl:TE}{σ:St}{H:Hp}{a:Addr}{xs:List V}{R:It->Hp->Prop}(z:qC tu K H a xs)(h:∀J,qW J H xs->R J H)(L:∀Q:VK,Q (.ref a) H->tl σ H Q):E6 tu K tl σ H R:=by
 cases tu
 . exact L _ ⟨a,rfl,⟨_,z⟩,h _ (vm z)⟩
 . exact L _ ⟨a,rfl,⟨_,z⟩,h _ (mU z)⟩
theorem take_add {α:Type}{l:List α}{i:Nat}{x:α}(h:l[i]? =some x):l.take (i+1)=l.take i++[x]:=by
 rw[Q0y,h];rfl
theorem w_ {α z:Type}{l:List α}{p:α->Bool}{f:α->z}{i:Nat}{x:α}(h:l[i]? =some x)(c:p x=true):((l.take (i+1)).filter p).map f=((l.take i).filter p).map f++[f x]:=by
 rw[take_add h,Q23,Q24,if_pos c,Q0i];rfl
theorem xa {α z:Type}{l:List α}{p:α->Bool}{f:α->z}{i:Nat}{x:α}(h:l[i]? =some x)(c:¬p x=true):((l.take (i+1)).filter p).map f=((l.take i).filter p).map f:=by
 rw[take_add h,Q23,Q24,if_neg c,List.filter_nil,Q0v]
theorem Fs.get_mem:∀{fs:Fs}{x:Str}{k:Kd},fs.get x=some k->x∈fs.names
 | .nil,_,_,h=>by cases h
 | .cons y q r,x,k,h=>by
   have h:(if x=y then some q else r.get x)=some k:=h;by_cases e:x=y
   . rw[e];exact Q05
   . rw[if_neg e] at h;exact Q0d _ (Fs.get_mem h)
theorem xb:∀{fs:Fs}{x:Str}{v:D},lH fs x v->∃k,fs.get x=some k/\ij k v
 | .nil,_,_,h=>by unfold lH at h;exact h.elim
 | .cons y k r,x,v,h=>by
   unfold lH at h;rcases h with⟨e,f⟩|⟨e,h⟩
   . exact⟨k,by show(if x=y then some k else r.get x)=_;rw[if_pos e],f⟩
   . obtain⟨z,J,L⟩:=xb h;exact⟨z,by show(if x=y then some k else r.get x)=_;rw[if_neg e];exact J,L⟩
theorem Fs.xc:∀{fs:Fs}{x:Str}{k:Kd},fs.W->fs.get x=some k->k.W
 | .nil,_,_,_,h=>by cases h
 | .cons y q r,x,k,w,h=>by
   unfold Fs.W at w;have h:(if x=y then some q else r.get x)=some k:=h;by_cases e:x=y
   . rw[if_pos e] at h;cases h;exact w.1
   . rw[if_neg e] at h;exact Fs.xc w.2 h
theorem E7 {K:PySem.W.Frag}{a:Addr}{xs:List V}{g:TG}{tb:TS}{D:Ends}{σ:St}{H:Hp}(Pv:Nat->St->Hp->Prop)(Y:Pv 0 σ H)(hl:∀i σ H,i<=xs.length->Pv i σ H->fY K H a xs)
 (hs:∀(i:Nat) y σ H p,xs[i]? =some y->Pv i σ H->H p=none->g (.ref p) σ (upd H p (.tup [.int i,y])) λz H2=>tb { D with nx:=Pv (i+1),ct:=Pv (i+1),bk:=D.nx } z H2) (hd:∀σ H,Pv xs.length σ H->D.nx σ H):
 ∃W:Nat->Nat->St->Hp->Prop,(∃m,W 0 m σ H)/\∀i m σ H,W i m σ H->
  ((Ite K a).stop i H/\D.nx σ H)\/((Ite K a).go i H/\∃N:St->Hp->Prop,(∀J H',N J H'->∃U,U<m/\W (i+1) U J H')/\∀x H',(Ite K a).mT i H x H'->g x σ H' λz H2=>tb { D with nx:=N,ct:=N,bk:=D.nx } z H2):=by
 refine⟨λi m σ H=>m=xs.length - i/\i<=xs.length/\Pv i σ H,⟨xs.length,by simp,Q0g _,Y⟩,?_⟩;rintro i m σ H ⟨rfl,hi,p⟩;by_cases L:i<xs.length
 . refine .inr ⟨⟨xs,xs[i],hl i σ H hi p,by simp[L]⟩,Pv (i+1),λJ H' p'=>⟨xs.length - (i+1),by omega,rfl,L,p'⟩,λx H' y=>?_⟩;obtain⟨q,y,hq,rfl,hy,rfl⟩:=y;exact hs i y σ H q (hy xs (hl i σ H hi p)) p hq
 . have e:i=xs.length:=by omega
   subst e;exact .inl ⟨⟨xs,hl _ σ H (Q00 _) p,Q00 _⟩,hd σ H p⟩
theorem ur (i:Nat):(List.replicate i true).all id=true:=by
 rw[Q1j];intro z J;rw[List.eq_of_mem_replicate J];rfl
theorem Fs.pC:∀{fs:Fs}{x:Str},x∈fs.names->∃k,fs.get x=some k
 | .nil,_,h=>nomatch h
 | .cons y q r,x,h=>by
   by_cases e:x=y
   . exact⟨q,by show(if x=y then some q else r.get x)=_;rw[if_pos e]⟩
   . obtain⟨k,hk⟩:=Fs.pC (fs:=r) (x:=x) (by
      rcases List.mem_cons.mp h with z|z
      . exact absurd z e
      . exact z)
     exact⟨k,by show(if x=y then some q else r.get x)=_;rw[if_neg e];exact hk⟩
def LQ (tu:Bool):Sp:=λvs H Q _=>∃b x xs fs,vs=[.ref b,.str x]/\H b=some (uq tu xs)/\FA H xs fs/\((x ∉ fs.names/\Q .non H)\/∃k,fs.names.Nodup/\fs.get x=some k/\∀u,KA H u k->u≠ .non->Q u H)
def rW:Sp:=λvs H Q _=>∃b x xs fs k,vs=[.ref b,.str x]/\H b=some (.tup xs)/\FA H xs fs/\fs.names.Nodup/\fs.get x=some k/\∀u,KA H u k->u≠ .non->Q u H
def xg:Sp:=λvs H Q _=>∃a x y,vs=[.ref a]/\H a=some (.tup [x,y])/\Q (.bl true) H
def uu:Sp:=λvs H Q _=>∃b a xs kvs fs,vs=[.ref b,.ref a]/\H b=some (.tup xs)/\FA H xs fs/\fs.names.Nodup/\fs.names.length<=12/\H a=some (.dK kvs)/\
 ((kvs.length=fs.names.length/\(∀x∈fs.names,(gO kvs (Sum.inr x)).isSome=true)/\∀H',Same H H'->Q (.bl true) H')\/(kvs.length≠fs.names.length/\∀H',Same H H'->Q (.bl false) H'))
def mJ (n:Nat):Sp:=λvs H Q _=>∃z v k d fp,vs=[z,v]/\KA H z k/\k.W/\Own H v d fp/\ij k d/\d.dep<=n/\d.Sm/\∀H',Same H H'->Q .non H'
def xh (n:Nat):Sp:=λvs H Q _=>∃b a xs kvs fs m fp,vs=[.ref b,.ref a]/\H b=some (.tup xs)/\FA H xs fs/\fs.names.Nodup/\fs.names.length<=12/\fs.W/\H a=some (.dK kvs)/\gF H kvs m fp/\ja fs m/\m.dep<=n/\m.Sm/\∀H',Same H H'->Q .non H'
def E8 (n:Nat):Sp:=λvs H Q _=>∃L U a xs key z fs ys J Y,vs=[.ref L,.ref a]/\H L=some (.tup [.str "rows",.str key,.str z,.ref U])/\H U=some (.tup xs)/\FA H xs fs/\(Kd.rows key z fs).W/\H a=some (.lst ys)/\i7 H ys J Y/\(∀m∈J,ja fs m)/\J.Pairwise (rG key z)/\(J.map λm=>keyOf m key).Nodup/\(∀m∈J,m.dep<=n)/\(∀m∈J,m.Sm)/\ys.length<=100/\∀H',Same H H'->Q .non H'
def qD (n:Nat):Sp:=λvs H Q _=>∃a u v k d fp,vs=[.ref a,v]/\H a=some (.tup [.str "tree",u])/\KA H u k/\k.W/\Own H v d fp/\Tree (ij k) d/\d.dep<=n/\d.Sm/\∀H',Same H H'->Q .non H'
def E9 (n:Nat):Sp:=λvs H Q _=>∃b t x v xs fs d fp,vs=[.ref b,.ref t]/\H b=some (.tup xs)/\FA H xs fs/\fs.names.Nodup/\fs.W/\H t=some (.tup [.str x,v])/\Own H v d fp/\lH fs x d/\d.dep<=n/\d.Sm/\∀H',Same H H'->Q .non H'
theorem KA.LR {H:Hp}:∀{u:V}{k:Kd},KA H u k->u≠ .non
 |_,.num,h=>by unfold KA at h;obtain⟨a,rfl,_⟩:=h;intro z;cases z
 |_,.iF,h=>by unfold KA at h;obtain⟨a,rfl,_⟩:=h;intro z;cases z
 |_,.gI _,h=>by unfold KA at h;obtain⟨a,b,vs,rfl,_⟩:=h;intro z;cases z
 |_,.rows _ _ _,h=>by unfold KA at h;obtain⟨a,b,vs,rfl,_⟩:=h;intro z;cases z
 |_,.tree _,h=>by unfold KA at h;obtain⟨a,b,rfl,_⟩:=h;intro z;cases z
 |_,.je _,h=>by unfold KA at h;obtain⟨a,b,vs,rfl,_⟩:=h;intro z;cases z
theorem LS:gM ["fields","name","pair"] ["fields","name"] (gn (top 6)):=gT
theorem E_ (tu:Bool)(T:Tb mg)(L:Dn K mg "kind_at" j2 (top 6) U Y):e_ P w K mg base fW (1) U Y j2 (LQ tu):=by
 refine L.F.ok LS λvs H Q E h=>?_;obtain⟨b,x,xs,fs,rfl,hb,ac,h⟩:=h;refine⟨rfl,λah A outer s nd hr hu=>?_⟩
 refine⟨_,(fT (jt PassesOwn.never rfl (w5 tu (pv 0)) (gK (i:=2) nd rfl ip) (fX (gp (gw gL (f7 (pv 2) d_) (pv 1) (gj _)) (fX (f6 (f7 (pv 2) d_))) gu)))
  (fX (f6 iB))),?_⟩
 ac_rfl
 refine w6 (qC.of hb) (λJ hJ=>vn (xs:=xs) (λi σ H'=>H'=H/\(∃z,σ=[some (.ref b),some (.str x),z])/\∀j,j<i->fs.names[j]? ≠some x) ⟨rfl,⟨_,rfl⟩,λj hj=>absurd hj (by omega)⟩ ?_ ?_ ?_) (λ_ h=>⟨_,rfl,h⟩)
 . rintro i σ H' _ ⟨rfl,_⟩;exact hJ
 . rintro i v σ H' hv ⟨rfl,⟨z,rfl⟩,ab⟩;obtain⟨c,u,nm,k',rfl,ae,hc,hk⟩:=FA.get fs ac hv;have af:fs.names[i]? =some nm:=by rw[Fs.kz,ae];rfl
   refine⟨_,rfl,c,_,_,_,rfl,rfl,fU.of hc,rfl,_,rfl,rfl,_,rfl,iS (λcc=>?_) (λcc=>?_)⟩
   . have e:nm=x:=by
      have:=of_decide_eq_true cc;injection this
     subst e;rcases h with⟨no,_⟩|⟨k,ag,aa,q⟩
     . exact absurd (Q0s af) no
     have ek:=Fs.nS ag ae;rw[aa] at ek
     cases ek;exact⟨_,rfl,c,_,_,_,rfl,rfl,fU.of hc,rfl,q u hk hk.LR⟩
   . refine⟨rfl,⟨_,rfl⟩,λj hj=>?_⟩;by_cases e:j<i
     . exact ab j e
     . have:j=i:=by omega
       subst this;rw[af];intro z
       cases z;exact cc (decide_eq_true rfl)
 . rintro σ H' ⟨rfl,⟨z,rfl⟩,ab⟩;rcases h with⟨_,q⟩|⟨k,ag,aa,q⟩
   . exact q
   obtain⟨j,hj,e⟩:=Q10 (Fs.get_mem aa);exact absurd (by rw[Q03 hj,e]) (ab j (by rw[FA.len fs ac];exact hj))
theorem Fb (T:Tb mg)(z:Dn K mg "kind_at" j2 (top 6) J L):e_ P w K mg base fW (1) J L j2 (rW):=(E_ true T z).imp λvs H Q E h=>by
 obtain⟨b,x,xs,fs,k,e,Y,U,hg⟩:=h;exact⟨b,x,xs,fs,e,Y,U,.inr ⟨k,hg⟩⟩
theorem Fe:gM ["value"] ["value"] (gn (top 14)):=gT
theorem LU (T:Tb mg)(z:Dn K mg "is_pair" lu (top 14) J L):e_ P w K mg base fW (1) J L lu (xg):=by
 refine z.F.ok Fe λvs H Q E h=>?_;obtain⟨a,x,y,rfl,U,q⟩:=h;refine⟨rfl,λY A outer s nd hr hu=>?_⟩;refine⟨_,(fX (f6 (kH (gA iy (by rfl) T.iA boot_isinstance (a_ (pv 0) (a_ (iu (v:=.ty "tuple") rfl T.lJ boot_tuple rfl) c_))) (lD (jK gL (gA i9 (by rfl) T.iI PySem.boot_len (a_ (pv 0) c_)) d_ (gj _)))))),?_⟩
 ac_rfl
 refine⟨_,rfl,_,_,_,true,rfl,.tup U,rfl,true,rfl,ix ?_⟩;exact⟨_,rfl,a,_,rfl,.inr (fU.of U),rfl,q⟩
theorem LV:gM XS XS (gn (top 12)):=gT
theorem Ff (T:Tb mg)(J:Dn K mg "has_just" jg (top 12) L U):e_ P w K mg base fW (1) L U jg (uu):=by
 refine J.F.ok LV λvs H Q E h=>?_;obtain⟨b,a,xs,kvs,fs,rfl,hb,Y,ae,hx,ha,h⟩:=h;refine⟨rfl,λah A outer s nd hr hu=>?_⟩;refine⟨_,(fX (f6 (kH (jK gL (gA Dl (by rfl) T.iI PySem.boot_len (a_ (pv 1) c_)) (gA i9 (by rfl) T.iI PySem.boot_len (a_ (pv 0) c_)) (gj _)) (lD (gA (pX rfl) (by rfl) T.qp boot_all (a_ (j9 (g:=(oQ K 2 (kZ (iY 0) (kZ (iY 1) oP)))) (tt:=kx) (te:=_) (own:=["name","inner"]) rfl (jW (N:=XS) (sc:=gn (top 12))) (jS (pv 0)) (λ_ _ _ _ _=>(jE rfl (ic (gK (i:=0) (show(["name","inner","fields","record"]:List Str).Nodup by decide +kernel) rfl (Or.inl rfl) (.inr rfl)) (ic (gK (i:=1) (show(["name","inner","fields","record"]:List Str).Nodup by decide +kernel) rfl (Or.inl rfl) (.inr rfl)) jD)))) (λ_ _ _ _ _=>lb) (λ_ _ _ _ _=>(Ig (vP hu (pv 0) (pv 3)) (by with_unfolding_all rfl)))) c_)))))),?_⟩
 ac_rfl
 have aa:=FA.len fs Y;refine⟨_,rfl,a,_,rfl,ha,_,rfl,b,_,rfl,.inr (fU.of hb),rfl,_,rfl,?_⟩;rcases h with⟨e1,ab,q⟩|⟨e1,q⟩
 . rw[decide_eq_true (show V.int (kvs.length:Nat)=V.int (xs.length:Nat) by rw[e1,aa])];refine ix ?_;refine⟨_,rfl,b,rfl,⟨_,fU.of hb⟩,mi (mU (fU.of hb)) (λi=>(List.replicate i true).map V.bl) (by omega) (λp hp=>⟨p,_,rfl,fY.of fZ,?_⟩) (λi x hx af _=>?_)⟩
   . rw[ur];exact q _ (Same.new hp)
   obtain⟨c,u,nm,k,rfl,ag,hc,hk⟩:=FA.get fs Y hx;obtain⟨v,ac⟩:=Option.isSome_iff_exists.mp (ab nm (Fs.get_mem (Fs.nS ae ag)));refine⟨c,_,rfl,fU.of hc,rfl,_,_,rfl,_,_,rfl,rfl,rfl,yes (ix ⟨_,rfl,_,rfl,a,_,rfl,ig.k (k:=Sum.inr nm) ha,af _ ?_⟩)⟩;rw[ac,List.replicate_succ',Q0i];rfl
 . rw[decide_eq_false (show ¬V.int (kvs.length:Nat)=V.int (xs.length:Nat) from λz=>e1 (by injection z with z;rw[aa] at z;exact Int.ofNat.inj z))];exact gP (q _ (Same.refl _))
theorem xj:gM ["fields","record","name","inner","place"] XS (gn (top 11)):=gT
theorem LW (n:Nat)(T:Tb mg)(J:Dn K mg "record_misfit" jg (top 11) L U)(Y:Dn K mg "has_just" jg (top 12) aa ab)(ac:e_ P w K mg base fW (1) aa ab jg (uu))(ae:Dn K mg "misfit" jb (top 10) af ag)(ah:e_ P w K mg base fW (4 * n+3) af ag jb (mJ n)):e_ P w K mg base fW (4 * n+4) L U jg (xh n):=by
 refine J.F.ok xj λvs H Q E h=>?_;obtain⟨b,a,xs,kvs,fs,m,fp,rfl,hb,aj,ak,hx,ao,ha,hO,hF,ap,aq,q⟩:=h;refine⟨rfl,λar A outer s nd hr hu=>?_⟩
 refine⟨_,(fT (gp (PW.pt (iX (ia (gZ (gA iy (by rfl) T.iA boot_isinstance (a_ (pv 1) (a_ (iu (v:=.ty "dict") rfl T.nX boot_dict rfl) c_))))) (i5 (ia (gZ (f9 ac hr Y (a_ (pv 0) (a_ (pv 1) c_)))))))) (fX (f6 (iM c_))) gu)
  (fT (jt PassesOwn.never rfl (jS (pv 0)) (jE rfl (ic (gK (i:=2) nd rfl ip) (ic (gK (i:=3) nd rfl ip) jD))) (fT (gv 4 nd (f9 ah hr ae (a_ (pv 3) (a_ (jr hu (pv 1) (pv 2) (λ_ _=>rfl)) c_))))
  (fX (gp (gw j6 (pv 4) iB (gj _)) (fX (f6 kN)) gu))))
  (fX (f6 iB)))),?_⟩
 ac_rfl
 refine⟨_,rfl,_,_,_,true,rfl,.dK ha,rfl,true,rfl,gP ?_⟩;refine⟨_,rfl,_,rfl,b,a,xs,kvs,fs,rfl,hb,aj,ak,hx,ha,.inl ⟨by rw[gF.len hO,hF.names],λx hx=>?_,λH1 s1=>⟨true,rfl,gP ?_⟩⟩⟩
 . obtain⟨k,hk⟩:=Fs.pC hx;obtain⟨d,hd,_⟩:=hF.get hk;obtain⟨v,f,ai,_⟩:=gF.val _ hO hd;rw[ai];rfl
 refine⟨_,rfl,b,rfl,⟨_,fU.of (s1 _ _ hb)⟩,nN (xs:=xs) (λi σ H'=>Same H H'/\∃x y z,σ=[some (.ref b),some (.ref a),x,y,z]) ⟨s1,_,_,_,rfl⟩ ?_ ?_ ?_⟩
 . rintro i σ H' _ ⟨s2,_⟩;exact fU.of (s2 _ _ hb)
 . rintro i v σ H' hv ⟨s2,x,y,z,rfl⟩;obtain⟨c,u,nm,k,rfl,al,hc,hk⟩:=FA.get fs aj hv;obtain⟨d,hd,am⟩:=hF.get (Fs.nS ak al);obtain⟨e,f,ai,an,_⟩:=gF.val _ hO hd;refine⟨c,_,rfl,fU.of (s2 _ _ hc),rfl,_,_,rfl,_,_,rfl,rfl,?_⟩;refine⟨_,rfl,_,rfl,_,rfl,a,e,rfl,(by have:=ig.k (k:=Sum.inr nm) (s2 _ _ ha);rw[ai] at this;exact this),u,e,k,d,f,rfl,KA.mono (Tu.of s2) k hk,Fs.pf ao al,Own.same s2 an,am,Q0b (Ds.tV hd) ap,Ds.um aq hd,λH3 s3=>?_⟩;refine⟨_,rfl,rfl,_,rfl,?_⟩;rw[decide_eq_true rfl];refine gP ?_;exact⟨s2.trans s3,_,_,_,rfl⟩
 . rintro σ H' ⟨s2,_⟩;exact q _ s2
theorem Fg:gM ["kind","rows","earlier","number","row","place"] ["kind","rows"] (gn (top 13)):=gT
theorem LX (n:Nat)(T:Tb mg)(aa:Dn K mg "rows_misfit" me (top 13) ab ac)(J:Dn K mg "record_misfit" jg (top 11) L U)(Y:e_ P w K mg base fW (4 * n+4) L U jg (xh n))(ak:Dn K mg "rank" pA (top 17) av aw)(al:e_ P w K mg base fW (1) av aw pA (rV)):e_ P w K mg base fW (4 * n+5) ab ac me (E8 n):=by
 refine aa.F.ok Fg λvs H Q E h=>?_;obtain⟨pk,pb,a,xs,key,ag,fs,ys,rs,fl,rfl,aj,aK,aM,hW,ha,ao,ae,aA,aN,aO,aP,a6,q⟩:=h;refine⟨rfl,λa9 A outer s nd hr hu=>?_⟩;have aT:=hr.vC;unfold Kd.W at hW;obtain⟨aU,aV,aW,ai,aq⟩:=hW
 refine⟨_,(fT (gp (ia (gZ (gA iy (by rfl) T.iA boot_isinstance (a_ (pv 1) (a_ (iu (v:=.ty "list") rfl T.j_ boot_list rfl) c_))))) (fX (f6 (iM c_))) gu)
  (fT (gv 2 nd pU)
  (fT (jt PassesOwn.never rfl (tJ rfl T.tZ (a_ (pv 1) c_)) (jE rfl (ic (gK (i:=3) nd rfl ip) (ic (gK (i:=4) nd rfl ip) jD))) (fT (gv 5 nd (f9 Y hr J (a_ (f7 (pv 0) d_) (a_ (pv 4) c_))))
  (fT (gp (gw j6 (pv 5) iB (gj _)) (fX (f6 kN)) gu)
  (fT (gp (PW.pt (oM (gw qX (pv 3) d_ (gj _)) (oK (gw (DZ aT) (f9 al hr ak (a_ (pv 0) (a_ (pv 4) c_))) (f9 al hr ak (a_ (pv 0) (a_ (ka (pv 1) (gh mV (pv 3) d_)) c_))) (gj _))))) (fX (f6 kN)) gu)
  (fT (gp (qS (vP hu (jr hu (pv 4) (f7 (pv 0) d_) (λ_ _=>rfl)) (pv 2)) (by with_unfolding_all rfl)) (fX (f6 kN)) gu)
  (fX (mF hu (pv 2) (jr hu (pv 4) (f7 (pv 0) d_) (λ_ _=>rfl)) iH rfl)))))))
  (fX (f6 iB))))),?_⟩
 ac_rfl
 refine⟨_,rfl,_,_,_,true,rfl,.lst ha,rfl,true,rfl,gP ?_⟩;intro p hp;have s0:Same H (upd H p (.dK [])):=Same.new hp;obtain⟨a7,a8⟩:=A3.len ao;refine⟨_,rfl,a,rfl,⟨_,fY.of (s0 _ _ ha)⟩,E7 (xs:=ys) (λi σ H'=>∃x y z ek,σ=[some (.ref pk),some (.ref a),some (.ref p),x,y,z]/\Same H H'/\H' p=some (.dK ek)/\ek.map (·.1)=(rs.take i).map λm=>keyOf m key) ⟨_,_,_,[],rfl,s0,fZ,rfl⟩ ?_ ?_ ?_⟩
 . intro i σ H' _ zq;obtain⟨x,y,z,ek,rfl,s2,_⟩:=zq;exact fY.of (s2 _ _ ha)
 . rintro i yv σ H' t hy ⟨x,y,z,ek,rfl,s2,aX,ay⟩ ht;have hi:i<ys.length:=(List.getElem?_eq_some_iff.mp hy).1;have st:Same H' (upd H' t (.tup [.int i,yv])):=Same.new ht;have s3:=s2.trans st
   have aB:∀j,j<ys.length->∃rr kvs fq,ys[j]? =some (.ref rr)/\H rr=some (.dK kvs)/\gF H kvs (rs.getD j .nil) fq/\rs.getD j .nil∈rs:=λj hj=>by
    have h:=A3.at (a0:=V.non) (b0:=Ds.nil) (c0:=[]) ao j hj;unfold Own at h;obtain⟨rr,kvs,fq,e,am,_,an⟩:=h;refine⟨rr,kvs,fq,?_,am,an,?_⟩
    . rw[<-e,Q0e,Q03 hj];rfl
    . rw[Q0e,Q03 (by omega)];exact Q1m _
   obtain⟨rr,kvs,fq,aD,am,an,af⟩:=aB i hi;rw[hy] at aD
   cases aD;have aE:upd H' t (.tup [.int i,.ref rr]) p=some (.dK ek):=st _ _ aX
   have gk:∀H4,Same H H4->ig H4 rr (.str key) (some (kV (keyOf (rs.getD i .nil) key))):=λH4 s4=>by
    have:=ig.k (k:=Sum.inr key) (s4 _ _ am);rw[an.key (ae _ af) ai] at this;exact this
   refine⟨t,_,rfl,fU.of fZ,rfl,_,_,rfl,_,_,rfl,rfl,?_⟩;refine⟨_,rfl,pk,_,_,_,rfl,rfl,fU.of (s3 _ _ aj),rfl,_,rfl,pb,rr,xs,kvs,fs,_,fq,rfl,s3 _ _ aK,FA.mono (Tu.of s3) fs aM,aU,aV,aW,s3 _ _ am,gF.same s3 an,ae _ af,aO _ af,aP _ af,λH4 s4=>?_⟩;have ah:=s3.trans s4;refine⟨_,rfl,rfl,_,rfl,?_⟩;rw[decide_eq_true rfl];refine gP ?_
   have ar:gO ek (keyOf (rs.getD i .nil) key)=none:=by
    have sv:=EU ay (keyOf (rs.getD i .nil) key)
    have:nV key (rs.take i) (keyOf (rs.getD i .nil) key)=false:=by
     cases z:nV key (rs.take i) (keyOf (rs.getD i .nil) key) with
     |false=>rfl
     |true=>
      obtain⟨m,hm,e⟩:=List.any_eq_true.mp z;have e:=of_decide_eq_true e;obtain⟨j,hj,ej⟩:=Q10 hm;rw[Q0r] at hj;rw[Q22] at ej;have aF:i<rs.length:=by omega
      have e2:rs.getD i .nil=rs[i]:=by rw[Q0e,Q03 aF];rfl
      have:=List.pairwise_iff_getElem.mp (List.pairwise_map.mp aN) j i (by omega) aF (by omega);rw[ej,<-e2] at this;exact absurd e this
    rw[this] at sv
    cases z:gO ek (keyOf (rs.getD i .nil) key) with
    |none=>rfl
    |some o=>rw[z] at sv;cases sv
   have fin:∀H5,Same (upd H' t (.tup [.int i,.ref rr])) H5->∀(DD:Ends),DD.nx=(λσ H'=>∃x y z ek,σ=[some (.ref pk),some (.ref a),some (.ref p),x,y,z]/\Same H H'/\H' p=some (.dK ek)/\ek.map (·.1)=(rs.take (i+1)).map λm=>keyOf m key)->∀z':Option V,
    DD.nx [some (.ref pk),some (.ref a),some (.ref p),some (.int i),some (.ref rr),z'] (upd H5 p (.dK (ek++[(keyOf (rs.getD i .nil) key,.bl true)]))):=λH5 s5 DD aY z'=>by
    rw[aY];refine⟨_,_,_,_,rfl,λc o e=>?_,fZ,?_⟩
    . rw[fV (gc e hp)];exact s5 _ _ (s3 _ _ e)
    . rw[Q0i,ay,Q0y,Q0i];congr 1;rw[Q03 (by omega),Q0e,Q03 (by omega)];rfl
   have ax:ek.length<sizeLine:=by
    have e1:=congrArg List.length ay;rw[Q04,Q04,Q0r] at e1;have:=hr.vC;exact i2 (by omega)
   refine⟨_,rfl,_,_,rfl,rfl,_,rfl,iS (λc=>?_) (λc=>gP ?_)⟩
   . have ba:0<i:=by
      have:(0:Int)<(i:Int):=of_decide_eq_true c;omega
     obtain⟨rp,aZ,a1,aI,a2,aJ,ap⟩:=aB (i - 1) (by omega);refine⟨_,rfl,_,rfl,pk,rr,pb,key,ag,fs,kvs,_,fq,rfl,ah _ _ aj,ah _ _ am,gF.same ah an,ae _ af,ai,aq,λt1 a3=>?_⟩;have az:Same H4 (upd H4 t1 (.tup ((rankOf key ag (rs.getD i .nil)).map kV))):=Same.new a3;have s5:=ah.trans az
     have a4:jo ys ((i:Int) - 1)=some (.ref rp):=by
      have e:(i:Int) - 1=((i - 1:Nat):Int):=by omega
      rw[e];exact lF aI
     refine⟨_,rfl,_,rfl,_,rfl,_,_,rfl,rfl,a,_,_,_,rfl,rfl,fY.of (s5 _ _ ha),a4,pk,rp,pb,key,ag,fs,aZ,_,a1,rfl,s5 _ _ aj,s5 _ _ a2,gF.same s5 aJ,ae _ ap,ai,aq,λt2 rX=>?_⟩;have au:Same (upd H4 t1 (.tup ((rankOf key ag (rs.getD i .nil)).map kV))) (upd (upd H4 t1 (.tup ((rankOf key ag (rs.getD i .nil)).map kV))) t2 (.tup ((rankOf key ag (rs.getD (i - 1) .nil)).map kV))):=Same.new rX;have s6:=s5.trans au
     have a5:hZ (rankOf key ag (rs.getD (i - 1) .nil)) (rankOf key ag (rs.getD i .nil))=true:=by
      have ge:∀j (h:j<rs.length),rs.getD j .nil=rs[j]:=λj h=>by rw[Q0e,Q03 h];rfl
      rw[ge (i - 1) (by omega),ge i (by omega)];exact List.pairwise_iff_getElem.mp aA (i - 1) i (by omega) (by omega) (by omega)
     refine⟨t1,t2,_,_,rfl,rfl,fU.of (au _ _ fZ),fU.of fZ,(wq (ae _ af) ai aq).trans (wq (ae _ ap) ai aq).symm,_,rfl,?_⟩;rw[a5];refine gP ?_;have aG:=au _ _ (az _ _ (s4 _ _ aE));refine⟨_,rfl,_,rfl,pk,_,_,_,rfl,rfl,fU.of (s6 _ _ aj),rfl,rr,_,rfl,gk _ s6,_,rfl,p,_,rfl,ig.k aG,_,rfl,?_⟩;rw[ar];refine gP ?_;refine⟨_,rfl,_,rfl,_,rfl,pk,_,_,_,rfl,rfl,fU.of (s6 _ _ aj),rfl,rr,_,rfl,gk _ s6,p,_,rfl,kK.k aG ax,?_⟩;rw[tW ar];exact fin _ (s4.trans (az.trans au)) _ rfl _
   . have aH:=s4 _ _ aE;refine⟨_,rfl,_,rfl,pk,_,_,_,rfl,rfl,fU.of (ah _ _ aj),rfl,rr,_,rfl,gk _ ah,_,rfl,p,_,rfl,ig.k aH,_,rfl,?_⟩;rw[ar];refine gP ?_;refine⟨_,rfl,_,rfl,_,rfl,pk,_,_,_,rfl,rfl,fU.of (ah _ _ aj),rfl,rr,_,rfl,gk _ ah,p,_,rfl,kK.k aH ax,?_⟩;rw[tW ar];exact fin _ s4 _ rfl _
 . intro σ H' zq;obtain⟨x,y,z,ek,rfl,s2,_⟩:=zq;exact q _ s2
theorem xl:gM ["kind","tree","place","number","arm"] ["kind","tree"] (gn (top 15)):=gT
theorem LY (T:Tb mg)(z:Dn K mg "tree_misfit" kb (top 15) J L):e_ P w K mg base fW (4 * 0+2) J L kb (qD 0):=by
 refine z.F.ok xl λvs H Q E h=>?_;obtain⟨a,u,v,k,d,fp,rfl,_,_,_,_,_,U,_⟩:=h;refine⟨rfl,λY A outer s nd hr hu=>?_⟩;exact absurd U (by have:=d.nq;omega)
theorem LZ (n:Nat)(T:Tb mg)(J:Dn K mg "tree_misfit" kb (top 15) L U)(Y:e_ P w K mg base fW (4 * n+2) L U kb (qD n))(aa:Dn K mg "is_pair" lu (top 14) ab ac)(ae:e_ P w K mg base fW (1) ab ac lu (xg))(af:Dn K mg "misfit" jb (top 10) ag ah)(ai:e_ P w K mg base fW (4 * n+3) ag ah jb (mJ n)):e_ P w K mg base fW (4 * (n+1)+2) L U kb (qD (n+1)):=by
 refine J.F.ok xl λvs H Q E h=>?_;obtain⟨a,u,v,k,d,fp,rfl,ha,hk,hW,hO,oA,ap,al,q⟩:=h;refine⟨rfl,λaz A outer s nd hr hu=>?_⟩;obtain⟨x,y,t,as,rfl,aq,ar⟩:=oA.shape;obtain⟨c,v1,v2,f1,f2,rfl,hc,rfl,au,am⟩:=hO.pair;unfold Own at am;obtain⟨pl,ys,fq,rfl,aj,rfl,av⟩:=am;simp only[D.dep,Ds.dep] at ap;unfold D.Sm Ds.Sm at al;obtain⟨_,aw,an⟩:=al;unfold Ds.Sm at an;have ao:=an.1;unfold D.Sm at ao
 refine⟨_,(fT (gp (PW.pt (iX (ia (gZ (f9 ae hr aa (a_ (pv 1) c_)))) (i5 (ia (gZ (gA iy (by rfl) T.iA boot_isinstance (a_ (f7 (pv 1) d_) (a_ (iu (v:=.ty "list") rfl T.j_ boot_list rfl) c_)))))))) (fX (f6 (iM c_))) gu)
  (fT (gv 2 nd (f9 ai hr af (a_ (f7 (pv 0) d_) (a_ (f7 (pv 1) d_) c_))))
  (fT (gp (gw j6 (pv 2) iB (gj _)) (fX (f6 kN)) gu)
  (fT (jt PassesOwn.never rfl (tJ rfl T.tZ (a_ (f7 (pv 1) d_) c_)) (jE rfl (ic (gK (i:=3) nd rfl ip) (ic (gK (i:=4) nd rfl ip) jD))) (fT (gv 2 nd (f9 Y hr J (a_ (pv 0) (a_ (pv 4) c_))))
  (fX (gp (gw j6 (pv 2) iB (gj _)) (fX (f6 kN)) gu))))
  (fX (f6 iB)))))),?_⟩
 ac_rfl
 refine⟨_,rfl,c,v1,.ref pl,rfl,hc,true,rfl,gP ?_⟩;refine⟨_,rfl,c,_,_,_,rfl,rfl,fU.of hc,rfl,_,_,_,true,rfl,.lst aj,rfl,true,rfl,gP ?_⟩;refine⟨_,rfl,a,_,_,_,rfl,rfl,fU.of ha,rfl,_,rfl,c,_,_,_,rfl,rfl,fU.of hc,rfl,u,v1,k,t,f1,rfl,hk,hW,au,aq,by omega,aw,λH1 s1=>?_⟩;refine⟨_,rfl,rfl,_,rfl,?_⟩;rw[decide_eq_true rfl];refine gP ?_;refine⟨_,rfl,c,_,_,_,rfl,rfl,fU.of (s1 _ _ hc),rfl,pl,rfl,⟨_,fY.of (s1 _ _ aj)⟩,E7 (xs:=ys) (λi σ H'=>Same H H'/\∃x y z,σ=[some (.ref a),some (.ref c),x,y,z]) ⟨s1,_,_,_,rfl⟩ ?_ ?_ ?_⟩
 . rintro i σ H' _ ⟨s2,_⟩;exact fY.of (s2 _ _ aj)
 . rintro i yv σ H' tt hy ⟨s2,x,y,z,rfl⟩ ax;have st:Same H' (upd H' tt (.tup [.int i,yv])):=Same.new ax;have s3:=s2.trans st;obtain⟨d',f,ak,ay,_⟩:=gC.get _ av hy;have aA:=Ds.pd ak;refine⟨tt,_,rfl,fU.of fZ,rfl,_,_,rfl,_,_,rfl,rfl,?_⟩;refine⟨_,rfl,_,rfl,a,u,yv,k,d',f,rfl,s3 _ _ ha,KA.mono (Tu.of s3) k hk,hW,Own.same s3 ay,kP.at ar ak,by omega,Ds.wU ao.2 ak,λH4 s4=>?_⟩;refine⟨_,rfl,rfl,_,rfl,?_⟩;rw[decide_eq_true rfl];refine gP ?_;exact⟨s3.trans s4,_,_,_,rfl⟩
 . rintro σ H' ⟨s2,_⟩;exact q _ s2
theorem Fh:gM ["fields","value","inner","place"] ["fields","value"] (gn (top 16)):=gT
theorem L0 (n:Nat)(T:Tb mg)(z:Dn K mg "either_misfit" mf (top 16) J L)(U:Dn K mg "is_pair" lu (top 14) Y aa)(ab:e_ P w K mg base fW (1) Y aa lu (xg))(ac:Dn K mg "kind_at" j2 (top 6) ae af)(ag:e_ P w K mg base fW (1) ae af j2 (rW))(ah:Dn K mg "misfit" jb (top 10) ai aj)(ak:e_ P w K mg base fW (4 * n+3) ai aj jb (mJ n)):e_ P w K mg base fW (4 * n+4) J L mf (E9 n):=by
 refine z.F.ok Fh λvs H Q E h=>?_;obtain⟨b,t,x,v,xs,fs,d,fp,rfl,hb,an,ao,ap,ht,hO,hE,aq,ar,q⟩:=h;refine⟨rfl,λav A outer s nd hr hu=>?_⟩
 refine⟨_,(fT (gp (ia (gZ (f9 ab hr U (a_ (pv 1) c_)))) (fX (f6 (iM c_))) gu)
  (fT (gv 2 nd (f9 ag hr ac (a_ (pv 0) (a_ (f7 (pv 1) d_) c_))))
  (fT (gp (gw vy (pv 2) iB (gj _)) (fX (f6 (iM c_))) gu)
  (fT (gv 3 nd (f9 ak hr ah (a_ (pv 2) (a_ (f7 (pv 1) d_) c_))))
  (fT (gp (gw j6 (pv 3) iB (gj _)) (fX (f6 kN)) gu)
  (fX (f6 iB))))))),?_⟩
 ac_rfl
 obtain⟨k,al,am⟩:=xb hE;refine⟨_,rfl,t,_,_,rfl,ht,true,rfl,gP ?_⟩;refine⟨_,rfl,_,rfl,t,_,_,_,rfl,rfl,fU.of ht,rfl,b,x,xs,fs,k,rfl,hb,an,ao,al,λu hu au=>?_⟩;refine⟨_,rfl,rfl,_,rfl,?_⟩;rw[decide_eq_false au];refine gP ?_;refine⟨_,rfl,_,rfl,t,_,_,_,rfl,rfl,fU.of ht,rfl,u,v,k,d,fp,rfl,hu,Fs.xc ap al,hO,am,aq,ar,λH1 s1=>?_⟩;refine⟨_,rfl,rfl,_,rfl,?_⟩;rw[decide_eq_true rfl];refine gP ?_;exact q _ s1
theorem uv:gM ["kind","value","form"] ["kind","value"] (gn (top 10)):=gT
theorem L9 (T:Tb mg)(z:Dn K mg "misfit" jb (top 10) J L):e_ P w K mg base fW (4 * 0+3) J L jb (mJ 0):=by
 refine z.F.ok uv λvs H Q E h=>?_;obtain⟨kv,v,k,d,fp,rfl,_,_,_,_,U,_⟩:=h;refine⟨rfl,λY A outer s nd hr hu=>?_⟩;exact absurd U (by have:=d.nq;omega)
theorem L_ (n:Nat)(T:Tb mg)(ao:Dn K mg "misfit" jb (top 10) ap aq)(J:Dn K mg "record_misfit" jg (top 11) L U)(Y:e_ P w K mg base fW (4 * n+4) L U jg (xh n))(af:Dn K mg "rows_misfit" me (top 13) ag ah)(ai:e_ P w K mg base fW (4 * n+5) ag ah me (E8 n))(aj:Dn K mg "tree_misfit" kb (top 15) ak al)(am:e_ P w K mg base fW (4 * (n+1)+2) ak al kb (qD (n+1)))(aa:Dn K mg "either_misfit" mf (top 16) ab ac)(ae:e_ P w K mg base fW (4 * n+4) ab ac mf (E9 n)):
 e_ P w K mg base fW (4 * (n+1)+3) ap aq jb (mJ (n+1)):=by
 refine ao.F.ok uv λvs H Q E h=>?_;obtain⟨kv,v,k,d,fp,rfl,hk,hW,hO,hF,av,an,q⟩:=h;refine⟨rfl,λaE A outer s nd hr hu=>?_⟩
 refine⟨_,(fT (gv 2 nd (f7 (pv 0) d_))
  (fT (gp (gw gL (pv 2) gH (gj _)) (fX (f6 (oN (PW.pt (oM (gZ (gA iy (by rfl) T.iA boot_isinstance (a_ (pv 1) (a_ (iu (v:=.ty "int") rfl T.rP boot_int rfl) c_)))) (oK (ia (gZ (gA iy (by rfl) T.iA boot_isinstance (a_ (pv 1) (a_ (iu (v:=.ty "bool") rfl T.qr boot_bool rfl) c_)))))))) iB (iM c_)))) gu)
  (fT (gp (gw gL (pv 2) gH (gj _)) (fX (f6 (oN (gZ (gA iy (by rfl) T.iA boot_isinstance (a_ (pv 1) (a_ (iu (v:=.ty "str") rfl T.nt boot_str rfl) c_)))) iB (iM c_)))) gu)
  (fT (gp (gw gL (pv 2) gH (gj _)) (fX (f6 (f9 Y hr J (a_ (f7 (pv 0) d_) (a_ (pv 1) c_))))) gu)
  (fT (gp (gw gL (pv 2) gH (gj _)) (fX (f6 (f9 ai hr af (a_ (pv 0) (a_ (pv 1) c_))))) gu)
  (fT (gp (gw gL (pv 2) gH (gj _)) (fX (f6 (f9 am hr aj (a_ (pv 0) (a_ (pv 1) c_))))) gu)
  (fX (f6 (f9 ae hr aa (a_ (f7 (pv 0) d_) (a_ (pv 1) c_))))))))))),?_⟩
 ac_rfl
 cases k with
 |num=>
  unfold KA at hk;obtain⟨a,rfl,ha⟩:=hk;unfold ij at hF;obtain⟨z,rfl⟩:=hF;unfold Own at hO;obtain⟨rfl,rfl⟩:=hO;refine⟨_,rfl,a,_,_,_,rfl,rfl,fU.of ha,rfl,?_⟩;refine l9 rfl (by decide +kernel) ?_;refine⟨_,rfl,_,_,_,true,rfl,.int z,rfl,true,rfl,ix ?_⟩;refine⟨_,rfl,_,_,_,false,rfl,.int z,rfl,false,rfl,ix ?_⟩;exact q _ (Same.refl _)
 |iF=>
  unfold KA at hk;obtain⟨a,rfl,ha⟩:=hk;unfold ij at hF;obtain⟨z,rfl⟩:=hF;unfold Own at hO;obtain⟨rfl,rfl⟩:=hO;refine⟨_,rfl,a,_,_,_,rfl,rfl,fU.of ha,rfl,?_⟩;refine iT rfl (by decide +kernel) ?_;refine l9 rfl (by decide +kernel) ?_;refine⟨_,rfl,_,_,_,true,rfl,.str z,rfl,true,rfl,ix ?_⟩;exact q _ (Same.refl _)
 |gI fs=>
  unfold KA at hk;obtain⟨a,b,xs,rfl,ha,hb,ar⟩:=hk;unfold ij at hF;obtain⟨m,rfl,hF⟩:=hF;unfold Own at hO;obtain⟨c,kvs,fq,rfl,hc,rfl,hO⟩:=hO;unfold Kd.W at hW;unfold D.Sm at an;simp only[D.dep] at av;refine⟨_,rfl,a,_,_,_,rfl,rfl,fU.of ha,rfl,?_⟩;refine iT rfl (by decide +kernel) ?_;refine iT rfl (by decide +kernel) ?_;refine l9 rfl (by decide +kernel) ?_;exact⟨_,rfl,a,_,_,_,rfl,rfl,fU.of ha,rfl,_,rfl,b,c,xs,kvs,fs,m,fq,rfl,hb,ar,hW.1,hW.2.1,hW.2.2,hc,hO,hF,by omega,an.2,q⟩
 |rows key aA fs=>
  unfold KA at hk;obtain⟨a,b,xs,rfl,ha,hb,ar⟩:=hk;unfold ij at hF;obtain⟨rs,rfl,az,aw,aB⟩:=hF;unfold Own at hO;obtain⟨c,ys,fq,rfl,hc,rfl,hO⟩:=hO;obtain⟨fl,au,rfl⟩:=gC.rows hO;unfold D.Sm at an;simp only[D.dep] at av;refine⟨_,rfl,a,_,_,_,rfl,rfl,fU.of ha,rfl,?_⟩;refine iT rfl (by decide +kernel) ?_;refine iT rfl (by decide +kernel) ?_;refine iT rfl (by decide +kernel) ?_;refine l9 rfl (by decide +kernel) ?_;refine⟨_,rfl,_,rfl,a,b,c,xs,key,aA,fs,ys,rs,fl,rfl,ha,hb,ar,hW,hc,au,az,aw,aB,λm hm=>?_,λm hm=>?_,?_,q⟩
  . have:=wX m hm;omega
  . have:=wW an.2 m hm;unfold D.Sm at this;exact this.2
  . have h1:=(A3.len au).1;have h2:=an.1;rw[wV] at h2;omega
 |tree k=>
  unfold KA at hk;obtain⟨a,u,rfl,ha,hu⟩:=hk;unfold ij at hF;unfold Kd.W at hW;refine⟨_,rfl,a,_,_,_,rfl,rfl,fU.of ha,rfl,?_⟩;refine iT rfl (by decide +kernel) ?_;refine iT rfl (by decide +kernel) ?_;refine iT rfl (by decide +kernel) ?_;refine iT rfl (by decide +kernel) ?_;refine l9 rfl (by decide +kernel) ?_;exact⟨_,rfl,_,rfl,a,u,v,k,d,fp,rfl,ha,hu,hW,hO,hF,av,an,q⟩
 |je fs=>
  unfold KA at hk;obtain⟨a,b,xs,rfl,ha,hb,ar⟩:=hk;unfold ij at hF;obtain⟨x,v',rfl,hE⟩:=hF;obtain⟨c,v1,v2,f1,f2,rfl,hc,rfl,ax,aD⟩:=hO.pair;unfold Own at ax;obtain⟨rfl,rfl⟩:=ax;unfold Kd.W at hW;simp only[D.dep,Ds.dep] at av;unfold D.Sm Ds.Sm at an;obtain⟨_,aF,ay⟩:=an;unfold Ds.Sm at ay;refine⟨_,rfl,a,_,_,_,rfl,rfl,fU.of ha,rfl,?_⟩;refine iT rfl (by decide +kernel) ?_;refine iT rfl (by decide +kernel) ?_;refine iT rfl (by decide +kernel) ?_;refine iT rfl (by decide +kernel) ?_;refine iT rfl (by decide +kernel) ?_;exact⟨_,rfl,a,_,_,_,rfl,rfl,fU.of ha,rfl,_,rfl,b,c,x,v2,xs,fs,v',f2,rfl,hb,ar,hW.1,hW.2.2.2,hc,aD,hE,by omega,ay.1,q⟩
theorem Fi (T:Tb mg)(U:Dn K mg "misfit" jb (top 10) ah ai)(z:Dn K mg "record_misfit" jg (top 11) aj ak)(ab:Dn K mg "has_just" jg (top 12) ap aq)(Y:Dn K mg "rows_misfit" me (top 13) an ao)(ag:Dn K mg "rank" pA (top 17) ay az)(J:Dn K mg "tree_misfit" kb (top 15) ae af)(aa:Dn K mg "is_pair" lu (top 14) ar au)(L:Dn K mg "either_misfit" mf (top 16) al am)(ac:Dn K mg "kind_at" j2 (top 6) av aw):∀n:Nat,e_ P w K mg base fW (4 * n+3) ah ai jb (mJ n)/\e_ P w K mg base fW (4 * n+2) ae af kb (qD n)
 |0=>⟨L9 T U,LY T J⟩
 |n+1=>by
  obtain⟨M,Tr⟩:=Fi T U z ab Y ag J aa L ac n;have Ip:=LU (P:=P) (w:=w) (base:=base) T aa;have R:=LW n T z ab (Ff T ab) U M;have Ro:=LX n T Y z R ag (ES T ag);have ax:=LZ n T J Tr aa Ip U M;have Ei:=L0 n T L aa Ip ac (Fb T ac) U M;exact⟨L_ n T U z R Y Ro J ax L Ei,ax⟩
theorem Fj:∀{l:List Ds}{i:Nat}{d:D},(ji l).at i=some d->∃m∈l,d=.dct m
 |[],_,_,h=>by cases h
 |m::r,0,_,h=>by cases h;exact⟨m,Q05,rfl⟩
 |m::r,i+1,d,h=>by
  obtain⟨z,h1,h2⟩:=Fj (l:=r) (i:=i) h;exact⟨z,Q0d _ h1,h2⟩
theorem Fs.Fk:∀{fs:Fs}{x:Str}{k:Kd},fs.get x=some k->∃j,fs.at j=some (x,k)
 | .nil,_,_,h=>by cases h
 | .cons y q r,x,k,h=>by
   have h:(if x=y then some q else r.get x)=some k:=h;by_cases e:x=y
   . rw[if_pos e] at h
     cases h;exact⟨0,by rw[e];rfl⟩
   . rw[if_neg e] at h;obtain⟨j,z⟩:=Fs.Fk h;exact⟨j+1,z⟩
theorem Fs.Ma {fs:Fs}{i j:Nat}{x:Str}{k z:Kd}(J:fs.names.Nodup)(h1:fs.at i=some (x,k))(h2:fs.at j=some (x,z)):i=j:=by
 have L:fs.names[i]? =some x:=by rw[Fs.kz,h1];rfl
 have U:fs.names[j]? =some x:=by rw[Fs.kz,h2];rfl
 obtain⟨l1,Y⟩:=List.getElem?_eq_some_iff.mp L;obtain⟨l2,q2⟩:=List.getElem?_eq_some_iff.mp U;exact(Q28 J).mp (Y.trans q2.symm)
def pE (n:Nat):Sp:=λvs H Q _=>∃z J L k d U Y,vs=[z,J,L]/\KA H z k/\k.W/\Own H J d U/\Own H L d Y/\ij k d/\d.dep<=n/\d.Sm/\∀H',Same H H'->Q (.bl true) H'
theorem Fl:gM XE XY (gn (top 47)):=gT
theorem Mb (n:Nat)(T:Tb mg)(J:Dn K mg "_law_alike" kg (top 47) aa ab)(L:e_ P w K mg base fW (n+1) aa ab kg (pE n)):e_ P w K mg base fW ((n+1)+1) aa ab kg (pE (n+1)):=by
 refine J.F.ok Fl λvs H Q E h=>?_;obtain⟨kv,v1,v2,k,d,f1,f2,rfl,hk,hW,ag,ah,hF,ar,aj,q⟩:=h;refine⟨rfl,λa9 A outer s nd hr hu=>?_⟩
 refine⟨_,(fT (gp (gw gL (f7 (pv 0) d_) gH (gj _)) (fX (f6 (kH (gA iy (by rfl) T.iA boot_isinstance (a_ (pv 1) (a_ (iu (v:=.ty "int") rfl T.rP boot_int rfl) c_))) (kH (Cn (gA iy (by rfl) T.iA boot_isinstance (a_ (pv 1) (a_ (iu (v:=.ty "bool") rfl T.qr boot_bool rfl) c_)))) (lD (jK gL (pv 1) (pv 2) (gj _))))))) gu)
  (fT (gp (gw gL (f7 (pv 0) d_) gH (gj _)) (fX (f6 (kH (gA iy (by rfl) T.iA boot_isinstance (a_ (pv 1) (a_ (iu (v:=.ty "str") rfl T.nt boot_str rfl) c_))) (lD (jK gL (pv 1) (pv 2) (gj _)))))) gu)
  (fT (gp (gw gL (f7 (pv 0) d_) gH (gj _)) (fT (gp (PW.pt (iX (ia (gZ (gA iy (by rfl) T.iA boot_isinstance (a_ (pv 1) (a_ (iu (v:=.ty "dict") rfl T.nX boot_dict rfl) c_))))) (i5 (gw jF (gA pW (by rfl) T.iI PySem.boot_len (a_ (pv 1) c_)) (gA i9 (by rfl) T.iI PySem.boot_len (a_ (f7 (pv 0) d_) c_)) (gj _))))) (fX (f6 iH)) gu)
  (fT (jt PassesOwn.never rfl (jS (f7 (pv 0) d_)) (jE rfl (ic (gK (i:=3) nd rfl ip) (ic (gK (i:=4) nd rfl ip) jD))) (fX (gp (PW.pt (iX (qS (vQ hu (pv 3) (pv 1)) (by with_unfolding_all rfl)) (i5 (ia (gZ (f9 L hr J (a_ (pv 4) (a_ (jr hu (pv 1) (pv 3) (λ_ _=>rfl)) (a_ (jr hu (pv 2) (pv 3) (λ_ _=>rfl)) c_))))))))) (fX (f6 iH)) gu)))
  (fX (f6 iH)))) gu)
  (fT (gp (gw gL (f7 (pv 0) d_) gH (gj _)) (fT (gp (PW.pt (iX (ia (gZ (gA iy (by rfl) T.iA boot_isinstance (a_ (pv 1) (a_ (iu (v:=.ty "list") rfl T.j_ boot_list rfl) c_))))) (i5 (gw jF (gA pW (by rfl) T.iI PySem.boot_len (a_ (pv 1) c_)) (gA i9 (by rfl) T.iI PySem.boot_len (a_ (pv 2) c_)) (gj _))))) (fX (f6 iH)) gu)
  (fX (f6 (gA (pX rfl) (by rfl) T.qp boot_all (a_ (j9 (g:=(oQ K 2 (kZ (iY 0) (kZ (iY 1) oP)))) (tt:=kx) (te:=(mZ _ _ _ (iO (qY (iO (tC (.str "record")) (iO (iC (jq K) (gR 2) (tC (.int 3))) jT))) (iO (gR 0) (iO (gR 1) jT))))) (own:=Xm) rfl (jW (N:=XE) (sc:=gn (top 47))) (rE rfl T.rO (a_ (pv 1) (a_ (pv 2) c_))) (λ_ _ _ _ _=>(jE rfl (ic (gK (i:=0) (show(XA:List Str).Nodup by decide +kernel) rfl (Or.inl rfl) (.inr rfl)) (ic (gK (i:=1) (show(XA:List Str).Nodup by decide +kernel) rfl (Or.inl rfl) (.inr rfl)) jD)))) (λ_ _ _ _ _=>lb) (λ_ _ _ _ _=>(f9 L hr J (a_ (jd (a_ gH (a_ (f7 (pv 2) d_) c_))) (a_ (pv 0) (a_ (pv 1) c_)))))) c_))))) gu)
  (fT (gp (PW.pt (iX (ia (gZ (gA iy (by rfl) T.iA boot_isinstance (a_ (pv 1) (a_ (iu (v:=.ty "tuple") rfl T.lJ boot_tuple rfl) c_))))) (i5 (gw jF (gA pW (by rfl) T.iI PySem.boot_len (a_ (pv 1) c_)) d_ (gj _))))) (fX (f6 iH)) gu)
  (fT (gp (gw gL (f7 (pv 0) d_) gH (gj _)) (fT (gp (PW.pt (iX (ia (gZ (gA iy (by rfl) T.iA boot_isinstance (a_ (f7 (pv 1) d_) (a_ (iu (v:=.ty "str") rfl T.nt boot_str rfl) c_))))) (i5 (gw jF (f7 (pv 1) d_) (f7 (pv 2) d_) (gj _))))) (fX (f6 iH)) gu)
  (fT (Dw (i:=4) nd rfl ip (g:=(iY 0)) (tt:=(mD (iC oU (iC (jq K) (gR 0) (tC (.int 0))) (iC (jq K) (gR 3) (tC (.int 0)))))) (te:=(iC (jq K) (gR 0) (tC (.int 1)))) (own:=["_law_pair"]) rfl (jW (N:=XE) (sc:=gn (top 47))) (jS (f7 (pv 0) d_)) (λ_ _ _ _ _=>(gK (i:=0) (show(Xb:List Str).Nodup by decide +kernel) rfl (Or.inl rfl) (.inr rfl))) (λ_ _ _ _ _=>(rq (gw gL (f7 (pv 0) d_) (f7 (pv 3) d_) (gj _)))) (λ_ _ _ _ _=>(f7 (pv 0) d_)))
  (fX (f6 (f9 L hr J (a_ (ka (pv 4) d_) (a_ (f7 (pv 1) d_) (a_ (f7 (pv 2) d_) c_)))))))) gu)
  (fT (gp (PW.pt (iX (ia (gZ (gA iy (by rfl) T.iA boot_isinstance (a_ (f7 (pv 1) d_) (a_ (iu (v:=.ty "list") rfl T.j_ boot_list rfl) c_))))) (i5 (gw jF (gA i9 (by rfl) T.iI PySem.boot_len (a_ (f7 (pv 1) d_) c_)) (gA i9 (by rfl) T.iI PySem.boot_len (a_ (f7 (pv 2) d_) c_)) (gj _))))) (fX (f6 iH)) gu)
  (fT (gp (ia (gZ (f9 L hr J (a_ (f7 (pv 0) d_) (a_ (f7 (pv 1) d_) (a_ (f7 (pv 2) d_) c_)))))) (fX (f6 iH)) gu)
  (fX (f6 (gA (pX rfl) (by rfl) T.qp boot_all (a_ (j9 (g:=(oQ K 2 (kZ (iY 0) (kZ (iY 1) oP)))) (tt:=kx) (te:=(mZ _ _ _ (iO (gR 2) (iO (gR 0) (iO (gR 1) jT))))) (own:=Xm) rfl (jW (N:=XE) (sc:=gn (top 47))) (rE rfl T.rO (a_ (f7 (pv 1) d_) (a_ (f7 (pv 2) d_) c_))) (λ_ _ _ _ _=>(jE rfl (ic (gK (i:=0) (show(XA:List Str).Nodup by decide +kernel) rfl (Or.inl rfl) (.inr rfl)) (ic (gK (i:=1) (show(XA:List Str).Nodup by decide +kernel) rfl (Or.inl rfl) (.inr rfl)) jD)))) (λ_ _ _ _ _=>lb) (λ_ _ _ _ _=>(f9 L hr J (a_ (pv 2) (a_ (pv 0) (a_ (pv 1) c_)))))) c_)))))))))))),?_⟩
 ac_rfl
 cases k with
 |num=>
  unfold KA at hk;obtain⟨a,rfl,ha⟩:=hk;unfold ij at hF;obtain⟨z,rfl⟩:=hF;unfold Own at ag ah;obtain⟨rfl,rfl⟩:=ag;obtain⟨rfl,rfl⟩:=ah;refine l_ rfl ha rfl (by decide +kernel) ?_;refine⟨_,rfl,_,_,_,true,rfl,.int z,rfl,true,rfl,ix ?_⟩;refine⟨_,rfl,_,_,_,false,rfl,.int z,rfl,false,rfl,true,rfl,ix ?_⟩;refine⟨_,rfl,_,rfl,rfl,?_⟩;rw[decide_eq_true rfl];exact q _ (Same.refl _)
 |iF=>
  unfold KA at hk;obtain⟨a,rfl,ha⟩:=hk;unfold ij at hF;obtain⟨z,rfl⟩:=hF;unfold Own at ag ah;obtain⟨rfl,rfl⟩:=ag;obtain⟨rfl,rfl⟩:=ah;refine iU rfl ha rfl (by decide +kernel) ?_;refine l_ rfl ha rfl (by decide +kernel) ?_;refine⟨_,rfl,_,_,_,true,rfl,.str _,rfl,true,rfl,ix ?_⟩;refine⟨_,rfl,_,rfl,rfl,?_⟩;rw[decide_eq_true rfl];exact q _ (Same.refl _)
 |gI fs=>
  unfold KA at hk;obtain⟨a,b,xs,rfl,ha,hb,ai⟩:=hk;unfold ij at hF;obtain⟨m,rfl,hF⟩:=hF;unfold Own at ag ah;obtain⟨c1,aF,g1,rfl,U,rfl,ak⟩:=ag;obtain⟨c2,ba,g2,rfl,ac,rfl,ao⟩:=ah;unfold Kd.W at hW;unfold D.Sm at aj;simp only[D.dep] at ar;have aN:m.dep<=n:=by omega
  refine iU rfl ha rfl (by decide +kernel) ?_;refine iU rfl ha rfl (by decide +kernel) ?_;refine l_ rfl ha rfl (by decide +kernel) ?_;have el:aF.length=xs.length:=by rw[gF.len ak,FA.len fs ai,hF.names]
  refine⟨_,rfl,_,_,_,true,rfl,.dK U,rfl,true,rfl,gP ?_⟩;refine⟨_,rfl,.inl ⟨c1,_,rfl,U,_,rfl,a,_,_,_,rfl,rfl,fU.of ha,rfl,b,_,rfl,.inr (fU.of hb),rfl,_,rfl,?_⟩⟩;refine ku (show V.int (aF.length:Nat)=V.int (xs.length:Nat) by rw[el]) ?_;refine⟨_,rfl,a,_,_,_,rfl,rfl,fU.of ha,rfl,b,rfl,⟨_,fU.of hb⟩,nN (xs:=xs) (λi σ H'=>Same H H'/\∃x y,σ=[some (.ref a),some (.ref c1),some (.ref c2),x,y]) ⟨Same.refl _,_,_,rfl⟩ ?_ ?_ ?_⟩
  . rintro i σ H' _ ⟨s2,_⟩;exact fU.of (s2 _ _ hb)
  . rintro i v σ H' hv ⟨s2,x,y,rfl⟩;obtain⟨c,u,nm,k,rfl,ae,hc,hk⟩:=FA.get fs ai hv;obtain⟨d,hd,am⟩:=hF.get (Fs.nS hW.1 ae);obtain⟨e1,f1,aV,aO,_⟩:=gF.val _ ak hd;obtain⟨e2,f2,aW,aP,_⟩:=gF.val _ ao hd;have g1:ig H' c1 (.str nm) (some e1):=by have:=ig.k (k:=Sum.inr nm) (s2 _ _ U);rw[aV] at this;exact this
    have g2:ig H' c2 (.str nm) (some e2):=by have:=ig.k (k:=Sum.inr nm) (s2 _ _ ac);rw[aW] at this;exact this
    refine⟨c,_,rfl,fU.of (s2 _ _ hc),rfl,_,_,rfl,_,_,rfl,rfl,?_⟩;refine⟨_,rfl,_,rfl,c1,_,rfl,g1,false,rfl,gP ?_⟩;refine⟨_,rfl,_,rfl,_,rfl,c1,e1,rfl,g1,_,rfl,_,rfl,c2,e2,rfl,g2,u,e1,e2,k,d,f1,f2,rfl,KA.mono (Tu.of s2) k hk,Fs.pf hW.2.2 ae,Own.same s2 aO,Own.same s2 aP,am,Q0b (Ds.tV hd) aN,Ds.um aj.2 hd,λH3 s3=>⟨true,rfl,gP ?_⟩⟩;exact⟨s2.trans s3,_,_,rfl⟩
  . rintro σ H' ⟨s2,_⟩;exact q _ s2
 |rows key bb fs=>
  unfold KA at hk;obtain⟨a,b,xs,rfl,ha,hb,ai⟩:=hk;unfold ij at hF;obtain⟨rs,rfl,am,a8,bc⟩:=hF;unfold Own at ag ah;obtain⟨c1,Y,g1,rfl,U,rfl,ak⟩:=ag;obtain⟨c2,af,g2,rfl,ac,rfl,ao⟩:=ah;unfold Kd.W at hW;unfold D.Sm at aj;simp only[D.dep] at ar;have al:Y.length=(ji rs).len:=gC.len _ ak;have ap:af.length=(ji rs).len:=gC.len _ ao;have aT:=aj.1;refine iU rfl ha rfl (by decide +kernel) ?_;refine iU rfl ha rfl (by decide +kernel) ?_;refine iU rfl ha rfl (by decide +kernel) ?_;refine l_ rfl ha rfl (by decide +kernel) ?_;refine⟨_,rfl,_,_,_,true,rfl,.lst U,rfl,true,rfl,gP ?_⟩;refine⟨_,rfl,.inr ⟨c1,_,rfl,.inl (fY.of U),_,rfl,c2,_,rfl,.inl (fY.of ac),rfl,_,rfl,ku (show V.int (Y.length:Nat)=V.int (af.length:Nat) by rw[al,ap]) ?_⟩⟩;refine⟨_,rfl,_,rfl,c1,c2,rfl,⟨_,fY.of U⟩,⟨_,fY.of ac⟩,λi m zs H'=>m=Y.length - i/\i<=Y.length/\zs=(List.replicate i true).map V.bl/\Same H H',⟨Y.length,rfl,Q0g _,rfl,Same.refl _⟩,?_⟩;rintro i mm zs H' ⟨rfl,aU,rfl,s2⟩;by_cases hi:i<Y.length
  . have av:i<af.length:=by omega
    refine .inr ⟨⟨Y,af,Y[i],af[i],fY.of (s2 _ _ U),fY.of (s2 _ _ ac),Q03 hi,Q03 av⟩,by rw[Q04,Q1e];exact i2 (by omega),λx aX y=>?_⟩;obtain⟨p,x1,x2,hp,rfl,e1,e2,rfl⟩:=y;have e1:=e1 _ (fY.of (s2 _ _ U));have e2:=e2 _ (fY.of (s2 _ _ ac));obtain⟨d,fa,ae,aw,_⟩:=gC.get _ ak e1;obtain⟨d',fb,an,ax,_⟩:=gC.get _ ao e2;rw[ae] at an
    cases an;obtain⟨m,hm,rfl⟩:=Fj ae;have aY:=wX m hm;have s3:Same H' (upd H' p (.tup [x1,x2])):=Same.new hp;have sa:=s2.trans s3;refine⟨p,_,rfl,fU.of fZ,rfl,_,_,rfl,_,_,rfl,rfl,rfl,yes (ix ?_)⟩;refine⟨_,rfl,a,_,_,_,rfl,rfl,fU.of (sa _ _ ha),rfl,jj,λt ht=>?_⟩;have st:Same (upd H' p (.tup [x1,x2])) (upd (upd H' p (.tup [x1,x2])) t (.tup [.str "record",.ref b])):=Same.new ht;have sb:=sa.trans st;refine⟨_,rfl,_,rfl,.ref t,x1,x2,.gI fs,.dct m,fa,fb,rfl,?_,?_,Own.same sb aw,Own.same sb ax,?_,by simp only[D.dep];omega,wW aj.2 m hm,λH3 s4=>?_⟩
    . unfold KA;exact⟨t,b,xs,rfl,fZ,sb _ _ hb,FA.mono (Tu.of sb) fs ai⟩
    . unfold Kd.W;exact⟨hW.1,hW.2.1,hW.2.2.1⟩
    . unfold ij;exact⟨m,rfl,am m hm⟩
    . refine⟨Y.length - (i+1),by omega,rfl,hi,?_,sb.trans s4⟩;rw[List.replicate_succ',Q0i];rfl
  . refine .inl ⟨⟨Y,af,fY.of (s2 _ _ U),fY.of (s2 _ _ ac),.inl (Q1d hi)⟩,λp hp=>⟨p,List.replicate i true,rfl,fY.of fZ,?_⟩⟩;rw[ur];exact q _ (s2.trans (Same.new hp))
 |tree k=>
  have aZ:=hk;unfold KA at hk;obtain⟨a,u,rfl,ha,a1⟩:=hk;unfold ij at hF;have a2:=hW;unfold Kd.W at hW;obtain⟨x,y,t,as,rfl,a3,ai⟩:=hF.shape;obtain⟨c1,u1,w1,ay,bd,rfl,U,rfl,az,aG⟩:=ag.pair;obtain⟨c2,u2,w2,aA,be,rfl,ac,rfl,aB,aH⟩:=ah.pair;unfold Own at aG aH;obtain⟨l1,Y,g1,rfl,al,rfl,ak⟩:=aG;obtain⟨l2,af,g2,rfl,ap,rfl,ao⟩:=aH;simp only[D.dep,Ds.dep] at ar;unfold D.Sm Ds.Sm at aj;obtain⟨_,aI,aq⟩:=aj;unfold Ds.Sm at aq;have aD:=aq.1;unfold D.Sm at aD;have aT:=aD.1;have a4:Y.length=as.len:=gC.len _ ak;have a5:af.length=as.len:=gC.len _ ao;refine iU rfl ha rfl (by decide +kernel) ?_;refine iU rfl ha rfl (by decide +kernel) ?_;refine iU rfl ha rfl (by decide +kernel) ?_;refine iU rfl ha rfl (by decide +kernel) ?_;refine⟨_,rfl,_,_,_,true,rfl,.tup U,rfl,true,rfl,gP ?_⟩;refine⟨_,rfl,.inr ⟨c1,_,rfl,.inr (fU.of U),rfl,_,rfl,ku rfl ?_⟩⟩;refine iU rfl ha rfl (by decide +kernel) ?_;refine⟨_,rfl,c1,_,_,_,rfl,rfl,fU.of U,rfl,_,_,_,true,rfl,.lst al,rfl,true,rfl,gP ?_⟩;refine⟨_,rfl,c1,_,_,_,rfl,rfl,fU.of U,rfl,l1,_,rfl,.inl (fY.of al),_,rfl,c2,_,_,_,rfl,rfl,fU.of ac,rfl,l2,_,rfl,.inl (fY.of ap),rfl,_,rfl,ku (show V.int (Y.length:Nat)=V.int (af.length:Nat) by rw[a4,a5]) ?_⟩;refine⟨_,rfl,a,_,_,_,rfl,rfl,fU.of ha,rfl,_,rfl,c1,_,_,_,rfl,rfl,fU.of U,rfl,_,rfl,c2,_,_,_,rfl,rfl,fU.of ac,rfl,u,u1,u2,k,t,ay,aA,rfl,a1,hW,az,aB,a3,by omega,aI,λH1 s1=>⟨true,rfl,gP ?_⟩⟩;refine⟨_,rfl,c1,_,_,_,rfl,rfl,fU.of (s1 _ _ U),rfl,_,rfl,c2,_,_,_,rfl,rfl,fU.of (s1 _ _ ac),rfl,l1,l2,rfl,⟨_,fY.of (s1 _ _ al)⟩,⟨_,fY.of (s1 _ _ ap)⟩,λi m zs H'=>m=Y.length - i/\i<=Y.length/\zs=(List.replicate i true).map V.bl/\Same H H',⟨Y.length,rfl,Q0g _,rfl,s1⟩,?_⟩;rintro i mm zs H' ⟨rfl,aU,rfl,s2⟩;by_cases hi:i<Y.length
  . have av:i<af.length:=by omega
    refine .inr ⟨⟨Y,af,Y[i],af[i],fY.of (s2 _ _ al),fY.of (s2 _ _ ap),Q03 hi,Q03 av⟩,by rw[Q04,Q1e];exact i2 (by omega),λx aX y=>?_⟩;obtain⟨p,x1,x2,hp,rfl,e1,e2,rfl⟩:=y;have e1:=e1 _ (fY.of (s2 _ _ al));have e2:=e2 _ (fY.of (s2 _ _ ap));obtain⟨d,fa,ae,aw,_⟩:=gC.get _ ak e1;obtain⟨d',fb,an,ax,_⟩:=gC.get _ ao e2;rw[ae] at an
    cases an;have aY:=Ds.pd ae;have s3:Same H' (upd H' p (.tup [x1,x2])):=Same.new hp;have sa:=s2.trans s3;refine⟨p,_,rfl,fU.of fZ,rfl,_,_,rfl,_,_,rfl,rfl,rfl,yes (ix ?_)⟩;refine⟨_,rfl,_,rfl,_,rfl,.ref a,x1,x2,.tree k,d,fa,fb,rfl,KA.mono (Tu.of sa) _ aZ,a2,Own.same sa aw,Own.same sa ax,(by unfold ij;exact kP.at ai ae),by omega,Ds.wU aD.2 ae,λH3 s4=>?_⟩;refine⟨Y.length - (i+1),by omega,rfl,hi,?_,sa.trans s4⟩;rw[List.replicate_succ',Q0i];rfl
  . refine .inl ⟨⟨Y,af,fY.of (s2 _ _ al),fY.of (s2 _ _ ap),.inl (Q1d hi)⟩,λp hp=>⟨p,List.replicate i true,rfl,fY.of fZ,?_⟩⟩;rw[ur];exact q _ (s2.trans (Same.new hp))
 |je fs=>
  unfold KA at hk;obtain⟨a,b,xs,rfl,ha,hb,ai⟩:=hk;unfold ij at hF;obtain⟨x,v',rfl,hE⟩:=hF;obtain⟨c1,z1,u1,bf,ay,rfl,U,rfl,aJ,az⟩:=ag.pair;obtain⟨c2,z2,u2,bg,aA,rfl,ac,rfl,aK,aB⟩:=ah.pair;unfold Own at aJ aK;obtain⟨rfl,rfl⟩:=aJ;obtain⟨rfl,rfl⟩:=aK;unfold Kd.W at hW;simp only[D.dep,Ds.dep] at ar;unfold D.Sm Ds.Sm at aj;obtain⟨_,aI,aq⟩:=aj;unfold Ds.Sm at aq;obtain⟨k,au,am⟩:=xb hE;obtain⟨j,hj⟩:=Fs.Fk au;obtain⟨c,u,aE,hc,a6⟩:=FA.at ai hj;have bh:j<xs.length:=(List.getElem?_eq_some_iff.mp aE).1;have bi:xs.length<=12:=by rw[FA.len fs ai];exact hW.2.1
  refine iU rfl ha rfl (by decide +kernel) ?_;refine iU rfl ha rfl (by decide +kernel) ?_;refine iU rfl ha rfl (by decide +kernel) ?_;refine iU rfl ha rfl (by decide +kernel) ?_;refine⟨_,rfl,_,_,_,true,rfl,.tup U,rfl,true,rfl,gP ?_⟩;refine⟨_,rfl,.inr ⟨c1,_,rfl,.inr (fU.of U),rfl,_,rfl,ku rfl ?_⟩⟩;refine l_ rfl ha rfl (by decide +kernel) ?_;refine⟨_,rfl,c1,_,_,_,rfl,rfl,fU.of U,rfl,_,_,_,true,rfl,.str _,rfl,true,rfl,gP ?_⟩;refine⟨_,rfl,c1,_,_,_,rfl,rfl,fU.of U,rfl,_,rfl,c2,_,_,_,rfl,rfl,fU.of ac,rfl,rfl,_,rfl,ku rfl ?_⟩;refine⟨_,rfl,a,_,_,_,rfl,rfl,fU.of ha,rfl,b,rfl,⟨_,fU.of hb⟩,mi (mU (fU.of hb)) (λi=>if j<i then [u] else []) (by omega) (λp hp=>?_) (λi z hv a7 skip=>?_) (if_neg (Q34 _))⟩
  . rw[if_pos (List.getElem?_eq_some_iff.mp aE).1];have s1:Same H (upd H p (.lst [u])):=Same.new hp
    exact⟨_,rfl,p,_,_,_,rfl,rfl,fY.of fZ,lF (j:=0) rfl,_,rfl,c1,_,_,_,rfl,rfl,fU.of (s1 _ _ U),rfl,_,rfl,c2,_,_,_,rfl,rfl,fU.of (s1 _ _ ac),rfl,
     u,u1,u2,k,v',ay,aA,rfl,KA.mono (Tu.of s1) k a6,Fs.xc hW.2.2.2 au,Own.same s1 az,Own.same s1 aB,am,by omega,aq.1,λH2 s2=>q _ (s1.trans s2)⟩
  . obtain⟨d,w',nm,k',rfl,ae,hd,bj⟩:=FA.get _ ai hv;refine⟨rfl,_,rfl,d,_,_,_,rfl,rfl,fU.of hd,rfl,_,rfl,c2,_,_,_,rfl,rfl,fU.of ac,rfl,rfl,_,rfl,iS (λcc=>?_) (λcc=>skip ?_)⟩
    . have e:nm=x:=by
       have:=of_decide_eq_true cc;injection this
      subst e
      cases Fs.Ma hW.1 ae hj;rw[aE] at hv
      cases hv;rw[hc] at hd
      cases hd;refine⟨_,rfl,c,_,_,_,rfl,rfl,fU.of hc,rfl,a7 _ ?_⟩;rw[if_neg (Q0p _),if_pos (Q12 _)];rfl
    . have ne:i≠j:=λe=>by
       subst e;rw[ae] at hj
       cases hj;exact cc (decide_eq_true rfl)
      by_cases aM:j<i
      . rw[if_pos aM,if_pos (by omega)]
      . rw[if_neg aM,if_neg (by omega)]
theorem Fm (T:Tb mg)(z:Dn K mg "_law_alike" kg (top 47) J L):∀n:Nat,e_ P w K mg base fW (n+1) J L kg (pE n)
 |0=>by
  have U:∀vs H Q E,¬pE 0 vs H Q E:=λvs H Q E h=>by
   obtain⟨_,_,_,_,d,_,_,_,_,_,_,_,_,Y,_⟩:=h;have:=d.nq;omega
  exact⟨λvs H Q E h=>absurd h (U vs H Q E),λA outer s H args us vs Q E _ _ _ _ h=>absurd h (U vs H Q E)⟩
 |n+1=>Mb n T z (Fm T z n)
structure RecAt (S:List Addr) (n:Nat) (H:Hp) (fs:Fs) (kvs:List (Key × V)) (δ:Str->D):Prop where
 len:kvs.length=fs.names.length
 nd:(kvs.map (·.1)).Nodup
 get:∀x k,fs.get x=some k->∃v fp,gO kvs (Sum.inr x)=some v/\Own H v (δ x) fp/\(∀c∈fp,c ∉ S)/\ij k (δ x)/\(δ x).dep<=n/\(δ x).Sm
theorem RecAt.keep {S:List Addr}{n:Nat}{H H':Hp}{fs:Fs}{kvs:List (Key × V)}{J:Str->D}(h:RecAt S n H fs kvs J)(t:Tu H H')(k:∀c o,c ∉ S->H c=some o->H' c=some o):RecAt S n H' fs kvs J:=
 ⟨h.len,h.nd,λx q L=>by
   obtain⟨v,fp,h1,h2,z,U⟩:=h.get x q L;exact⟨v,fp,h1,Own.keep t _ (λc hc o e=>k c o (z c hc) e) h2,z,U⟩⟩
theorem RecAt.grow {S:List Addr}{n:Nat}{H:Hp}{fs:Fs}{kvs:List (Key × V)}{J:Str->D}{p:Addr}(h:RecAt S n H fs kvs J)(hp:∀xs,H p≠some (.lst xs))(L:∀xs,H p≠some (.dK xs)):RecAt (p::S) n H fs kvs J:=
 ⟨h.len,h.nd,λx q U=>by
   obtain⟨v,fp,h1,h2,Y,h4⟩:=h.get x q U;refine⟨v,fp,h1,h2,λc hc z=>?_,h4⟩;rcases List.mem_cons.mp z with e|e
   . rcases Own.alive _ h2 c hc with⟨xs,q⟩|⟨xs,q⟩
     . exact hp xs (by rw[<-e];exact q)
     . exact L xs (by rw[<-e];exact q)
   . exact Y c hc e⟩
theorem RecAt.same {S:List Addr}{n:Nat}{H H':Hp}{fs:Fs}{kvs:List (Key × V)}{z:Str->D}(h:RecAt S n H fs kvs z)(s:Same H H'):RecAt S n H' fs kvs z:=
 h.keep (Tu.of s) λc o _ e=>s c o e
def Fn:Sp:=λvs H Q _=>∃z k,vs=[z,.non]/\KA H z k/\∀p H',Same H H'->H' p=some (.lst [])->Q (.ref p) H'
def xm:Sp:=λvs H Q _=>∃u,vs=[u,.non]/\∀p H',Same H H'->H' p=some (.lst [])->Q (.ref p) H'
def xn:Sp:=λvs H Q _=>vs=[.non]/\Q (.bl false) H
def xo (K:W.Frag) (n:Nat):Sp:=λvs H Q _=>∃b v xs fs,vs=[.ref b,v]/\H b=some (.tup xs)/\FA H xs fs/\fs.names.Nodup/\fs.names.length<=12/\fs.W/\
 ((∃t,kJ K H v t/\W.kitOne K t (.type "dict")=some false/\∀p H',Same H H'->H' p=some (.lst [])->Q (.ref p) H')\/
  ∃a kvs,v=.ref a/\H a=some (.dK kvs)/\
   ((kvs.length≠fs.names.length/\∀p H',Same H H'->H' p=some (.lst [])->Q (.ref p) H')\/
    (∃(y:Str) (z:Str->D),kvs.length=fs.names.length/\y∈fs.names/\gO kvs (Sum.inr y)=some .non/\(∀x k,x≠y->fs.get x=some k->∃v fp,gO kvs (Sum.inr x)=some v/\Own H v (z x) fp/\ij k (z x)/\(z x).dep<=n/\(z x).Sm)/\∀p H',Same H H'->H' p=some (.lst [.str y])->Q (.ref p) H')\/
    ∃(z:Str->D) (S:List Addr),RecAt S n H fs kvs z/\∀H',Same H H'->Q .non H'))
def xp (K:W.Frag) (n:Nat):Sp:=λvs H Q E=>∃z b v,vs=[.ref z,v]/\H z=some (.tup [.str "record",.ref b])/\xo K n [.ref b,v] H Q E
def Mc (n:Nat):Sp:=λvs H Q E=>mJ n vs H Q E\/Fn vs H Q E
theorem Md (T:Tb mg)(z:Dn K mg "is_pair" lu (top 14) J L):e_ P w K mg base fW (1) J L lu (xn):=by
 refine z.F.ok Fe λvs H Q E h=>?_;obtain⟨rfl,q⟩:=h;refine⟨rfl,λU A outer s Y hr hu=>?_⟩;refine⟨_,(fX (f6 (kH (gA iy (by rfl) T.iA boot_isinstance (a_ (pv 0) (a_ (iu (v:=.ty "tuple") rfl T.lJ boot_tuple rfl) c_))) (lD (jK gL (gA i9 (by rfl) T.iI PySem.boot_len (a_ (pv 0) c_)) d_ (gj _)))))),?_⟩
 ac_rfl
 exact⟨_,rfl,_,_,_,false,rfl,.non,rfl,false,rfl,gP q⟩
theorem Me (T:Tb mg)(z:Dn K mg "record_misfit" jg (top 11) J L)(U:Dn K mg "has_just" jg (top 12) Y aa)(ab:e_ P w K mg base fW (1) Y aa jg (uu))(ac:Dn K mg "misfit" jb (top 10) ae af)(ag:e_ P w K mg base fW (3) ae af jb (mJ 0)):e_ P w K mg base fW (4) J L jg (xm):=by
 refine z.F.ok xj λvs H Q E h=>?_;obtain⟨u,rfl,q⟩:=h;refine⟨rfl,λah A outer s nd hr hu=>?_⟩
 refine⟨_,(fT (gp (PW.pt (iX (ia (gZ (gA iy (by rfl) T.iA boot_isinstance (a_ (pv 1) (a_ (iu (v:=.ty "dict") rfl T.nX boot_dict rfl) c_))))) (i5 (ia (gZ (f9 ab hr U (a_ (pv 0) (a_ (pv 1) c_)))))))) (fX (f6 (iM c_))) gu)
  (fT (jt PassesOwn.never rfl (jS (pv 0)) (jE rfl (ic (gK (i:=2) nd rfl ip) (ic (gK (i:=3) nd rfl ip) jD))) (fT (gv 4 nd (f9 ag hr ac (a_ (pv 3) (a_ (jr hu (pv 1) (pv 2) (λ_ _=>rfl)) c_))))
  (fX (gp (gw j6 (pv 4) iB (gj _)) (fX (f6 kN)) gu))))
  (fX (f6 iB)))),?_⟩
 ac_rfl
 refine⟨_,rfl,_,_,_,false,rfl,.non,rfl,false,rfl,ix ?_⟩;exact⟨kT,λp hp=>q p _ (Same.new hp) fZ⟩
def nu:Sp:=λvs H Q _=>∃u,vs=[u,.non]/\∀p H',Same H H'->H' p=some (.lst [])->Q (.ref p) H'
theorem Mf (T:Tb mg)(Y:Dn K mg "rows_misfit" me (top 13) aa ab)(z:Dn K mg "record_misfit" jg (top 11) J L)(U:e_ P w K mg base fW (4) J L jg (xm))(ac:Dn K mg "rank" pA (top 17) af ag)(ae:e_ P w K mg base fW (1) af ag pA (rV)):e_ P w K mg base fW (5) aa ab me (nu):=by
 refine Y.F.ok Fg λvs H Q E h=>?_;obtain⟨u,rfl,q⟩:=h;refine⟨rfl,λai A outer s nd hr hu=>?_⟩;have ah:=hr.vC
 refine⟨_,(fT (gp (ia (gZ (gA iy (by rfl) T.iA boot_isinstance (a_ (pv 1) (a_ (iu (v:=.ty "list") rfl T.j_ boot_list rfl) c_))))) (fX (f6 (iM c_))) gu)
  (fT (gv 2 nd pU)
  (fT (jt PassesOwn.never rfl (tJ rfl T.tZ (a_ (pv 1) c_)) (jE rfl (ic (gK (i:=3) nd rfl ip) (ic (gK (i:=4) nd rfl ip) jD))) (fT (gv 5 nd (f9 U hr z (a_ (f7 (pv 0) d_) (a_ (pv 4) c_))))
  (fT (gp (gw j6 (pv 5) iB (gj _)) (fX (f6 kN)) gu)
  (fT (gp (PW.pt (oM (gw qX (pv 3) d_ (gj _)) (oK (gw (DZ ah) (f9 ae hr ac (a_ (pv 0) (a_ (pv 4) c_))) (f9 ae hr ac (a_ (pv 0) (a_ (ka (pv 1) (gh mV (pv 3) d_)) c_))) (gj _))))) (fX (f6 kN)) gu)
  (fT (gp (qS (vP hu (jr hu (pv 4) (f7 (pv 0) d_) (λ_ _=>rfl)) (pv 2)) (by with_unfolding_all rfl)) (fX (f6 kN)) gu)
  (fX (mF hu (pv 2) (jr hu (pv 4) (f7 (pv 0) d_) (λ_ _=>rfl)) iH rfl)))))))
  (fX (f6 iB))))),?_⟩
 ac_rfl
 refine⟨_,rfl,_,_,_,false,rfl,.non,rfl,false,rfl,ix ?_⟩;exact⟨kT,λp hp=>q p _ (Same.new hp) fZ⟩
theorem Mg (T:Tb mg)(z:Dn K mg "tree_misfit" kb (top 15) J L)(U:e_ P w K mg base fW (2) J L kb (qD 0))(Y:Dn K mg "is_pair" lu (top 14) aa ab)(ac:e_ P w K mg base fW (1) aa ab lu (xn))(ae:Dn K mg "misfit" jb (top 10) af ag)(ah:e_ P w K mg base fW (3) af ag jb (mJ 0)):e_ P w K mg base fW (4) J L kb (nu):=by
 refine z.F.ok xl λvs H Q E h=>?_;obtain⟨u,rfl,q⟩:=h;refine⟨rfl,λai A outer s nd hr hu=>?_⟩
 refine⟨_,(fT (gp (PW.pt (iX (ia (gZ (f9 ac hr Y (a_ (pv 1) c_)))) (i5 (ia (gZ (gA iy (by rfl) T.iA boot_isinstance (a_ (f7 (pv 1) d_) (a_ (iu (v:=.ty "list") rfl T.j_ boot_list rfl) c_)))))))) (fX (f6 (iM c_))) gu)
  (fT (gv 2 nd (f9 ah hr ae (a_ (f7 (pv 0) d_) (a_ (f7 (pv 1) d_) c_))))
  (fT (gp (gw j6 (pv 2) iB (gj _)) (fX (f6 kN)) gu)
  (fT (jt PassesOwn.never rfl (tJ rfl T.tZ (a_ (f7 (pv 1) d_) c_)) (jE rfl (ic (gK (i:=3) nd rfl ip) (ic (gK (i:=4) nd rfl ip) jD))) (fT (gv 2 nd (f9 U hr z (a_ (pv 0) (a_ (pv 4) c_))))
  (fX (gp (gw j6 (pv 2) iB (gj _)) (fX (f6 kN)) gu))))
  (fX (f6 iB)))))),?_⟩
 ac_rfl
 refine⟨_,rfl,rfl,false,rfl,ix ?_⟩;exact⟨kT,λp hp=>q p _ (Same.new hp) fZ⟩
theorem Mh (T:Tb mg)(z:Dn K mg "either_misfit" mf (top 16) J L)(U:Dn K mg "is_pair" lu (top 14) Y aa)(ab:e_ P w K mg base fW (1) Y aa lu (xn))(ac:Dn K mg "kind_at" j2 (top 6) ae af)(ag:e_ P w K mg base fW (1) ae af j2 (rW))(ah:Dn K mg "misfit" jb (top 10) ai aj)(ak:e_ P w K mg base fW (3) ai aj jb (mJ 0)):e_ P w K mg base fW (4) J L mf (nu):=by
 refine z.F.ok Fh λvs H Q E h=>?_;obtain⟨u,rfl,q⟩:=h;refine⟨rfl,λal A outer s nd hr hu=>?_⟩
 refine⟨_,(fT (gp (ia (gZ (f9 ab hr U (a_ (pv 1) c_)))) (fX (f6 (iM c_))) gu)
  (fT (gv 2 nd (f9 ag hr ac (a_ (pv 0) (a_ (f7 (pv 1) d_) c_))))
  (fT (gp (gw vy (pv 2) iB (gj _)) (fX (f6 (iM c_))) gu)
  (fT (gv 3 nd (f9 ak hr ah (a_ (pv 2) (a_ (f7 (pv 1) d_) c_))))
  (fT (gp (gw j6 (pv 3) iB (gj _)) (fX (f6 kN)) gu)
  (fX (f6 iB))))))),?_⟩
 ac_rfl
 refine⟨_,rfl,rfl,false,rfl,ix ?_⟩;exact⟨kT,λp hp=>q p _ (Same.new hp) fZ⟩
theorem Mi (T:Tb mg)(am:Dn K mg "misfit" jb (top 10) an ao)(z:Dn K mg "record_misfit" jg (top 11) J L)(U:e_ P w K mg base fW (4) J L jg (xm))(ae:Dn K mg "rows_misfit" me (top 13) af ag)(ah:e_ P w K mg base fW (5) af ag me (nu))(ai:Dn K mg "tree_misfit" kb (top 15) aj ak)(al:e_ P w K mg base fW (4) aj ak kb (nu))(Y:Dn K mg "either_misfit" mf (top 16) aa ab)(ac:e_ P w K mg base fW (4) aa ab mf (nu)):
 e_ P w K mg base fW (6) an ao jb (Fn):=by
 refine am.F.ok uv λvs H Q E h=>?_;obtain⟨kv,k,rfl,hk,q⟩:=h;refine⟨rfl,λaq A outer s nd hr hu=>?_⟩
 refine⟨_,(fT (gv 2 nd (f7 (pv 0) d_))
  (fT (gp (gw gL (pv 2) gH (gj _)) (fX (f6 (oN (PW.pt (oM (gZ (gA iy (by rfl) T.iA boot_isinstance (a_ (pv 1) (a_ (iu (v:=.ty "int") rfl T.rP boot_int rfl) c_)))) (oK (ia (gZ (gA iy (by rfl) T.iA boot_isinstance (a_ (pv 1) (a_ (iu (v:=.ty "bool") rfl T.qr boot_bool rfl) c_)))))))) iB (iM c_)))) gu)
  (fT (gp (gw gL (pv 2) gH (gj _)) (fX (f6 (oN (gZ (gA iy (by rfl) T.iA boot_isinstance (a_ (pv 1) (a_ (iu (v:=.ty "str") rfl T.nt boot_str rfl) c_)))) iB (iM c_)))) gu)
  (fT (gp (gw gL (pv 2) gH (gj _)) (fX (f6 (f9 U hr z (a_ (f7 (pv 0) d_) (a_ (pv 1) c_))))) gu)
  (fT (gp (gw gL (pv 2) gH (gj _)) (fX (f6 (f9 ah hr ae (a_ (pv 0) (a_ (pv 1) c_))))) gu)
  (fT (gp (gw gL (pv 2) gH (gj _)) (fX (f6 (f9 al hr ai (a_ (pv 0) (a_ (pv 1) c_))))) gu)
  (fX (f6 (f9 ac hr Y (a_ (f7 (pv 0) d_) (a_ (pv 1) c_))))))))))),?_⟩
 ac_rfl
 cases k with
 |num=>
  unfold KA at hk;obtain⟨a,rfl,ha⟩:=hk;refine⟨_,rfl,a,_,_,_,rfl,rfl,fU.of ha,rfl,?_⟩;refine l9 rfl (by decide +kernel) ?_;refine⟨_,rfl,_,_,_,false,rfl,.non,rfl,false,rfl,gP ?_⟩;exact⟨kT,λp hp=>q p _ (Same.new hp) fZ⟩
 |iF=>
  unfold KA at hk;obtain⟨a,rfl,ha⟩:=hk;refine⟨_,rfl,a,_,_,_,rfl,rfl,fU.of ha,rfl,?_⟩;refine iT rfl (by decide +kernel) ?_;refine l9 rfl (by decide +kernel) ?_;refine⟨_,rfl,_,_,_,false,rfl,.non,rfl,false,rfl,gP ?_⟩;exact⟨kT,λp hp=>q p _ (Same.new hp) fZ⟩
 |gI fs=>
  unfold KA at hk;obtain⟨a,b,xs,rfl,ha,hb,ap⟩:=hk;refine⟨_,rfl,a,_,_,_,rfl,rfl,fU.of ha,rfl,?_⟩;refine iT rfl (by decide +kernel) ?_;refine iT rfl (by decide +kernel) ?_;refine l9 rfl (by decide +kernel) ?_;exact⟨_,rfl,a,_,_,_,rfl,rfl,fU.of ha,rfl,_,rfl,_,rfl,q⟩
 |rows key ar fs=>
  unfold KA at hk;obtain⟨a,b,xs,rfl,ha,hb,ap⟩:=hk;refine⟨_,rfl,a,_,_,_,rfl,rfl,fU.of ha,rfl,?_⟩;refine iT rfl (by decide +kernel) ?_;refine iT rfl (by decide +kernel) ?_;refine iT rfl (by decide +kernel) ?_;refine l9 rfl (by decide +kernel) ?_;exact⟨_,rfl,_,rfl,_,rfl,q⟩
 |tree k=>
  unfold KA at hk;obtain⟨a,u,rfl,ha,hk⟩:=hk;refine⟨_,rfl,a,_,_,_,rfl,rfl,fU.of ha,rfl,?_⟩;refine iT rfl (by decide +kernel) ?_;refine iT rfl (by decide +kernel) ?_;refine iT rfl (by decide +kernel) ?_;refine iT rfl (by decide +kernel) ?_;refine l9 rfl (by decide +kernel) ?_;exact⟨_,rfl,_,rfl,_,rfl,q⟩
 |je fs=>
  unfold KA at hk;obtain⟨a,b,xs,rfl,ha,hb,ap⟩:=hk;refine⟨_,rfl,a,_,_,_,rfl,rfl,fU.of ha,rfl,?_⟩;refine iT rfl (by decide +kernel) ?_;refine iT rfl (by decide +kernel) ?_;refine iT rfl (by decide +kernel) ?_;refine iT rfl (by decide +kernel) ?_;refine iT rfl (by decide +kernel) ?_;exact⟨_,rfl,a,_,_,_,rfl,rfl,fU.of ha,rfl,_,rfl,_,rfl,q⟩
theorem rY {P:Program}{w:World}{K:W.Frag}{mg:Str->Option Value}{base:Heap}{CX:jU}{k:Nat}{f:Addr}{fd:FuncData}{ps:List Str}{z J:Sp}(F:e_ P w K mg base CX k f fd ps z)(G:e_ P w K mg base CX k f fd ps J):
 e_ P w K mg base CX k f fd ps (λvs H Q E=>z vs H Q E\/J vs H Q E):=
 ⟨λvs H Q E q=>q.elim (F.len vs H Q E) (G.len vs H Q E),λA outer s H args us vs Q E L U Y hv hs=>hs.elim (F.run A outer s H args us vs Q E L U Y hv) (G.run A outer s H args us vs Q E L U Y hv)⟩
def Fo (n:Nat):Sp:=λvs H Q _=>∃L b xs fs U Y z J δ S1 S2,vs=[.ref L,.ref U,.ref Y]/\H L=some (.tup [.str "record",.ref b])/\H b=some (.tup xs)/\FA H xs fs/\fs.names.Nodup/\fs.W/\H U=some (.dK z)/\H Y=some (.dK J)/\RecAt S1 n H fs z δ/\RecAt S2 n H fs J δ/\∀H',Same H H'->Q (.bl true) H'
theorem Mj (n j:Nat)(T:Tb mg)(J:Dn K mg "record_misfit" jg (top 11) L U)(aa:Dn K mg "has_just" jg (top 12) ab ac)(ae:e_ P w K mg base fW (1) ab ac jg (uu))(ag:Dn K mg "misfit" jb (top 10) ah ai)(aj:e_ P w K mg base fW (j+1) ah ai jb (Mc n)):e_ P w K mg base fW (j+2) L U jg (xo K n):=by
 refine J.F.ok xj λvs H Q E h=>?_;obtain⟨b,v,xs,fs,rfl,hb,ak,al,hx,aw,h⟩:=h;refine⟨rfl,λaE A outer s nd hr hu=>?_⟩
 refine⟨_,(fT (gp (PW.pt (iX (ia (gZ (gA iy (by rfl) T.iA boot_isinstance (a_ (pv 1) (a_ (iu (v:=.ty "dict") rfl T.nX boot_dict rfl) c_))))) (i5 (ia (gZ (f9 ae hr aa (a_ (pv 0) (a_ (pv 1) c_)))))))) (fX (f6 (iM c_))) gu)
  (fT (jt PassesOwn.never rfl (jS (pv 0)) (jE rfl (ic (gK (i:=2) nd rfl ip) (ic (gK (i:=3) nd rfl ip) jD))) (fT (gv 4 nd (f9 aj hr ag (a_ (pv 3) (a_ (jr hu (pv 1) (pv 2) (λ_ _=>rfl)) c_))))
  (fX (gp (gw j6 (pv 4) iB (gj _)) (fX (f6 (gh pR (iM (a_ (pv 2) c_)) (pv 4)))) gu))))
  (fX (f6 iB)))),?_⟩
 ac_rfl
 rcases h with⟨t,ht,ek,q⟩|⟨a,kvs,rfl,ha,h⟩
 . refine⟨_,rfl,_,_,_,false,rfl,ht,ek,false,rfl,ix ?_⟩;exact⟨kT,λp hp=>q p _ (Same.new hp) fZ⟩
 refine⟨_,rfl,_,_,_,true,rfl,.dK ha,rfl,true,rfl,gP ?_⟩
 have h':(kvs.length≠fs.names.length/\∀p H',Same H H'->H' p=some (.lst [])->Q (.ref p) H')\/∃(y:Option Str) (δ:Str->D),kvs.length=fs.names.length/\(∀x∈fs.names,(gO kvs (Sum.inr x)).isSome=true)/\(∀z,y=some z->z∈fs.names/\gO kvs (Sum.inr z)=some .non)/\
  (∀x k,y≠some x->fs.get x=some k->∃v fp,gO kvs (Sum.inr x)=some v/\Own H v (δ x) fp/\ij k (δ x)/\(δ x).dep<=n/\(δ x).Sm)/\(∀z,y=some z->∀p H',Same H H'->H' p=some (.lst [.str z])->Q (.ref p) H')/\(y=none->∀H',Same H H'->Q .non H'):=by
  rcases h with⟨hl,q⟩|⟨y,δ,hl,hy,ao,af,q⟩|⟨δ,S,hR,q⟩
  . exact .inl ⟨hl,q⟩
  . have Y:∀x∈fs.names,(gO kvs (Sum.inr x)).isSome=true:=λx hx=>by
     by_cases e:x=y
     . rw[e,ao];rfl
     . obtain⟨k,hk⟩:=Fs.pC hx;obtain⟨v,_,hv,_⟩:=af x k e hk;rw[hv];rfl
    exact .inr ⟨some y,δ,hl,Y,(λz e=>by cases e;exact⟨hy,ao⟩),(λx k e=>af x k λz=>e (by rw[z])),(λz e=>by cases e;exact q),(λe=>by cases e)⟩
  . have Y:∀x∈fs.names,(gO kvs (Sum.inr x)).isSome=true:=λx hx=>by
     obtain⟨k,hk⟩:=Fs.pC hx;obtain⟨v,_,hv,_⟩:=hR.get x k hk;rw[hv];rfl
    exact .inr ⟨none,δ,hR.len,Y,(λz e=>by cases e),(λx k _ hx=>by
     obtain⟨v,fp,h1,h2,_,h4⟩:=hR.get x k hx;exact⟨v,fp,h1,h2,h4⟩),(λz e=>by cases e),(λ_=>q)⟩
 clear h;rcases h' with⟨hl,q⟩|⟨y,δ,hl,Y,hy,af,qy,qn⟩
 . refine⟨_,rfl,_,rfl,b,a,xs,kvs,fs,rfl,hb,ak,al,hx,ha,.inr ⟨hl,λH1 s1=>⟨false,rfl,ix ?_⟩⟩⟩;exact⟨kT,λp hp=>q p _ (s1.trans (Same.new hp)) fZ⟩
 . refine⟨_,rfl,_,rfl,b,a,xs,kvs,fs,rfl,hb,ak,al,hx,ha,.inl ⟨hl,Y,λH1 s1=>⟨true,rfl,gP ?_⟩⟩⟩;refine⟨_,rfl,b,rfl,⟨_,fU.of (s1 _ _ hb)⟩,nN (xs:=xs) (λi σ H'=>Same H H'/\(∃x y z,σ=[some (.ref b),some (.ref a),x,y,z])/\∀j,j<i->y≠none->fs.names[j]? ≠y) ⟨s1,⟨_,_,_,rfl⟩,λj hj=>absurd hj (by omega)⟩ ?_ ?_ ?_⟩
   . rintro i σ H' _ ⟨s2,_⟩;exact fU.of (s2 _ _ hb)
   . rintro i v σ H' hv ⟨s2,⟨x,yy,z,rfl⟩,am⟩;obtain⟨c,u,nm,k,rfl,an,hc,hk⟩:=FA.get fs ak hv;have ax:fs.names[i]? =some nm:=by rw[Fs.kz,an];rfl
     refine⟨c,_,rfl,fU.of (s2 _ _ hc),rfl,_,_,rfl,_,_,rfl,rfl,?_⟩;by_cases e:y=some nm
     . obtain⟨hm,ay⟩:=hy nm e;refine⟨_,rfl,_,rfl,_,rfl,a,.non,rfl,(by have:=ig.k (k:=Sum.inr nm) (s2 _ _ ha);rw[ay] at this;exact this),.inr ⟨u,k,rfl,KA.mono (Tu.of s2) k hk,λp H3 s3 ap=>?_⟩⟩;refine⟨_,rfl,rfl,_,rfl,?_⟩;rw[decide_eq_false (by intro z;cases z)];refine ix ?_;refine⟨_,rfl,jV,λp1 aq=>?_⟩;refine⟨_,rfl,p1,p,_,_,rfl,rfl,fZ,by rw[fV (gc ap aq)];exact ap,by show 1+0<=sizeLine;decide,λp2 az=>?_⟩;exact qy nm e p2 _ (((s2.trans s3).trans (Same.new aq)).trans (Same.new az)) fZ
     . obtain⟨v,f,ar,au,av,aA,aB⟩:=af nm k e (Fs.nS al an);refine⟨_,rfl,_,rfl,_,rfl,a,v,rfl,(by have:=ig.k (k:=Sum.inr nm) (s2 _ _ ha);rw[ar] at this;exact this),.inl ⟨u,v,k,δ nm,f,rfl,KA.mono (Tu.of s2) k hk,Fs.pf aw an,Own.same s2 au,av,aA,aB,λH3 s3=>?_⟩⟩;refine⟨_,rfl,rfl,_,rfl,?_⟩;rw[decide_eq_true rfl];refine gP ?_;refine⟨s2.trans s3,⟨_,_,_,rfl⟩,λj hj aD=>?_⟩;by_cases ej:j<i
       . exact am j ej aD
       . have:j=i:=by omega
         subst this;rw[ax];exact λz=>e z.symm
   . rintro σ H' ⟨s2,_,am⟩
     cases y with
     |none=>exact qn rfl _ s2
     |some z=>
      obtain⟨hm,_⟩:=hy z rfl;obtain⟨j,hj,e⟩:=Q10 hm;exact absurd (by rw[Q03 hj,e]) (am j (by rw[FA.len fs ak];exact hj) (by intro z;cases z))
theorem Ml (n j:Nat)(T:Tb mg)(am:Dn K mg "misfit" jb (top 10) an ao)(z:Dn K mg "record_misfit" jg (top 11) J L)(U:e_ P w K mg base fW (j+2) J L jg (xo K n))(ae:Dn K mg "rows_misfit" me (top 13) af ag)(ah:e_ P w K mg base fW (5) af ag me (nu))(ai:Dn K mg "tree_misfit" kb (top 15) aj ak)(al:e_ P w K mg base fW (4) aj ak kb (nu))(Y:Dn K mg "either_misfit" mf (top 16) aa ab)(ac:e_ P w K mg base fW (4) aa ab mf (nu))(hj:4<=j):
 e_ P w K mg base fW (j+3) an ao jb (xp K n):=by
 refine am.F.ok uv λvs H Q E h=>?_;obtain⟨kk,b,v,rfl,ap,h⟩:=h;refine⟨rfl,λaq A outer s nd hr hu=>?_⟩
 refine⟨_,(fT (gv 2 nd (f7 (pv 0) d_))
  (fT (gp (gw gL (pv 2) gH (gj _)) (fX (f6 (oN (PW.pt (oM (gZ (gA iy (by rfl) T.iA boot_isinstance (a_ (pv 1) (a_ (iu (v:=.ty "int") rfl T.rP boot_int rfl) c_)))) (oK (ia (gZ (gA iy (by rfl) T.iA boot_isinstance (a_ (pv 1) (a_ (iu (v:=.ty "bool") rfl T.qr boot_bool rfl) c_)))))))) iB (iM c_)))) gu)
  (fT (gp (gw gL (pv 2) gH (gj _)) (fX (f6 (oN (gZ (gA iy (by rfl) T.iA boot_isinstance (a_ (pv 1) (a_ (iu (v:=.ty "str") rfl T.nt boot_str rfl) c_)))) iB (iM c_)))) gu)
  (fT (gp (gw gL (pv 2) gH (gj _)) (fX (f6 (f9 U hr z (a_ (f7 (pv 0) d_) (a_ (pv 1) c_))))) gu)
  (fT (gp (gw gL (pv 2) gH (gj _)) (fX (f6 (f9 ah hr ae (a_ (pv 0) (a_ (pv 1) c_))))) gu)
  (fT (gp (gw gL (pv 2) gH (gj _)) (fX (f6 (f9 al hr ai (a_ (pv 0) (a_ (pv 1) c_))))) gu)
  (fX (f6 (f9 ac hr Y (a_ (f7 (pv 0) d_) (a_ (pv 1) c_))))))))))),?_⟩
 ac_rfl
 refine⟨_,rfl,kk,_,_,_,rfl,rfl,fU.of ap,rfl,?_⟩;refine iT rfl (by decide +kernel) ?_;refine iT rfl (by decide +kernel) ?_;refine l9 rfl (by decide +kernel) ?_;exact⟨_,rfl,kk,_,_,_,rfl,rfl,fU.of ap,rfl,_,rfl,h⟩
def Fp (Fc:Hp->Kd->V->V->Prop):Sp:=λvs H Q _=>∃L b xs fs U Y z J,vs=[.ref L,.ref U,.ref Y]/\H L=some (.tup [.str "record",.ref b])/\H b=some (.tup xs)/\FA H xs fs/\fs.names.Nodup/\fs.W/\H U=some (.dK z)/\H Y=some (.dK J)/\z.length=fs.names.length/\
 (∀x k,fs.get x=some k->∃e1 e2,gO z (Sum.inr x)=some e1/\gO J (Sum.inr x)=some e2/\Fc H k e1 e2)/\∀H',Same H H'->Q (.bl true) H'
theorem Mm {σ:L2.St}{H:Hp}{k:List V->Hp->Prop}(h:k [] H):jT σ H k:=h
theorem Fq (j:Nat){sp:Sp}{Fc:Hp->Kd->V->V->Prop}(hF:∀{H H':Hp}{k:Kd}{u e1 e2:V}{Q:VK}{E:XK},Fc H k e1 e2->Same H H'->KA H' u k->k.W->(∀H3,Same H' H3->Q (.bl true) H3)->sp [u,e1,e2] H' Q E)(T:Tb mg)(z:Dn K mg "_law_alike" kg (top 47) L U)(J:e_ P w K mg base fW (j) L U kg (sp)):e_ P w K mg base fW (j+1) L U kg (Fp Fc):=by
 refine z.F.ok Fl λvs H Q E h=>?_;obtain⟨a,b,xs,fs,c1,c2,ab,am,rfl,ha,hb,ac,ah,ai,aa,aj,af,ag,q⟩:=h;refine⟨rfl,λan A outer s nd hr hu=>?_⟩
 refine⟨_,(fT (gp (gw gL (f7 (pv 0) d_) gH (gj _)) (fX (f6 (kH (gA iy (by rfl) T.iA boot_isinstance (a_ (pv 1) (a_ (iu (v:=.ty "int") rfl T.rP boot_int rfl) c_))) (kH (Cn (gA iy (by rfl) T.iA boot_isinstance (a_ (pv 1) (a_ (iu (v:=.ty "bool") rfl T.qr boot_bool rfl) c_)))) (lD (jK gL (pv 1) (pv 2) (gj _))))))) gu)
  (fT (gp (gw gL (f7 (pv 0) d_) gH (gj _)) (fX (f6 (kH (gA iy (by rfl) T.iA boot_isinstance (a_ (pv 1) (a_ (iu (v:=.ty "str") rfl T.nt boot_str rfl) c_))) (lD (jK gL (pv 1) (pv 2) (gj _)))))) gu)
  (fT (gp (gw gL (f7 (pv 0) d_) gH (gj _)) (fT (gp (PW.pt (iX (ia (gZ (gA iy (by rfl) T.iA boot_isinstance (a_ (pv 1) (a_ (iu (v:=.ty "dict") rfl T.nX boot_dict rfl) c_))))) (i5 (gw jF (gA pW (by rfl) T.iI PySem.boot_len (a_ (pv 1) c_)) (gA i9 (by rfl) T.iI PySem.boot_len (a_ (f7 (pv 0) d_) c_)) (gj _))))) (fX (f6 iH)) gu)
  (fT (jt PassesOwn.never rfl (jS (f7 (pv 0) d_)) (jE rfl (ic (gK (i:=3) nd rfl ip) (ic (gK (i:=4) nd rfl ip) jD))) (fX (gp (PW.pt (iX (qS (vQ hu (pv 3) (pv 1)) (by with_unfolding_all rfl)) (i5 (ia (gZ (f9 J hr z (a_ (pv 4) (a_ (jr hu (pv 1) (pv 3) (λ_ _=>rfl)) (a_ (jr hu (pv 2) (pv 3) (λ_ _=>rfl)) c_))))))))) (fX (f6 iH)) gu)))
  (fX (f6 iH)))) gu)
  (fT (gp (gw gL (f7 (pv 0) d_) gH (gj _)) (fT (gp (PW.pt (iX (ia (gZ (gA iy (by rfl) T.iA boot_isinstance (a_ (pv 1) (a_ (iu (v:=.ty "list") rfl T.j_ boot_list rfl) c_))))) (i5 (gw jF (gA pW (by rfl) T.iI PySem.boot_len (a_ (pv 1) c_)) (gA i9 (by rfl) T.iI PySem.boot_len (a_ (pv 2) c_)) (gj _))))) (fX (f6 iH)) gu)
  (fX (f6 (gA (pX rfl) (by rfl) T.qp boot_all (a_ (j9 (g:=(oQ K 2 (kZ (iY 0) (kZ (iY 1) oP)))) (tt:=kx) (te:=(mZ _ _ _ (iO (qY (iO (tC (.str "record")) (iO (iC (jq K) (gR 2) (tC (.int 3))) jT))) (iO (gR 0) (iO (gR 1) jT))))) (own:=Xm) rfl (jW (N:=XE) (sc:=gn (top 47))) (rE rfl T.rO (a_ (pv 1) (a_ (pv 2) c_))) (λ_ _ _ _ _=>(jE rfl (ic (gK (i:=0) (show(XA:List Str).Nodup by decide +kernel) rfl (Or.inl rfl) (.inr rfl)) (ic (gK (i:=1) (show(XA:List Str).Nodup by decide +kernel) rfl (Or.inl rfl) (.inr rfl)) jD)))) (λ_ _ _ _ _=>lb) (λ_ _ _ _ _=>(f9 J hr z (a_ (jd (a_ gH (a_ (f7 (pv 2) d_) c_))) (a_ (pv 0) (a_ (pv 1) c_)))))) c_))))) gu)
  (fT (gp (PW.pt (iX (ia (gZ (gA iy (by rfl) T.iA boot_isinstance (a_ (pv 1) (a_ (iu (v:=.ty "tuple") rfl T.lJ boot_tuple rfl) c_))))) (i5 (gw jF (gA pW (by rfl) T.iI PySem.boot_len (a_ (pv 1) c_)) d_ (gj _))))) (fX (f6 iH)) gu)
  (fT (gp (gw gL (f7 (pv 0) d_) gH (gj _)) (fT (gp (PW.pt (iX (ia (gZ (gA iy (by rfl) T.iA boot_isinstance (a_ (f7 (pv 1) d_) (a_ (iu (v:=.ty "str") rfl T.nt boot_str rfl) c_))))) (i5 (gw jF (f7 (pv 1) d_) (f7 (pv 2) d_) (gj _))))) (fX (f6 iH)) gu)
  (fT (Dw (i:=4) nd rfl ip (g:=(iY 0)) (tt:=(mD (iC oU (iC (jq K) (gR 0) (tC (.int 0))) (iC (jq K) (gR 3) (tC (.int 0)))))) (te:=(iC (jq K) (gR 0) (tC (.int 1)))) (own:=["_law_pair"]) rfl (jW (N:=XE) (sc:=gn (top 47))) (jS (f7 (pv 0) d_)) (λ_ _ _ _ _=>(gK (i:=0) (show(Xb:List Str).Nodup by decide +kernel) rfl (Or.inl rfl) (.inr rfl))) (λ_ _ _ _ _=>(rq (gw gL (f7 (pv 0) d_) (f7 (pv 3) d_) (gj _)))) (λ_ _ _ _ _=>(f7 (pv 0) d_)))
  (fX (f6 (f9 J hr z (a_ (ka (pv 4) d_) (a_ (f7 (pv 1) d_) (a_ (f7 (pv 2) d_) c_)))))))) gu)
  (fT (gp (PW.pt (iX (ia (gZ (gA iy (by rfl) T.iA boot_isinstance (a_ (f7 (pv 1) d_) (a_ (iu (v:=.ty "list") rfl T.j_ boot_list rfl) c_))))) (i5 (gw jF (gA i9 (by rfl) T.iI PySem.boot_len (a_ (f7 (pv 1) d_) c_)) (gA i9 (by rfl) T.iI PySem.boot_len (a_ (f7 (pv 2) d_) c_)) (gj _))))) (fX (f6 iH)) gu)
  (fT (gp (ia (gZ (f9 J hr z (a_ (f7 (pv 0) d_) (a_ (f7 (pv 1) d_) (a_ (f7 (pv 2) d_) c_)))))) (fX (f6 iH)) gu)
  (fX (f6 (gA (pX rfl) (by rfl) T.qp boot_all (a_ (j9 (g:=(oQ K 2 (kZ (iY 0) (kZ (iY 1) oP)))) (tt:=kx) (te:=(mZ _ _ _ (iO (gR 2) (iO (gR 0) (iO (gR 1) jT))))) (own:=Xm) rfl (jW (N:=XE) (sc:=gn (top 47))) (rE rfl T.rO (a_ (f7 (pv 1) d_) (a_ (f7 (pv 2) d_) c_))) (λ_ _ _ _ _=>(jE rfl (ic (gK (i:=0) (show(XA:List Str).Nodup by decide +kernel) rfl (Or.inl rfl) (.inr rfl)) (ic (gK (i:=1) (show(XA:List Str).Nodup by decide +kernel) rfl (Or.inl rfl) (.inr rfl)) jD)))) (λ_ _ _ _ _=>lb) (λ_ _ _ _ _=>(f9 J hr z (a_ (pv 2) (a_ (pv 0) (a_ (pv 1) c_)))))) c_)))))))))))),?_⟩
 ac_rfl
 refine iU rfl ha rfl (by decide +kernel) ?_;refine iU rfl ha rfl (by decide +kernel) ?_;refine l_ rfl ha rfl (by decide +kernel) ?_;have el:ab.length=xs.length:=by rw[af,FA.len fs ac]
 refine⟨_,rfl,_,_,_,true,rfl,.dK aa,rfl,true,rfl,gP ?_⟩;refine⟨_,rfl,.inl ⟨c1,_,rfl,aa,_,rfl,a,_,_,_,rfl,rfl,fU.of ha,rfl,b,_,rfl,.inr (fU.of hb),rfl,_,rfl,?_⟩⟩;refine ku (show V.int (ab.length:Nat)=V.int (xs.length:Nat) by rw[el]) ?_;refine⟨_,rfl,a,_,_,_,rfl,rfl,fU.of ha,rfl,b,rfl,⟨_,fU.of hb⟩,nN (xs:=xs) (λi σ H'=>Same H H'/\∃x y,σ=[some (.ref a),some (.ref c1),some (.ref c2),x,y]) ⟨Same.refl _,_,_,rfl⟩ ?_ ?_ ?_⟩
 . rintro i σ H' _ ⟨Y,_⟩;exact fU.of (Y _ _ hb)
 . rintro i v σ H' hv ⟨Y,x,y,rfl⟩;obtain⟨c,u,nm,k,rfl,ae,hc,hk⟩:=FA.get fs ac hv;obtain⟨e1,e2,ak,al,hh⟩:=ag nm k (Fs.nS ah ae);have g1:ig H' c1 (.str nm) (some e1):=by have:=ig.k (k:=Sum.inr nm) (Y _ _ aa);rw[ak] at this;exact this
   have g2:ig H' c2 (.str nm) (some e2):=by have:=ig.k (k:=Sum.inr nm) (Y _ _ aj);rw[al] at this;exact this
   refine⟨c,_,rfl,fU.of (Y _ _ hc),rfl,_,_,rfl,_,_,rfl,rfl,?_⟩;refine⟨_,rfl,_,rfl,c1,_,rfl,g1,false,rfl,gP ?_⟩;refine⟨_,rfl,_,rfl,_,rfl,c1,e1,rfl,g1,_,rfl,_,rfl,c2,e2,rfl,g2,?_⟩;refine Mm ?_;exact hF hh Y (KA.mono (Tu.of Y) k hk) (Fs.pf ai ae) λH3 s3=>⟨true,rfl,gP ⟨Y.trans s3,_,_,rfl⟩⟩
 . rintro σ H' ⟨Y,_⟩;exact q _ Y
theorem Mn (n:Nat)(T:Tb mg)(L:Dn K mg "_law_alike" kg (top 47) z J)(U:e_ P w K mg base fW (n+1) z J kg (pE n)):e_ P w K mg base fW ((n+1)+1) z J kg (Fo n):=
 (Fq (n+1) (sp:=pE n) (Fc:=λH k e1 e2=>∃d Y f2,Own H e1 d Y/\Own H e2 d f2/\ij k d/\d.dep<=n/\d.Sm) (λ⟨d,Y,f2,o1,o2,h⟩ s hk hW q=>⟨_,_,_,_,d,Y,f2,rfl,hk,hW,Own.same s o1,Own.same s o2,h.1,h.2.1,h.2.2,q⟩) T L U).imp λvs H Q E h=>by
   obtain⟨a,b,xs,fs,c1,c2,ac,ae,δ,S1,S2,e,ha,hb,af,ag,ah,ai,aj,R1,R2,q⟩:=h;refine⟨a,b,xs,fs,c1,c2,ac,ae,e,ha,hb,af,ag,ah,ai,aj,R1.len,λx k hx=>?_,q⟩;obtain⟨e1,Y,ak,aa,_,hr⟩:=R1.get x k hx;obtain⟨e2,f2,al,ab,_⟩:=R2.get x k hx;exact⟨e1,e2,ak,al,δ x,Y,f2,aa,ab,hr⟩
end Pb
namespace L2
open Spec PyProof.Rows
def n_ (h:Heap) (C fI:Addr) (kD:List Value) (nid:String):Prop:=
 ∃tl N nm q bs z Y sub ab J dd k0 k1 k2 k3 k5 L U,h.get? C=some (excClassObj nm q C N bs tl z Y sub ab J dd k0 k1 k2 k3 k5 nid)/\h.Ns N L/\L "__init__"=some (.ref fI)/\OwnTail h kD tl/\h.get? fI=some U/\U.cls=.type "function"
theorem n_.keeps {h h':Heap}{C fI:Addr}{kD:List Value}{nid:String}(x:n_ h C fI kD nid)(k:∀b o,h.get? b=some o->h'.get? b=some o):n_ h' C fI kD nid:=by
 obtain⟨tl,N,nm,q,bs,z,L,sub,U,J,Y,k0,k1,k2,k3,k5,mN,oI,h1,h2,h3,h4,h5,h6⟩:=x;exact⟨tl,N,nm,q,bs,z,L,sub,U,J,Y,k0,k1,k2,k3,k5,mN,oI,k _ _ h1,h2.keeps k,h3,h4.keeps k,k _ _ h5,h6⟩
section
variable {prog:Program}{w:World}{A:Around}{E:Value->Shared->Prop}{hp:Heap}{g:Array GenState}{dr:Drawn}{tk:Nat}{os:OsState}{C fI:Addr}{kD:List Value}{B nid uw:String}
theorem Mo (FB:ExcBaseFacts B nid uw kD){us:List Value}{Q:Fin->Shared->Prop}(x:n_ hp C fI kD nid)
 (q1:∀h' e,Heap.MadeExcOf hp h' e (.ref C) us->wpAny (model prog w) A (call (.ref fI) (.ref e::us)) (λr s'=>r=.none/\Q (.done (.ret (.ref e))) s') E ⟨h',g,dr,tk,os⟩) (hl:us.length<=sizeLine):
 wpAny (model prog w) A (Builtin.«type.__call__» ⟨.ref C::us,[]⟩) Q E ⟨hp,g,dr,tk,os⟩:=by
 obtain⟨tl,N,nm,q,bs,al,sn,sub,ab,am,dd,k0,k1,k2,k3,k5,mN,oI,cl,ns,ae,J,af,ag⟩:=x
 repeat (first|with_reducible refine wpAny_loadPart_at cl ?_|with_reducible refine wpAny_madeBy_exc cl ?_|wp_step)
 refine codeAny_call_builtin_code (Code.quiet_builtin _ FB.quiet) (wpAny_check_new_subT FB J cl (codeAny_exc_new_subT FB J cl ?_ hl));show wpAny _ _ _ _ _ _;generalize ah:({ cls:=.type "tuple",data:=.seq us.toArray }:Obj)=o1;generalize L:({ cls:=.ref C,data:=.fields #[.ref hp.objs.size,.none,.none,.none,.bool false,.none] }:Obj)=Y;have up:∀b o,hp.get? b=some o->((hp.push o1).push Y).get? b=some o:=λb o e=>Q06 _ (Q06 _ e);have aa:=up _ _ cl;have ai:((hp.push o1).push Y).Ns N mN:=ns.keeps up;have ac:=up _ _ af;have U:=J.keeps up
 have ex:((hp.push o1).push Y).get? (hp.objs.size+1)=some Y:=by
  subst L;exact Q2r (by rw[Q11]) rfl
 have aj:Y.cls=.ref C:=by rw[<-L]
 have ak:(Value.ref C::tl).contains (.ref C)=true:=by simp
 unfold isInstance
 repeat (first|(with_reducible refine wpAny_loadPart_at ex ?_;rw[aj])|(with_reducible refine wpAny_isSubtype_exc aa ?_;rw[ak])|wp_step)
 show wpAny _ _ (typeLookup (.ref C) _) _ _ _;refine wpAny_typeLookup_tail aa ai U FB.mroIs FB.init.lookup ?_;rw[ae];refine wpAny_holding (Q0 ?_);unfold bindSpecial;refine Q0 (wpAny_typeOf (T:="function") ⟨_,ac,ag⟩ ?_);rw[if_pos (by decide)];refine Q02 (Q0 (Q0l (q1 _ (hp.objs.size+1) ⟨up,Q27 (Q1 _),hp.objs.size,?_,Q27 (Q00 _),?_⟩) (λr s' hr=>?_) λ_ _ z=>z))
 . rw[ex,<-L]
 . rw[<-ah];exact Q06 _ (Q2r rfl rfl)
 . obtain⟨rfl,hQ⟩:=hr
   wp_walk
   exact hQ
theorem Mp (FB:ExcBaseFacts B nid uw kD){us:List Value}{Q:Value->Shared->Prop}(x:n_ hp C fI kD nid)
 (L:∀h' e,Heap.MadeExcOf hp h' e (.ref C) us->wpAny (model prog w) (A.under (.builtin "type.__call__" ⟨.ref C::us,[]⟩)) (call (.ref fI) (.ref e::us)) (λr s'=>r=.none/\Q (.ref e) s') E ⟨h',g,dr,tk,os⟩) (hl:us.length<=sizeLine):
 wpAny (model prog w) A (call (.ref C) us) Q E ⟨hp,g,dr,tk,os⟩:=by
 have aa:=tc_lookup;have ac:=tc_bind (.ref C);have U:=x;obtain⟨tl,N,nm,q,bs,z,sn,sub,ab,ae,dd,k0,k1,k2,k3,k5,mN,oI,cl,ns,af,J,ag,ah⟩:=U;have ty:(⟨hp,g,dr,tk,os⟩:Shared).TypeIs (.ref C) "type":=⟨_,cl,rfl⟩;refine wpAny_call (codeAny_of_tree ?_);show wpAny _ _ (callAny (.ref C) _) _ _ _
 repeat (any_goals (first|assumption|with_reducible refine wpAny_loadPart_at cl ?_|wp_step))
 exact⟨rfl,codeAny_call_builtin_at (Code.quiet_builtin _ (by decide +kernel)) entry_typeCall (wpAny_check_type_call_sub cl (Mo FB x (λh' e Y=>L h' e Y) hl))⟩
end
theorem Mq {M:Model}{A:Around}{E:Value->Shared->Prop}{env:Env}{s:Shared}{x:Sem Value}{Q:Flow->Shared->Prop}(hh:A.handled=none)
 (h:wpAny M A x (λv L=>∃(e C:Addr) (U:Obj) (t:Value) (r:Array Value),v=.ref e/\L.heap.get? e=some U/\U.cls=.ref C/\U.data=.fields #[t,.none,.none,.none,.bool false,.none]/\
   (∃tl N nm q bs J sn sub ab Y dd k0 k1 k2 k3 k5 nid,L.heap.get? C=some (excClassObj nm q C N bs tl J sn sub ab Y dd k0 k1 k2 k3 k5 nid)/\tl.contains (.type "BaseException")=true)/\E (.ref e) L) E s):
 wpAny M A (raiseStmt env (some x) none) Q E s:=by
 unfold raiseStmt;refine Q0 (Q0l h (λv L h1=>?_) λ_ _ z=>z);obtain⟨e,C,U,t,r,rfl,he,hc,hd,⟨tl,N,nm,q,bs,J,sn,sub,ab,Y,dd,k0,k1,k2,k3,k5,nid,cl,hb⟩,hE⟩:=h1;have aa:(Value.ref C::tl).contains (.type "BaseException")=true:=by rw[List.contains_cons,hb,Bool.or_true]
 obtain⟨hp,g,dr,tk,os⟩:=L;obtain⟨oc,od,ac,ae⟩:=U;have hc:oc=.ref C:=hc;have hd:ac=.fields #[t,.none,.none,.none,.bool false,.none]:=hd;subst hc;subst hd
 repeat (first|with_reducible refine wpAny_loadPart_at he ?_|with_reducible refine wpAny_loadPart_at cl ?_|(with_reducible refine wpAny_isSubtype_exc cl ?_;rw[aa])|wp_step)
 exact wpAny_raiseNew_none hh hE
end L2
namespace L2
open Spec Calls PyProof.Rows W Builtin Builtin.ObjectAttr
noncomputable def ux:List Value->Bool
 | .ref _::r=>ux r
 |l=>l == [.type "ValueError",.type "Exception",.type "BaseException",.type "object"]
theorem Ft {self:Value}:∀{l:List Value},ux l=true->refuseLoop self "__setattr__" l=pure ()
 |[],h=>by cases h
 | .ref C::r,h=>by
   rw[refuseLoop_ref];exact Ft (l:=r) h
 | .type n::r,h=>by
   have e:Value.type n::r=[.type "ValueError",.type "Exception",.type "BaseException",.type "object"]:=beq_iff_eq.mp h;rw[e];exact F.store_ValueError.passes self
 | .none::r,h=>by cases beq_iff_eq.mp (show(Value.none::r == _)=true from h)
 | .bool b::r,h=>by cases beq_iff_eq.mp (show(Value.bool b::r == _)=true from h)
 | .int i t::r,h=>by cases beq_iff_eq.mp (show(Value.int i t::r == _)=true from h)
 | .str x t::r,h=>by cases beq_iff_eq.mp (show(Value.str x t::r == _)=true from h)
 | .bytes x t::r,h=>by cases beq_iff_eq.mp (show(Value.bytes x t::r == _)=true from h)
 | .float x t::r,h=>by cases beq_iff_eq.mp (show(Value.float x t::r == _)=true from h)
 | .builtin x::r,h=>by cases beq_iff_eq.mp (show(Value.builtin x::r == _)=true from h)
 | .ellipsis::r,h=>by cases beq_iff_eq.mp (show(Value.ellipsis::r == _)=true from h)
 | .notImplemented::r,h=>by cases beq_iff_eq.mp (show(Value.notImplemented::r == _)=true from h)
structure og (K:Frag) (C:Addr) (name:Str):Prop where
 sa:findIn K (.ref C) "__setattr__"=some (some (.builtin "object.__setattr__"))
 na:findIn K (.ref C) name=some none
 ob:mroIn K C (.type "object")=some true
 row:((clsIn K C).any λcd=>ux cd.mro && cd.hasDict)=true
section
variable {prog:Program}{w:World}{A:Around}{E:Value->Shared->Prop}{s:Shared}{K:Frag}{x C:Addr}{ox:Obj}{name:Str}{v:Value}
theorem Mr {R:Result->Shared->Prop}{tk:Tok}(X:K.In s.heap)(Z:og K C name)(hx:s.heap.get? x=some ox)(hc:ox.cls=.ref C)
 (h:wpAny (model prog w) A.in1 (storeInOwnDict (.ref x) (.ref C) (.str name tk) name v false) (λfin s'=>match fin with| .done f=>R (.ok f) s'| .again c'=>c'.quiet=true/\codeAny (model prog w) A c' R s') (λe s'=>R (.error e) s') s):
 codeAny (model prog w) A (.call (.builtin "object.__setattr__") ⟨[.ref x,.str name tk,v],[]⟩) R s:=by
 have J:=PySem.F.store_object
 have U:Looks (model prog w) s.heap (typeOf (.ref x)) (.ref C):=by
  have z:Looks (model prog w) s.heap (typeOf (.ref x)) ox.cls:=(Looks.ld hx).andThen .now;rw[hc] at z;exact z
 have Lo:Looks (model prog w) s.heap (isInstance (.ref x) (.type "object")) true:=U.andThen (looks_mroIn X Z.ob);obtain⟨cd,Y,L⟩:=any_some Z.row;have hr:=(Bool.and_eq_true_iff.mp L).1;have Lm:Looks (model prog w) s.heap (mroOf (.ref C)) cd.mro:=(looks_clsIn X Y).andThen .now;refine codeAny_call_builtin J.slot.plain J.entry (@check_slot (model prog w) _ _ s "object.__setattr__" "object" "__setattr__" (.ref x) [.str name tk,v] [] _ J.kind J.split Lo (J.args (.ref x) (.str name tk) v) ?_);rw[osa_eq,refuse_eq];refine Q0 (Q0 (U.here (Q0 (Lm.here ?_))));rw[Ft hr];refine Q02 (Q0 (U.here (Q0 ((looks_findIn X Z.na).here (Q0 ?_)))));exact(show Looks (model prog w) s.heap (storeTaker? none) none from .now).here h
theorem Ms {Q:Unit->Shared->Prop}{vs:Array Value}(X:K.In s.heap)(Z:og K C name)(J:s.heap.get? x=some ox)(hc:ox.cls=.ref C)(z:ox.dict=none)(hd:ox.data=.fields vs)
 (h:∀h' af,h'.Ns1 s.heap.objs.size (λy=>if y=name then some v else none)->h'.get? x=some { ox with dict:=some s.heap.objs.size }->(∀b o,b≠x->s.heap.get? b=some o->h'.get? b=some o)->Q () { s with heap:=h',toks:=af }):
 wpAny (model prog w) A (setAttr (.ref x) name v) Q E s:=by
 have I:InstAt s.heap x ox C none:=⟨J,hc,by unfold notCls;rw[hd],by rw[z];trivial⟩;refine set_plain X I Z.sa (Mr (s:={ s with toks:=s.toks+1 }) X Z J hc ?_);obtain⟨cd,ag,ac⟩:=any_some Z.row;have ae:=(Bool.and_eq_true_iff.mp ac).2;obtain⟨oc,od,ah,L⟩:=ox;have hc:oc=.ref C:=hc;have z:od=none:=z;have hd:ah=.fields vs:=hd;subst hc;subst z;subst hd;have Lc:=looks_clsIn (M:=model prog w) X ag;obtain⟨hp,g,dr,tk,os⟩:=s;have J:hp.get? x=some ⟨.ref C,none,.fields vs,L⟩:=J;have U:x≠hp.objs.size:=Q08 (Q01 J);unfold storeInOwnDict;refine Q0 (Q02 ?_);refine Q0 ?_;show wpAny _ _ (instanceDict x true) _ _ _;unfold instanceDict;refine Q0 (wpAny_loadPart J (Q0 (Lc.at ?_)));rw[ae];rw[if_neg (by decide)];show wpAny _ _ (if(!true || !typeHasDict (.ref C))=true then _ else _) _ _ _;rw[if_neg (by simp[typeHasDict])];show wpAny _ _ (alloc _ >>= _) _ _ _;have Y:(hp.push { cls:=.type "dict",data:=.dict #[] }).get? x=some ⟨.ref C,none,.fields vs,L⟩:=Q06 _ J;refine Q0 (wpAny_alloc' (Q0 (wpAny_update' Y (Q02 ?_))));generalize hH:(hp.push { cls:=.type "dict",data:=.dict #[] }).update x (λo=>{ cls:=o.cls,dict:=some hp.objs.size,data:=o.data,slots:=o.slots })=h1
 have gd:h1.get? hp.objs.size=some { cls:=.type "dict",data:=.dict #[] }:=by
  rw[<-hH];exact(Q2m _ _ _ _ U.symm).trans (Q2r rfl rfl)
 have gx:h1.get? x=some ⟨.ref C,some hp.objs.size,.fields vs,L⟩:=by
  rw[<-hH];exact Q1l _ Y rfl
 have go:∀b o,b≠x->hp.get? b=some o->h1.get? b=some o:=λb o hb e=>by
  rw[<-hH];exact(Q2m _ _ _ _ hb).trans (Q06 _ e)
 have ai:h1.Ns hp.objs.size (λ_=>none):=⟨_,#[],_,gd,rfl,(λe he=>absurd he (by simp)),λ_=>rfl⟩;show wpAny _ _ (storeInDict hp.objs.size (.str name tk) name v) _ _ _;unfold storeInDict newKeyGuard;refine Q0 (Q02 (Q0 (wpAny_nsSet1 (Heap.Ns1.of_empty ai) λh2 aa ab=>?_)));obtain⟨oD,am,an,aj,ak,al⟩:=aa.count (PySem.Within.cons name v PySem.Within.nil);refine Q0 (wpAny_lookBehind aj (by rw[ak];exact pastItsLine_dict (Q0b al (by rw[Q0j,Q2g,sizeLine_eq];omega))) ?_);exact Q02 (h h2 _ aa ((ab.2 x U).trans gx) λb o hb e=>(ab.2 b (Q08 (Q01 e))).trans (go b o hb e))
end
end L2
namespace L2
open Spec Calls PyProof.Rows W Builtin Builtin.ObjectAttr Builtin.Getset_descriptor
section
variable {prog:Program}{w:World}{A:Around}{E:Value->Shared->Prop}{K:Frag}{h:Heap}{g:Array GenState}{d:Drawn}{t:Nat}{os:OsState}{a C dx:Addr}{o:Obj}{vs:Array Value}{mA:Str->Option Value}{name:Str}{v:Value}
theorem Mt {tk:Tok}{Q:Fin->Shared->Prop}(X:K.In h)(Z:qg K C)(Y:og K C name)(hx:h.get? a=some o)(hc:o.cls=.ref C)(hd:o.data=.fields vs)(U:o.dict=some dx)(hn:h.Ns dx mA)(hv:mA name=some v)(hq:Q (.done (.ret v)) ⟨h,g,d,t,os⟩):
 wpAny (model prog w) A (Builtin.«object.__getattribute__» ⟨[.ref a,.str name tk],[]⟩) Q E ⟨h,g,d,t,os⟩:=by
 obtain⟨cd,z,aa⟩:=any_some Y.row;have J:=(Bool.and_eq_true_iff.mp aa).2;have L1:=looks_findIn (M:=model prog w) X Y.na;have L2:=looks_clsIn (M:=model prog w) X z;obtain⟨oc,od,ab,ac⟩:=o;have hc:oc=.ref C:=hc;have hd:ab=.fields vs:=hd;have U:od=some dx:=U;subst hc;subst hd;subst U
 have hC:∃c' d' L,h.get? C=some ⟨c',d',.cls cd,L⟩:=by
  unfold clsIn at z;split at z
  . rename_i c' d' ae L ho
    cases z;exact⟨c',d',L,X _ _ ho⟩
  . cases z
 obtain⟨c',d',L,hC⟩:=hC;obtain⟨c1,c2,c3,c4,c5,c6,c7,c8,c9,af,ag⟩:=cd;have J:c6=true:=J;subst J
 repeat (any_goals (first|assumption|with_reducible refine wpAny_loadPart_at hx ?_|with_reducible refine wpAny_loadPart_at hC ?_|with_reducible refine L1.at ?_|(with_reducible refine wpAny_nsGet hn ?_;rw[hv])|wp_step))
theorem Mv {tk:Tok}{fill z:Bool}{Q:Value->Shared->Prop}(X:K.In h)(Z:qg K C)(Y:og K C name)(J:h.get? a=some o)(hc:o.cls=.ref C)(hd:o.data=.fields vs)(L:o.dict=some dx)(hn:h.Ns dx mA)(hv:mA name=some v)(hh:handedOut v=pure v)(hq:Q v ⟨h,g,d,t,os⟩):
 wpAny (model prog w) A (getAttrBy (.ref a) (.str name tk) fill z) Q E ⟨h,g,d,t,os⟩:=by
 have f3:=F.attr_ValueError.ga.bind (.ref a);have aa:(z && onTheHeap (Value.builtin "BaseException.__getattribute__"))=false:=by cases z <;> rfl
 have U:(Value.builtin "BaseException.__getattribute__" == Value.builtin "object.__getattribute__")=false:=by decide +kernel
 have ab:(onTheHeap (Value.ref C) && Value.builtin "BaseException.__getattribute__" == Value.builtin "object.__getattribute__")=false:=by rw[U];rfl
 have L1:=looks_findIn (M:=model prog w) X Z.ga;have L2:=looks_findIn (M:=model prog w) X Z.gt
 repeat (any_goals (first|assumption|(with_reducible refine wpAny_loadPart_at J ?_;rw[hc])|with_reducible refine L1.at ?_|with_reducible refine L2.at ?_|wp_step))
 refine codeAny_call_builtin F.attr_ValueError.ga.plain F.entry_bexc_ga (KO X Z J hc (Mt X Z Y J hc hd L hn hv ?_))
 repeat (any_goals (first|assumption|wp_step))
theorem Mw {z:Bool}{Q:Value->Shared->Prop}(X:K.In h)(Z:qg K C)(Y:og K C name)(L:h.get? a=some o)(hc:o.cls=.ref C)(U:o.data=.fields vs)(J:o.dict=some dx)(hn:h.Ns dx mA)(hv:mA name=some v)(hh:handedOut v=pure v)(hq:Q v ⟨h,g,d,t+1,os⟩):
 wpAny (model prog w) A (getAttr (.ref a) name z) Q E ⟨h,g,d,t,os⟩:=by
 unfold getAttr
 repeat (any_goals (first|assumption|with_reducible apply Mv X Z Y L hc U J hn hv hh|wp_step))
end
end L2
namespace L2
open Spec PyProof.Rows
section
variable {M:Model}{A:Around}{E:Value->Shared->Prop}{s:Shared}
structure lU (h:Heap) (e T:Addr) (cls:Value) (dd:Option Addr) (fl:Value):Prop where
 ex:∃oe vs,h.get? e=some oe/\oe.cls=cls/\oe.dict=dd/\oe.data=.fields vs/\vs[1]? =some (.ref T)
 tb:∃oT ts,h.get? T=some oT/\oT.data=.fields ts/\ts[3]? =some fl
 ne:T≠e
theorem uy {e T:Addr}{cls fl:Value}{U:Option Addr}{Q:Unit->Shared->Prop}(t:lU s.heap e T cls U fl)(h:∀h',lU h' e T cls U .none->(∀b o,b≠T->s.heap.get? b=some o->h'.get? b=some o)->(∃o',h'.get? T=some o')->Q () { s with heap:=h' }):wpAny M A (setFlight (.ref e) none) Q E s:=by
 obtain⟨⟨Y,vs,he,hc,L,hd,h1⟩,⟨oT,ts,hT,z,h3⟩,ne⟩:=t;have em:Obj.mapFields (·.setIfInBounds 3 ((none:Option Addr).elim Value.none λf=>rawInt f)) oT={ oT with data:=.fields (ts.setIfInBounds 3 .none) }:=v_ z;have hsz:=(Array.getElem?_eq_some_iff.mp h3).1;unfold setFlight;refine Q0 (wpAny_field he hd h1 ?_);rw[if_pos (show(Value.ref T != Value.none)=true by simp)];have self:=Q1l (Obj.mapFields (·.setIfInBounds 3 ((none:Option Addr).elim Value.none λf=>rawInt f))) hT (by rw[em];exact Obj.isFreed_of_fields rfl);rw[em] at self
 have J:∀b o,b≠T->s.heap.get? b=some o->(s.heap.update T (Obj.mapFields (·.setIfInBounds 3 ((none:Option Addr).elim Value.none λf=>rawInt f)))).get? b=some o:=λb o hb ho=>by
  rw[Q14 _ _ (Ne.symm hb)];exact ho
 exact wpAny_setField hT z hsz (h _ ⟨⟨Y,vs,J e Y (Ne.symm ne) he,hc,L,hd,h1⟩,⟨_,_,self,rfl,by simp[hsz]⟩,ne⟩ J ⟨_,self⟩)
theorem Fu {base:Heap}{env:Env}{outer:List Env}{L e T:Addr}{cls:Value}{dd:Option Addr}{Q:Unit->Shared->Prop}(af:A.frames=some (env::outer))(hl:s.heap.FunFrames base (env::outer))(hf:env.frame=some L)(t:lU s.heap e T cls dd .none)
 (h:∀(h':Heap) (T':Addr),s.heap.objs.size<=T'->(∀b o,b ∉ frs (env::outer)->b≠e->b≠T->s.heap.get? b=some o->h'.get? b=some o)->(∀b o,b≠e->b≠T->s.heap.get? b=some o->∃sl,h'.get? b=some { o with slots:=sl })->(∃o,h'.get? T=some o)->lU h' e T' cls dd (rawInt L)->Q () { s with heap:=h' }):
 wpAny M A (noteFrame (.ref e) env) Q E s:=by
 obtain⟨⟨oe,vs,he,hc,ag,hd,h1⟩,⟨oT,ts,hT,U,h3⟩,ne⟩:=t;have hsz:=(Array.getElem?_eq_some_iff.mp h3).1;have em:Obj.mapFields (·.setIfInBounds 3 Value.none) oT={ oT with data:=.fields (ts.setIfInBounds 3 .none) }:=v_ U;unfold noteFrame;simp only[hf];refine Q0 (wpAny_field he hd h1 ?_);rw[if_pos (show(Value.ref T != Value.none)=true by simp)];refine Q0 (wpAny_field hT U h3 ?_);rw[if_neg (show ¬(Value.none == rawInt L)=true by simp[rawInt])];refine Q0 (wpAny_setField hT U hsz ?_);have self:=Q1l (Obj.mapFields (·.setIfInBounds 3 Value.none)) hT (by rw[em];exact Obj.isFreed_of_fields rfl);rw[em] at self
 have Y:∀b o,b≠T->s.heap.get? b=some o->(s.heap.update T (Obj.mapFields (·.setIfInBounds 3 Value.none))).get? b=some o:=λb o hb J=>by
  rw[Q14 _ _ (Ne.symm hb)];exact J
 have nT:∀b o,s.heap.get? b=some o->(∀vs,o.data≠ .fields vs)->b≠T:=λb o J hn z=>by
  rw[z,hT] at J
  cases J;exact hn ts U
 have ac:(s.heap.update T (Obj.mapFields (·.setIfInBounds 3 Value.none))).objs.size=s.heap.objs.size:=Q2k _ _ _;refine D1 (s:={ s with heap:=s.heap.update T (Obj.mapFields (·.setIfInBounds 3 Value.none)) }) af (hl.of_keeps λb o J hn=>⟨o,Y b o (nT b o J hn) J,rfl⟩) hf (Y e oe (Ne.symm ne) he) hd (Array.getElem?_eq_some_iff.mp h1).1 λh' T' ah hP ai aj=>?_;have ae:s.heap.objs.size<=T':=by rw[<-ac];exact ah
 refine h h' T' ae (λb o hb aa ab J=>hP.1 b o hb aa (Y b o ab J)) (λb o aa ab J=>hP.2 b o aa (Y b o ab J)) ?_ ⟨⟨_,_,ai,hc,ag,rfl,by simp[(Array.getElem?_eq_some_iff.mp h1).1]⟩,aj,?_⟩
 . obtain⟨sl,hs⟩:=hP.2 T _ ne self;exact⟨_,hs⟩
 . have h1:e<s.heap.objs.size:=Q01 he;exact λz=>Q0p e (Q0c h1 (by rw[<-z];exact ae))
end
section
variable {X:Cx}{pins:List (Addr × Obj)}{σ:St}{H:Hp}{s:Shared}
theorem Inv.Mx (I:Inv X pins σ H s)(hex:X.ex=[])(J:X.stack=X.env::X.outer)(ab:X.env.frame=some X.env.locals){a T:Addr}{cls:Value}{dd:Option Addr}{Q:Unit->Shared->Prop}{E:Value->Shared->Prop}{M:Model}(t:lU s.heap a T cls dd .none)
 (ha:X.s₀.heap.get? a=none) (hT:X.s₀.heap.get? T=none) (na:H a=none) (nT:H T=none)
 (q:∀(h':Heap) (T':Addr),lU h' a T' cls dd .none->X.s₀.heap.get? T'=none->H T'=none->Un (frs X.outer) [] X.H₀ H X.s₀.heap h'->iG X.prog X.w H h'->Q () { s with heap:=h' }):
 wpAny M X.A (leaving X.env (.ref a)) Q E s:=by
 have ac:X.A.frames=some (X.env::X.outer):=by rw[<-J];exact I.ok.frames
 have hl:s.heap.FunFrames X.base (X.env::X.outer):=by rw[<-J];exact I.stack
 unfold leaving;refine Q0 (Fu ac hl ab t λh1 T1 L k1 k2 af t1=>?_);refine uy (s:={ s with heap:=h1 }) t1 λh2 t2 k3 ag=>?_;have ae:H T1=none:=I.hok.fresh L
 have aa:∀b o,s.heap.get? b=some o->b≠T1:=λb o e z=>by
  have h3:=Q01 e;rw[z] at h3;exact Q0p _ (Q0c h3 L)
 obtain⟨u,ok⟩:=I.D3 hex (h':=h2) ha hT na nT (λb o hb U Y e=>k3 b o (aa b o e) (k1 b o (by rw[<-J];exact hb) U Y e)) (λb o U Y e=>by
  obtain⟨sl,e1⟩:=k2 b o U Y e;exact⟨sl,k3 b _ (aa b o e) e1⟩)
 exact q h2 T1 t2 (I.qf hex (Heap.D2 L)) ae u ok
end
def ki (P:Program) (w:World):jU:=λouter H s E e s'=>∃(a T C:Addr) (z:Option Addr) (H':Hp),e=.ref a/\lU s'.heap a T (.ref C) z .none/\s.heap.get? a=none/\s.heap.get? T=none/\H' a=none/\H' T=none/\s'.os=s.os/\AllBare s'.gens/\Un (frs outer) [] H H' s.heap s'.heap/\iG P w H' s'.heap/\E (.ref C) z H'
theorem xq {P:Program}{w:World}{K:W.Frag}{mg:Str->Option Value}{base:Heap}{N:List Str}{qual:Str}{scope:Scope}{f:Addr}{cd:Value}{A:Around}{outer:List Env}{s₀:Shared}{H₀:Hp}{E E':XK}(hE:∀C d H,E' C d H->E C d H):
 Passes (ki P w) (gD (ki P w) P w K mg base N qual scope f cd A outer s₀ H₀ E) E':=λpins σ H s e s' I h=>by
 obtain⟨a,T,C,dd,H',rfl,t,la,lT,na,nT,os,J,un,U,Y⟩:=h;obtain⟨hh,g,d,tk,aa⟩:=s';obtain rfl:aa=s.os:=os;have I':=I.call (h':=hh) (g':=g) (d':=d) (t':=tk) (ch:=[]) un U J (λb z=>absurd z (by simp));show wpAny (model P w) _ (leaving _ _) _ _ _;refine I'.Mx rfl rfl rfl t (I.qf rfl la) (I.qf rfl lT) na nT λh' T' t' ab ac ae L=>?_;exact⟨a,T',C,dd,H',rfl,t',I.qf rfl la,ab,na,ac,I'.os,J,ae,L,hE _ _ _ Y⟩
section
variable {M:Model}{A:Around}{E:Value->Shared->Prop}{s:Shared}
theorem My {base:Heap}{env:Env}{outer:List Env}{L e:Addr}{cls:Value}{dd:Option Addr}{U:Obj}{vs:Array Value}{Q:Unit->Shared->Prop}(aa:A.frames=some (env::outer))(hl:s.heap.FunFrames base (env::outer))(hf:env.frame=some L)
 (he:s.heap.get? e=some U) (hc:U.cls=cls) (ab:U.dict=dd) (hd:U.data=.fields vs) (h1:vs[1]? =some .none)
 (h:∀(h':Heap) (Y:Addr),s.heap.objs.size<=Y->(∀b o,b ∉ frs (env::outer)->b≠e->s.heap.get? b=some o->h'.get? b=some o)->(∀b o,b≠e->s.heap.get? b=some o->∃sl,h'.get? b=some { o with slots:=sl })->lU h' e Y cls dd (rawInt L)->Q () { s with heap:=h' }):
 wpAny M A (noteFrame (.ref e) env) Q E s:=by
 have hsz:=(Array.getElem?_eq_some_iff.mp h1).1;unfold noteFrame;simp only[hf];refine Q0 (wpAny_field he hd h1 ?_);rw[if_neg (by decide)];refine D1 aa hl hf he hd hsz λh' Y J hP ac ae=>?_;refine h h' Y J hP.1 hP.2 ⟨⟨_,_,ac,hc,ab,rfl,by simp[hsz]⟩,ae,λz=>?_⟩;have h3:=Q01 he;rw[<-z] at h3;exact Q0p _ (Q0c h3 J)
end
section
variable {X:Cx}{pins:List (Addr × Obj)}{σ:St}{H:Hp}{s:Shared}
theorem Inv.Mz (I:Inv X pins σ H s)(hex:X.ex=[])(J:X.stack=X.env::X.outer)(aa:X.env.frame=some X.env.locals){a:Addr}{oe:Obj}{vs:Array Value}{cls:Value}{dd:Option Addr}{Q:Unit->Shared->Prop}{E:Value->Shared->Prop}{M:Model}
 (he:s.heap.get? a=some oe) (hc:oe.cls=cls) (ab:oe.dict=dd) (hd:oe.data=.fields vs) (h1:vs[1]? =some .none) (ha:X.s₀.heap.get? a=none) (na:H a=none)
 (q:∀(h':Heap) (T':Addr),lU h' a T' cls dd .none->X.s₀.heap.get? T'=none->H T'=none->Un (frs X.outer) [] X.H₀ H X.s₀.heap h'->iG X.prog X.w H h'->Q () { s with heap:=h' }):
 wpAny M X.A (leaving X.env (.ref a)) Q E s:=by
 have ac:X.A.frames=some (X.env::X.outer):=by rw[<-J];exact I.ok.frames
 have hl:s.heap.FunFrames X.base (X.env::X.outer):=by rw[<-J];exact I.stack
 unfold leaving;refine Q0 (My ac hl aa he hc ab hd h1 λh1 T1 L k1 k2 t1=>?_);refine uy (s:={ s with heap:=h1 }) t1 λh2 t2 k3 af=>?_;have ae:H T1=none:=I.hok.fresh L
 have Y:∀b o,s.heap.get? b=some o->b≠T1:=λb o e z=>by
  have h3:=Q01 e;rw[z] at h3;exact Q0p _ (Q0c h3 L)
 obtain⟨u,ok⟩:=I.D3 hex (h':=h2) ha ha na na (λb o hb U _ e=>k3 b o (Y b o e) (k1 b o (by rw[<-J];exact hb) U e)) (λb o U _ e=>by
  obtain⟨sl,e1⟩:=k2 b o U e;exact⟨sl,k3 b _ (Y b o e) e1⟩)
 exact q h2 T1 t2 (I.qf hex (Heap.D2 L)) ae u ok
end
noncomputable def mK (a C:Addr) (z:Option Addr):HO:=.ext λh=>∃o,h.get? a=some o/\o.cls=.ref C/\o.dict=z/\∃vs,o.data=.fields vs
theorem mK.ok {P:Program}{w:World}{H:Hp}{h:Heap}{a C:Addr}{z:Option Addr}(e:∃o,h.get? a=some o/\o.cls=.ref C/\o.dict=z/\∃vs,o.data=.fields vs):iN P w H h a (mK a C z):=
 ⟨e,let⟨o,h1,_⟩:=e;⟨o,h1⟩,λ_ _ ⟨o,h1,h2⟩ k=>⟨o,k o h1,h2⟩⟩
def rZ (X:Cx) (pins:List (Addr × Obj)) (σ:St) (Ek:XK) (e:Value) (s':Shared):Prop:=∃H s,Inv X pins σ H s/\ki X.prog X.w X.stack H s Ek e s'
def r8 (X:Cx) (Ek:XK) (e:Expr) (t:TE):Prop:=
 ∀(pins:List (Addr × Obj)) (s:Shared) (σ:St) (H:Hp) (Q:VK),Inv X pins σ H s->t σ H Q->wpAny (model X.prog X.w) X.A (eval e X.env) (EP X pins σ Q) (rZ X pins σ Ek) s
def Fv (X:Cx) (Ek:XK) (st:List Stmt) (t:TS):Prop:=
 ∀(pins:List (Addr × Obj)) (s:Shared) (σ:St) (H:Hp) (D:Ends),Inv X pins σ H s->t D σ H->wpAny (model X.prog X.w) X.A (execs st X.env) (SP X pins D) (rZ X pins σ Ek) s
section
variable {X:Cx}{k:Nat}{f:Addr}{fd:FuncData}{ps:List Str}{sp:Sp}{ju:List V}{ds:List Value}{Ek:XK}{x:Str}{p pos:Pos}{e:Expr}{es:List Expr}{t:TA}{te:TE}
theorem Fw {i:Nat}{y:Str}{pos':Pos}(J:X.N.Nodup)(hi:X.N[i]? =some y)(L:Loc X.env.scope y)(U:r8 X Ek e te)(Y:swapsWith e (some (.Name y pos')) pos.line X.env=pure false:=by rfl)(hf:X.fn y=true\/X.env.scope.names.lookup y=some .local:=by first|exact .inl rfl|exact .inr rfl|assumption):
 Fv X Ek [.Assign [.Name y pos'] e pos] (pN te (iY i)):=by
 intro pins s σ H D I h;refine wpAny_execs_cons (wpAny_Assign_Name (Q0l (U pins s σ H _ I h) (λv s1 zq=>?_) λ_ _ z=>z) Y);obtain⟨z,H1,I1,r1,q1⟩:=zq;exact qR I1 J hi L r1 (λs2 I2=>wpAny_execs_nil ⟨_,H1,I2,q1⟩) hf
end
theorem MA {X:Cx}{pins:List (Addr × Obj)}{σ:St}{Ek:XK}{e:Value}{s':Shared}{Q:Unit->Shared->Prop}{E:Value->Shared->Prop}(ac:X.stack=X.env::X.outer)(ah:X.env.frame=some X.env.locals)(h:rZ X pins σ Ek e s')
 (q:∀(a C T:Addr) (U:Option Addr) (H':Hp) (h2:Heap),e=.ref a->H' a=none->Ek (.ref C) U H'->lU h2 a T (.ref C) U .none->Inv X pins σ (upd H' a (mK a C U)) { s' with heap:=h2 }->
   (∀L:Heap,lU L a T (.ref C) U .none->(∀b o,b≠T->h2.get? b=some o->L.get? b=some o)->Inv X pins σ (upd H' a (mK a C U)) { s' with heap:=L })->Q () { s' with heap:=h2 }):
 wpAny (model X.prog X.w) X.A (noteFrame e X.env) (λ_ s2=>wpAny (model X.prog X.w) X.A (setFlight e none) Q E s2) E s':=by
 obtain⟨H,s,I,a,T,C,U,H',rfl,t,la,lT,na,nT,os,ab,un,ae,hE⟩:=h;have I':=I.call' (s':=s') (ch:=[]) os un ae ab (λb z=>absurd z (by simp));have ai:X.A.frames=some (X.env::X.outer):=by rw[<-ac];exact I.ok.frames
 have hl:s'.heap.FunFrames X.base (X.env::X.outer):=by rw[<-ac];exact I'.stack
 refine Fu ai hl ah t λh1 T1 aj k1 k2 an t1=>?_;refine uy (s:={ s' with heap:=h1 }) t1 λh2 t2 k3 ao=>?_
 have aa:∀b o,s'.heap.get? b=some o->b≠T1:=λb o e z=>by
  have L:=Q01 e;rw[z] at L;exact Q0p _ (Q0c L aj)
 have key:∀L:Heap,lU L a T1 (.ref C) U .none->(∀b o,b≠T1->h2.get? b=some o->L.get? b=some o)->Inv X pins σ (upd H' a (mK a C U)) { s' with heap:=L }:=λL t3 k4=>by
  have m1:∀b o,b ∉ frs X.stack->b≠a->b≠T->s'.heap.get? b=some o->L.get? b=some o:=λb o Y n1 n2 e=>
   k4 b o (aa b o e) (k3 b o (aa b o e) (k1 b o (by rw[<-ac];exact Y) n1 n2 e))
  have m2:∀b o,b≠a->b≠T->s'.heap.get? b=some o->∃sl,L.get? b=some { o with slots:=sl }:=λb o n1 n2 e=>by
   obtain⟨sl,e1⟩:=k2 b o n1 n2 e;exact⟨sl,k4 b _ (aa b o e) (k3 b _ (aa b o e) e1)⟩
  have J:∀b o,s.heap.get? b=some o->b≠a/\b≠T:=λb o e=>⟨(λz=>by rw[z,la] at e;cases e),λz=>by rw[z,lT] at e;cases e⟩;refine I.call' (s':={ s' with heap:=L }) (ch:=[]) os ⟨λb o e n Y _=>?_,λb o e n Y hx=>?_,λb o e n hx=>?_,λb o e hx=>?_,λb xs e=>?_,λb o u e=>?_,λb ps e=>?_⟩ (λb o e=>?_) ab (λb z=>absurd z (by simp))
  . exact m1 b o Y (J b o e).1 (J b o e).2 (un.keep b o e n Y (by simp))
  . obtain⟨sl,e1⟩:=un.slot b o e n Y hx;obtain⟨af,e2⟩:=m2 b _ (J b o e).1 (J b o e).2 e1;exact⟨af,e2⟩
  . rw[fV (J b o e).1];exact un.free b o e n hx
  . obtain⟨o',e1⟩:=un.there b o e hx;obtain⟨af,e2⟩:=m2 b _ (J b o e).1 (J b o e).2 e1;exact⟨_,e2⟩
  . have:=un.tups b xs e;rw[fV (gc this na)];exact this
  . have:=un.j3 b o u e;rw[fV (gc this na)];exact this
  . obtain⟨ag,this⟩:=un.km b ps e;exact⟨ag,by rw[fV (gc this na)];exact this⟩
  . by_cases Y:b=a
    . subst Y;rw[fZ] at e
      cases e;obtain⟨oe,vs,he,hc,ak,al,_⟩:=t3.ex;exact mK.ok ⟨oe,he,hc,ak,vs,al⟩
    . rw[fV Y] at e;refine(ae b o e).stay (λc u hc r=>?_) (λc r=>by rw[fV (gc r na)];exact r) λc xs r=>by rw[fV (gc r na)];exact r
      have am:∃v,H' c=some v:=by
       rcases hc with z|z
       . exact⟨o,by rw[z];exact e⟩
       . exact⟨_,z⟩
      obtain⟨v,hv⟩:=am;refine m1 c u (λz=>?_) (gc hv na) (gc hv nT) r;rw[I'.qQ c z] at hv;cases hv
 exact q a C T1 U H' h2 rfl na hE t2 (key h2 t2 λ_ _ _ e=>e) key
def MC (Ek:XK) (i:Nat) (tb J:TS):TS:=λD σ H=>tb D σ H/\∀(a C:Addr) (z:Option Addr) (H':Hp),H' a=none->Ek (.ref C) z H'->J (D.un i) (σ.set i (some (.ref a))) (upd H' a (mK a C z))
theorem Fx {X:Cx}{body:List Stmt}{x n:Str}{Dc:Addr}{Ek:XK}{i:Nat}{U:Stmt}{L:List Stmt}{np ab pos:Pos}{tb ts:TS}(ac:X.stack=X.env::X.outer)(ae:X.env.frame=some X.env.locals)
 (hb:Fv X Ek body tb) (hg:Gl X x) (hm:X.mg x=some (.ref Dc)) (h1:W.typeIn X.K (.ref Dc)=some (.type "type")) (h2:(W.clsIn X.K Dc).isSome=true) (h3:W.subIn X.K (.ref Dc) (.type "BaseException")=some true)
 (h4:∀C dd H,Ek (.ref C) dd H->W.subIn X.K (.ref C) (.ref Dc)=some true) (hN:X.N.Nodup) (hi:X.N[i]? =some n) (J:X.env.kindOf n=some .local) (hs:∀a,j4 (X.marked a) (U::L) ts) (hd:(x == ("__debug__":Str))=false:=by decide):
 PS X (.Try body [.ExceptHandler (some (.Name x np)) (some n) (U::L) ab] [] [] pos) (MC Ek i tb ts):=by
 intro pins s σ H D I h;obtain⟨hq,hk⟩:=h;refine wpAny_Try_except (Q0l (hb pins s σ H D I hq) (λf s1 q=>?_) λe s1 z=>?_)
 . cases f with
   |next=>exact wpAny_execs_nil q
   |ret v=>exact q
   |brk=>exact q
   |cont=>exact q
 . refine MA ac ae z λa C T dd H' ag e1 na hE t2 I2 key=>?_;subst e1;have ok:=I2.ok;refine wpAny_handleBy_cons (codeAny_handlers_test ?_) (by intro q;cases q);refine sS (X:=X.marked a) (I2.marked a) hg hm ?_ hd;obtain⟨oe,vs,he,hc,_⟩:=id t2.ex;refine KN I2.iQ h1 h2 h3 (h4 C dd H' hE) he hc ?_;simp only[if_true];refine codeAny_handlers_suite_as ?_;refine uy t2 λaf t3 k3 _=>?_;have I3:=key af t3 k3;refine qR I3 hN hi (.inl J) (show RelV (.ref a) (.ref a) from rfl) (λs4 I4=>?_) (.inr J);refine Q0l (hs a pins s4 _ _ (D.un i) (I4.marked a) (hk a C dd H' na hE)) (λf s5 q=>?_) λ_ _ z=>False.elim z;show wpAny _ _ _ _ _ _
   cases f with
   |next=>
    obtain⟨aa,H5,Y,q⟩:=q;exact(Y.unmarked ok).unbind hN hi J λs6 I6=>⟨_,_,I6,q⟩
   |ret v=>
    obtain⟨y,aa,H5,Y,r,q⟩:=q;exact(Y.unmarked ok).unbind hN hi J λs6 I6=>⟨y,_,_,I6,r,q⟩
   |brk=>
    obtain⟨aa,H5,Y,q⟩:=q;exact(Y.unmarked ok).unbind hN hi J λs6 I6=>⟨_,_,I6,q⟩
   |cont=>
    obtain⟨aa,H5,Y,q⟩:=q;exact(Y.unmarked ok).unbind hN hi J λs6 I6=>⟨_,_,I6,q⟩
noncomputable def nv (a C:Addr):HO:=.ext λh=>∃o t,h.get? a=some o/\o.cls=.ref C/\o.dict=none/\o.data=.fields #[t,.none,.none,.none,.bool false,.none]
noncomputable def MadeX (a C dx:Addr):HO:=.ext λh=>∃o t,h.get? a=some o/\o.cls=.ref C/\o.dict=some dx/\o.data=.fields #[t,.none,.none,.none,.bool false,.none]
theorem nv.ok {P:Program}{w:World}{H:Hp}{h:Heap}{a C:Addr}(e:∃o t,h.get? a=some o/\o.cls=.ref C/\o.dict=none/\o.data=.fields #[t,.none,.none,.none,.bool false,.none]):iN P w H h a (nv a C):=
 ⟨e,let⟨o,t,h1,_⟩:=e;⟨o,h1⟩,λ_ _ ⟨o,t,h1,h2⟩ k=>⟨o,t,k o h1,h2⟩⟩
theorem MadeX.ok {P:Program}{w:World}{H:Hp}{h:Heap}{a C dx:Addr}(e:∃o t,h.get? a=some o/\o.cls=.ref C/\o.dict=some dx/\o.data=.fields #[t,.none,.none,.none,.bool false,.none]):iN P w H h a (MadeX a C dx):=
 ⟨e,let⟨o,t,h1,_⟩:=e;⟨o,h1⟩,λ_ _ ⟨o,t,h1,h2⟩ k=>⟨o,t,k o h1,h2⟩⟩
noncomputable def rem (H:Hp) (a:Addr):Hp:=λb=>if b=a then none else H b
theorem xt {H:Hp}{a:Addr}:rem H a a=none:=if_pos rfl
theorem lz {H:Hp}{a b:Addr}(h:b≠a):rem H a b=H b:=if_neg h
section
variable {X:Cx}{pins:List (Addr × Obj)}{σ:St}{H:Hp}{s:Shared}
def MD (K:W.Frag) (ta tv:TE) (f:Str):TS:=λD σ H=>tv σ H λy H1=>ta σ H1 λx H2=>∃a C,x=.ref a/\H2 a=some (nv a C)/\og K C f/\
 ∀dx,H2 dx=none->dx≠a->D.nx σ (upd (upd H2 dx (.xd [(f,y)])) a (MadeX a C dx))
theorem Fy {o value:Expr}{ta tv:TE}{f:Str}{pos pos':Pos}(ha:PE X o ta)(hv:PE X value tv)(hs:swapsWith value (some (.Attribute o f pos')) pos.line X.env=pure false):PS X (.Assign [.Attribute o f pos'] value pos) (MD X.K ta tv f):=by
 intro pins s σ H D I h;refine plainObj_wpAny_Assign_Attribute (gy (hv pins s σ H _ I h) λu s1 ⟨y,H1,I1,ry,q⟩=>gy (ha pins s1 σ H1 _ I1 q) λov s2 zq=>?_) hs;obtain⟨x,H2,Y,rx,a,C,ex,L,Z,q2⟩:=zq;subst ex;obtain rfl:ov=Value.ref a:=rx;obtain⟨oe,t,he,hc,ab,aa⟩:=(Y.hok a _ L).1;refine Ms Y.iQ Z he hc ab aa λh' ac hn hx hk=>?_;have J:H2 s2.heap.objs.size=none:=Y.hok.fresh (Q00 _);have ae:s2.heap.objs.size≠a:=(Q08 (Q01 he)).symm
 have ag:∀b u,H2 b=some u->(∀C',u≠nv a C')->b≠a:=λb u e hu z=>by
  subst z;rw[L] at e;exact hu C (Option.some.inj e).symm
 refine⟨σ,_,Y.call' (s':={ s2 with heap:=h',toks:=ac }) (ch:=[]) rfl ⟨λb U e n hb _=>?_,λb U e n hb _=>?_,λb U e n _=>?_,λb U e _=>?_,λb xs e=>?_,λb U u e=>?_,λb ps e=>?_⟩ (λb u e=>?_) Y.bare (λb z=>absurd z (by simp)),q2 s2.heap.objs.size J ae⟩
 . exact hk b U (gc L n).symm e
 . exact⟨U.slots,hk b U (gc L n).symm e⟩
 . rw[fV (gc L n).symm,fV (Q08 (Q01 e))];exact n
 . by_cases hb:b=a
   . subst hb;exact⟨_,hx⟩
   . exact⟨U,hk b U hb e⟩
 . have h1:b≠a:=λz=>by rw[z,L] at e;cases e
   rw[fV h1,fV (gc e J)];exact e
 . have h1:b≠a:=λz=>by rw[z,L] at e;cases e
   rw[fV h1,fV (gc e J)];exact e
 . have h1:b≠a:=λz=>by rw[z,L] at e;cases e
   exact⟨#[],by rw[fV h1,fV (gc e J),Q25];exact e⟩
 . by_cases h1:b=a
   . subst h1;rw[fZ] at e
     cases e;exact MadeX.ok ⟨_,t,hx,hc,rfl,aa⟩
   . rw[fV h1] at e;by_cases h2:b=s2.heap.objs.size
     . subst h2;rw[fZ] at e
       cases e;refine⟨_,hn,λg=>?_⟩;by_cases hg:g=f
       . subst hg;rw[if_pos rfl];rw[Q16,beq_self_eq_true];exact ry
       . rw[if_neg hg];rw[Q16,beq_false_of_ne hg];trivial
     . rw[fV h2] at e;refine(Y.hok b u e).stay (λc v af r=>hk c v ?_ r) (λc r=>?_) λc xs r=>?_
       . rintro rfl;rcases af with z|z
         . exact h1 z.symm
         . rw[L] at z;cases z
       . have n1:c≠a:=λz=>by rw[z,L] at r;cases r
         rw[fV n1,fV (gc r J)];exact r
       . have n1:c≠a:=λz=>by rw[z,L] at r;cases r
         rw[fV n1,fV (gc r J)];exact r
theorem Inv.ME (I:Inv X pins σ H s){h':Heap}{e C:Addr}{us:List Value}(Y:Heap.MadeExcOf s.heap h' e (.ref C) us):H e=none/\Inv X pins σ (upd H e (nv e C)) { s with heap:=h' }:=by
 obtain⟨t,he,_,_⟩:=Y.there;have U:s.heap.get? e=none:=Y.new
 have na:H e=none:=by
  cases q:H e with
  |none=>rfl
  |some o=>
   obtain⟨o',e'⟩:=(I.hok e o q).ex;rw[U] at e';cases e'
 refine⟨na,I.call' (s':={ s with heap:=h' }) (ch:=[]) rfl ⟨λb L J n hb _=>Y.keeps b L J,λb L J n hb _=>⟨L.slots,Y.keeps b L J⟩,λb L J n _=>?_,λb L J _=>⟨L,Y.keeps b L J⟩,λb xs J=>?_,λb L u J=>?_,λb ps J=>?_⟩ (λb u J=>?_) I.bare (λb z=>absurd z (by simp))⟩
 . rw[fV (λz=>by rw[z,U] at J;cases J)];exact n
 . rw[fV (gc J na)];exact J
 . rw[fV (gc J na)];exact J
 . exact⟨#[],by rw[fV (gc J na),Q25];exact J⟩
 . by_cases hb:b=e
   . subst hb;rw[fZ] at J
     cases J;exact nv.ok ⟨_,_,he,rfl,rfl,rfl⟩
   . rw[fV hb] at J;refine(I.hok b u J).stay (λc v _ r=>Y.keeps c v r) (λc r=>?_) λc xs r=>?_
     . rw[fV (gc r na)];exact r
     . rw[fV (gc r na)];exact r
def Fz (X:Cx) (R:Addr->Addr->Hp->Prop):Prop:=∀(pins:List (Addr × Obj)) (σ:St) (H:Hp) (s:Shared) (a C dx:Addr),Inv X pins σ H s->X.s₀.heap.get? a=none->H a=some (MadeX a C dx)->R C dx (rem H a)->X.xe (.ref a) s
def MF (C:Addr) (sp:Sp) (R:Addr->Addr->Hp->Prop) (t:TA):TS:=λ_ σ H=>t σ H λvs H1=>vs.length<=sizeLine/\∀a,H1 a=none->sp (.ref a::vs) (upd H1 a (nv a C)) (λv H2=>v=.non/\∃dx,H2 a=some (MadeX a C dx)/\R C dx (rem H2 a)) E0
theorem FC {x:Str}{C f:Addr}{fd:FuncData}{ps:List Str}{sp:Sp}{k:Nat}{B nid uw:String}{kD:List Value}{e:Expr}{es:List Expr}{p cpos pos:Pos}{t:TA}{R:Addr->Addr->Hp->Prop}(hex:X.ex=[])(Z:n_ X.base C f kD nid)(FB:ExcBaseFacts B nid uw kD)(ah:W.keepIn X.K (.ref C)=true)
 (F:e_ X.prog X.w X.K X.mg X.base fW k f fd ps sp) (hr:ie (k+1) X.A) (ai:X.calm=true) (hg:Gl X x) (hm:X.mg x=some (.ref C)) (hb:Binds X.K fd ps []) (hx:Fz X R)
 (ha:PA X (e::es) t) (aj:(x == ("__debug__":Str))=false:=by decide) (he:starEach (e::es) X.env=(false,eval e X.env)::starEach es X.env:=by rfl) (ak:(backTo cpos (starEach es X.env)).any (·.1)=false:=by rfl):
 PS X (.Raise (some (.Call (.Name x p) (e::es) [] cpos)) none pos) (MF C sp R t):=by
 intro pins s σ H D I h;rw[arm_exec_Raise]
 have key:wpAny (model X.prog X.w) X.A (eval (.Call (.Name x p) (e::es) [] cpos) X.env) (λv s1=>∃(e C:Addr) (oe:Obj) (t:Value) (r:Array Value),v=.ref e/\s1.heap.get? e=some oe/\oe.cls=.ref C/\oe.data=.fields #[t,.none,.none,.none,.bool false,.none]/\
  (∃tl N nm q bs L sn sub ab Y dd k0 k1 k2 k3 k5 nid,s1.heap.get? C=some (excClassObj nm q C N bs tl L sn sub ab Y dd k0 k1 k2 k3 k5 nid)/\tl.contains (.type "BaseException")=true)/\X.xe (.ref e) s1) X.xe s:=by
  refine wpAny_Call_Name_kw (sS I hg hm ?_ aj);refine W.callWith_K (h₀:=X.base) I.ok.mod.oH ah (gy (ha cpos pins s σ H _ I h) λus s1 ⟨vs,H1,I1,r,hl,q⟩=>⟨I1.iQ,?_⟩) he ak;obtain⟨hp,g,d,tk,os⟩:=s1;refine Mp FB (Z.keeps I1.bk) (λh' U aa=>?_) (by show us.length<=sizeLine;rw[<-r.length];exact hl);have l0:X.s₀.heap.get? U=none:=I1.qf hex aa.new;obtain⟨na,I2⟩:=I1.ME aa;have hq:=q U na;have r2:Vals (V.ref U::vs) (Value.ref U::us):=.cons rfl r
  have af:(Value.ref U::us++[]).length=ps.length:=by
   rw[Q0v,<-r2.length];exact F.len _ _ _ _ hq
  have ac:=hb _ (Value.ref U::us) I2.iQ af;rw[Q0v] at ac;refine wpAny_call (codeAny_mono (F.run _ X.stack _ _ ⟨Value.ref U::us,[]⟩ (Value.ref U::us) _ _ E0 (hr.make C us []) (I2.env0.make C us []) ac r2 hq) λr' s' J=>?_)
  cases r' with
  |error e=>exact False.elim J
  |ok fl=>
   cases fl with
   |ret u=>
    obtain⟨v,H',I3,rv,ev,dx,ae,hR⟩:=I2.after J;subst ev;obtain⟨oe,t',al,am,an,ag⟩:=(I3.hok _ _ ae).1;obtain⟨tl,N,nm,q,bs,L,sn,sub,ab,Y,dd,k0,k1,k2,k3,k5,mN,oI,z1,z2,z3,z4,z5,z6⟩:=Z.keeps I3.bk;exact⟨rv,⟨U,C,oe,t',#[],rfl,al,am,ag,⟨tl,N,nm,q,bs,L,sn,sub,ab,Y,dd,k0,k1,k2,k3,k5,nid,z1,z4.hasType FB.hasBase⟩,hx pins σ H' s' U C dx I3 l0 ae hR⟩⟩
   |next=>exact False.elim J
   |brk=>exact False.elim J
   |cont=>exact False.elim J
 exact Q0 (wpAny_standAt (Mq (I.ok.hd ai) (Q0 (Q0l key (λv s1 q=>Q0 (wpAny_standAt (Q02 q))) λ_ _ z=>z))))
theorem Inv.MH (I:Inv X pins σ H s)(hex:X.ex=[]){a:Addr}{φ:Heap->Prop}(U:X.s₀.heap.get? a=none)(J:H a=some (.ext φ)):Un (frs X.outer) [] X.H₀ (rem H a) X.s₀.heap s.heap/\iG X.prog X.w (rem H a) s.heap:=by
 have B:=I.base;rw[hex] at B;refine⟨⟨B.keep,B.slot,λb o e n Y=>?_,B.there,λb xs e=>?_,λb o u e=>?_,λb ps e=>?_⟩,λb u e=>?_⟩
 . rw[lz (λz=>by rw[z,U] at e;cases e)];exact B.free b o e n Y
 . have:=B.tups b xs e;rw[lz (λz=>by rw[z,J] at this;cases this)];exact this
 . have:=B.j3 b o u e;rw[lz (λz=>by rw[z,J] at this;cases this)];exact this
 . obtain⟨L,this⟩:=B.km b ps e;exact⟨L,by rw[lz (λz=>by rw[z,J] at this;cases this)];exact this⟩
 . have nb:b≠a:=λz=>by rw[z,xt] at e;cases e
   rw[lz nb] at e;refine(I.hok b u e).stay (λc v _ r=>r) (λc r=>?_) λc xs r=>?_
   . rw[lz (λz=>by rw[z,J] at r;cases r)];exact r
   . rw[lz (λz=>by rw[z,J] at r;cases r)];exact r
end
theorem xu {H:Hp}{a b:Addr}(h:H b=none):rem H a b=none:=by
 unfold rem;split
 . rfl
 . exact h
theorem Inv.rem {X:Cx}{pins:List (Addr × Obj)}{σ:St}{H:Hp}{s:Shared}(I:Inv X pins σ H s)(hex:X.ex=[]){a:Addr}{Y:Heap->Prop}(J:X.s₀.heap.get? a=none)(L:H a=some (.ext Y)):Inv X pins σ (L2.rem H a) s:=by
 obtain⟨un,z⟩:=I.MH hex J L;refine⟨I.ok,I.os,I.bare,by rw[hex];exact un,I.loc,I.cell,xu I.free,λx c e=>xu (I.jY x c e),λp hp=>?_,z,I.len⟩;obtain⟨h1,h2,U⟩:=I.pin p hp;exact⟨h1,xu h2,U⟩
theorem FD {P:Program}{w:World}{K:W.Frag}{mg:Str->Option Value}{base:Heap}{N:List Str}{qual:Str}{scope:Scope}{f:Addr}{cd:Value}{A:Around}{outer:List Env}{s₀:Shared}{H₀:Hp}{E:XK}:
 Fz (gD (ki P w) P w K mg base N qual scope f cd A outer s₀ H₀ E) (λC dx H=>E (.ref C) (some dx) H):=λpins σ H s a C dx I L z hE=>by
 obtain⟨oe,t,he,hc,Y,aa⟩:=(I.hok a _ z).1;have U:=I.rem rfl L z;show wpAny (model P w) _ (leaving _ _) _ _ _;refine U.Mz rfl rfl rfl he hc Y aa rfl L xt λh2 T' t' ab ac ae J=>?_;exact⟨a,T',C,some dx,_,rfl,t',L,ab,xt,ac,U.os,U.bare,ae,J,hE⟩
section
variable {X:Cx}
def FE (K:W.Frag) (ta:TE) (f:Str):TE:=λσ H Q=>ta σ H λx H1=>∃a C dx fs v,x=.ref a/\H1 a=some (mK a C (some dx))/\H1 dx=some (.xd fs)/\qg K C/\og K C f/\fs.lookup f=some v/\Q v H1
theorem MI {e:Expr}{ta:TE}{f:Str}{pos:Pos}(he:PE X e ta)(hb:attributeBase e f X.env (eval e X.env)=eval e X.env):PE X (.Attribute e f pos) (FE X.K ta f):=by
 intro pins s σ H Q I h;refine CL hb (gy (he pins s σ H _ I h) λu s1 zq=>?_);obtain⟨x,H1,z,rx,a,C,dx,fs,v,ex,ea,ed,Z,Y,l,q⟩:=zq;subst ex;obtain rfl:u=Value.ref a:=rx;obtain⟨o,ho,hc,J,vs,L⟩:=(z.hok a _ ea).1;obtain⟨mA,hn,hr⟩:=z.hok dx _ ed;obtain⟨u',hu,U⟩:=jX.some_of (v:=v) (o:=mA f) (by rw[<-l];exact hr f);obtain⟨hp,g,d,tk,os⟩:=s1;exact Mw z.iQ Z Y ho hc L J hn.ns hu (W.handedOut_of (CK U)) ⟨v,H1,z.tok _,U,q⟩
end
section
variable {X:Cx}{k:Nat}{f C:Addr}{fd:FuncData}{ps:List Str}{sp:Sp}{Ek:XK}{m:Str}{p pos apos:Pos}{e o:Expr}{es:List Expr}{t:TA}{te ta:TE}
theorem MJ {pins:List (Addr × Obj)}{σ:St}{H:Hp}{s:Shared}{Q:VK}{us:List Value}{vs:List V}(F:e_ X.prog X.w X.K X.mg X.base (ki X.prog X.w) k f fd ps sp)(L:ie k X.A)(U:Binds X.K fd ps [])
 (I:Inv X pins σ H s) (r:Vals vs us) (h:sp vs H Q Ek):wpAny (model X.prog X.w) X.A (call (.ref f) us) (EP X pins σ Q) (rZ X pins σ Ek) s:=by
 have hl:(us++[]).length=ps.length:=by rw[Q0v,<-r.length];exact F.len _ _ _ _ h
 have J:=U s us I.iQ hl;rw[Q0v] at J;refine wpAny_call (codeAny_mono (F.run X.A X.stack s H ⟨us,[]⟩ us vs Q Ek L I.env0 J r h) λY s' z=>?_)
 cases Y with
 |error e=>exact⟨H,s,I,z⟩
 |ok fl=>
  cases fl with
  |ret u=>exact I.after z
  |next=>exact False.elim z
  |brk=>exact False.elim z
  |cont=>exact False.elim z
theorem MK (J:PE X.gE e te):r8 X Ek e te:=λpins s σ H Q I h=>
 Q0l (J pins s σ H Q (I.wish _) h) (λ_ _ ⟨v,H',L,r,q⟩=>⟨v,H',L.lE,r,q⟩) λ_ _ z=>False.elim z
def PAD (X:Cx) (Ek:XK) (es:List Expr) (t:TA):Prop:=
 ∀(pos:Pos) (pins:List (Addr × Obj)) (s:Shared) (σ:St) (H:Hp) (Q:List V->Hp->Prop),Inv X pins σ H s->t σ H Q->wpAny (model X.prog X.w) X.A (spliced (backTo pos (starEach es X.env))) (AP X pins σ Q) (rZ X pins σ Ek) s
theorem ML:PAD X Ek [] jT:=λ_ _ _ _ H Q I h=>Calls.spliced_nil ⟨[],H,I,.nil,h⟩
theorem FF (z:r8 X Ek e te)(J:PAD X Ek es t)(L:starEach (e::es) X.env=(false,eval e X.env)::starEach es X.env:=by rfl):PAD X Ek (e::es) (iO te t):=by
 intro pos pins s σ H Q I h;rw[L];show wpAny _ _ (spliced ((false,eval e X.env)::backTo pos (starEach es X.env))) _ _ s;refine Calls.spliced_cons (gy (z pins s σ H _ I h) λu U zq=>?_);obtain⟨x,H1,Y,r1,q1⟩:=zq;exact gy (J pos pins U σ H1 _ Y q1) λus s2 ⟨xs,H2,I2,r2,q2⟩=>⟨x::xs,H2,I2,.cons r1 r2,q2⟩
theorem MM {U:Nat}(h:PAD X Ek es t):r8 X Ek (.Tuple es U pos) (qY t):=by
 intro pins s σ H Q I Y;refine wpAny_Tuple_spliced (gy (h pos pins s σ H _ I Y) λus J ⟨xs,H1,L,r,z,q⟩=>⟨by rw[<-r.length];exact z,?_⟩);have hf:H1 J.heap.objs.size=none:=L.hok.fresh (Q00 _);exact⟨.ref J.heap.objs.size,upd H1 J.heap.objs.size (.tup xs),L.laid (t':=J.toks) (λb u e=>Q06 _ e) (Q00 _) ⟨z,us,r,⟨_,Q0h _ rfl,rfl,_,rfl⟩⟩,rfl,q _ hf⟩
theorem FG {pl:Sem Bool}(he:PE X.gE o ta)(c:Cls X.K C)(Y:Meth X.K C m f)(F:e_ X.prog X.w X.K X.mg X.base (ki X.prog X.w) k f fd ps sp)(hr:ie k X.A)(hb:Binds X.K fd ps [])(ha:PA X.gE (e::es) t)
 (L:starEach (e::es) X.env=(false,eval e X.env)::starEach es X.env:=by rfl) (U:(backTo pos (starEach es X.env)).any (·.1)=false:=by rfl)
 (ht:eval (.Call (.Attribute o m apos) (e::es) [] pos) X.env=(do
   let ov <-eval o X.env
   standAt apos.atName
   let(f,first) <-holding [ov] (getMethod ov m pl)
   callWith pos f first (backTo pos (starEach (e::es) X.env)) (backToKw pos (keywordEach [] X.env))):=by rfl):
 r8 X Ek (.Call (.Attribute o m apos) (e::es) [] pos) (vD C m sp [] Ek ta t):=by
 intro pins s σ H Q I h;refine W.methodCall_KW (pl:=pl) (Q0l (he pins s σ H _ (I.wish _) h) (λu s1 zq=>?_) λ_ _ z=>False.elim z) ht;obtain⟨x,H1,J,rx,a,dx,fs,ex,ea,l,q⟩:=zq;subst ex;obtain rfl:u=Value.ref a:=rx;have J:=J.lE;refine vA J ea c Y l ?_;refine W.callWith_K (first:=[.ref a]) (h₀:=X.base) I.ok.mod.oH Y.kp (Q0l (ha pos pins s1 σ H1 _ (J.wish _) q) (λus s2 ⟨vs,H2,I2,r,q2⟩=>⟨I2.lE.iQ,?_⟩) λ_ _ z=>False.elim z) L U;exact MJ (us:=.ref a::us) (vs:=.ref a::(vs++[])) F hr hb I2.lE (.cons rfl (by rw[Q0v];exact r)) q2
end
noncomputable def hk (l:List Key) (q:Key):Bool:=l.any λx=>decide (x=q)
noncomputable def stepK (l:List Key) (k:Key):List Key:=if hk l k=true then l else l++[k]
theorem FH {prog:Program}{w:World}{h:Heap}{a:Addr}{S z:Key->Bool}{n J:Nat}(L:h.SetOf (iW prog w) a S n)(e:∀k,S k=z k)(U:n=J):h.SetOf (iW prog w) a z J:=by
 obtain rfl:S=z:=funext e;subst U;exact L
noncomputable def jB (v:Nat->Key):Nat->List Key
 |0=>[]
 |i+1=>stepK (jB v i) (v i)
theorem FI (v:Nat->Key):∀i,(jB v i).length<=i
 |0=>Q00 _
 |i+1=>by
  have:=FI v i;show(stepK (jB v i) (v i)).length<=i+1;unfold stepK;split
  . omega
  . rw[Q0a];exact Q3o this
theorem MO (l m:List Key)(q:Key):hk (l++m) q=(hk l q || hk m q):=List.any_append
theorem MP (l:List Key)(k q:Key):hk (stepK l k) q=(hk l q || decide (q=k)):=by
 unfold stepK;split
 . rename_i h;by_cases e:q=k
   . subst e;rw[h];rfl
   . rw[decide_eq_false e,Bool.or_false]
 . rw[MO]
   have:hk [k] q=decide (q=k):=by
    show(decide (k=q) || false)=_;rw[Bool.or_false];by_cases e:q=k
    . subst e;rfl
    . rw[decide_eq_false e,decide_eq_false λz=>e z.symm]
   rw[this]
theorem MQ (l:List Key)(k:Key):(stepK l k).length=if hk l k=true then l.length else l.length+1:=by
 unfold stepK;split
 . rfl
 . rw[Q0a];rfl
theorem MR {l:List Key}{q:Key}:hk l q=true↔q∈l:=by
 unfold hk;rw[List.any_eq_true];constructor
 . rintro⟨x,h1,h2⟩;rw[<-of_decide_eq_true h2];exact h1
 . intro h;exact⟨q,h,decide_eq_true rfl⟩
theorem FJ {v:Nat->Key}:∀{i:Nat},((List.range i).map v).Nodup->jB v i=(List.range i).map v
 |0,_=>rfl
 |i+1,h=>by
  rw[Q3h,Q0i] at h ⊢;obtain⟨h1,h2,J⟩:=List.nodup_append.mp h;show stepK (jB v i) (v i)=_;rw[FJ h1];unfold stepK;rw[if_neg]
  . rfl
  . intro z;exact J _ (MR.mp z) (v i) (List.mem_singleton.mpr rfl) rfl
section
variable {prog:Program}{w:World}{A:Around}{R:Result->Shared->Prop}{I:Addr}{fp wr:List Addr}{G:Array GenState->Array GenState->Prop}{n:Nat}{Pp:Nat->Value->Prop}{St':Nat->Shared->Prop}
theorem MS (W:WalksS prog w A.in1 I fp wr G n Pp St')(S:Addr)(sf:S ∉ fp)(v:Nat->Key)(hv:∀i u,Pp i u->(iW prog w).is (v i) u=true/\u.scannable=true)(bd:n+1<scanBound):
 ∀(k i:Nat) (s:Shared),n - i=k->i<=n->St' i s->s.heap.SetOf (iW prog w) S (λq=>hk (jB v i) q) (jB v i).length->
  (∀s',Moved (S::wr) G s s'->s'.heap.SetOf (iW prog w) S (λq=>hk (jB v n) q) (jB v n).length->R (.ok (.ret .none)) s')->
  codeAny (model prog w) A (.builtin "set.update.loop" ⟨[.ref S,.ref I],[]⟩) R s:=by
 have sw:S ∉ wr:=λz=>sf (W.sub _ z);have up:∀b∈wr,b∈S::wr:=λb z=>Q0d _ z;intro k
 induction k with
 |zero=>
  intro i s e1 e2 st Y fin;obtain rfl:i=n:=by omega
  refine codeAny_builtin PyProof.Rows.F.entry_set_update_loop ?_;rw[Around.under_plainId PyProof.Rows.F.plain_set_update_loop _];show wpAny _ A.in1 (pyNext (.ref I) >>= _) _ _ s;refine Q0 (W.done s _ _ st λs' L=>?_);show wpAny _ A.in1 (ret Value.none) _ _ s';obtain⟨o,es,ep,t,ho,J⟩:=Y;exact Q02 (fin s' (L.mono up) ⟨o,es,ep,t,L.heap S _ sw ho,J⟩)
 |succ k ih=>
  intro i s e1 e2 st Y fin;have lt:i<n:=by omega
  refine codeAny_builtin PyProof.Rows.F.entry_set_update_loop ?_;rw[Around.under_plainId PyProof.Rows.F.plain_set_update_loop _];show wpAny _ A.in1 (pyNext (.ref I) >>= _) _ _ s;refine Q0 (W.item i s _ _ lt st λu s' hP aa L=>?_);obtain⟨is,sc⟩:=hv i u hP
  have ab:s'.heap.SetOf (iW prog w) S (λq=>hk (jB v i) q) (jB v i).length:=by
   obtain⟨o,es,ep,tb,ho,J⟩:=Y;exact⟨o,es,ep,tb,L.heap S _ sw ho,J⟩
  show wpAny _ A.in1 (holding [u] (setAdd S u) >>= _) _ _ s';refine Q0 (wpAny_holding ?_);unfold setAdd;refine wpAny_holding (Q0 ((iW prog w).pyHash (k:=v i) is ?_));have U:(jB v i).length+1<scanBound:=by have:=FI v i;omega
  refine wpAny_setAddHashed_of (knd:=iW prog w) (s:={ s' with toks:=s'.toks+1 }) is sc ab U λh' sb ac=>?_
  have ae:h'.SetOf (iW prog w) S (λq=>hk (jB v (i+1)) q) (jB v (i+1)).length:=
   FH ac (λq=>(MP _ _ _).symm) (MQ _ _).symm
  refine Q02 ⟨plainId_quiet PyProof.Rows.F.plain_set_update_loop _,ih (i+1) _ (by omega) lt (W.frame _ s' _ _ aa (Q1 _) λb hb o e=>?_) ae λaf ag ah=>?_⟩
  . rw[sb.2 b (λz:b=S=>sf (by rw[<-z];exact hb))];exact e
  . refine fin af (Moved.trans W.gtrans ((L.mono up).then_heap (Q1 _) λb o hb e=>?_) ag) ah;rw[sb.2 b (λz:b=S=>hb (by rw[z];exact Q05))];exact e
end
theorem MT:LawfulBEq Key where
 eq_of_beq:=by
  intro a b h
  cases a <;> cases b
  . exact congrArg Sum.inl (eq_of_beq (α:=Int) h)
  . cases h
  . cases h
  . exact congrArg Sum.inr (eq_of_beq (α:=Str) h)
 rfl:=by
  intro a
  cases a
  . exact BEq.rfl (α:=Int)
  . exact BEq.rfl (α:=Str)
theorem MU {prog:Program}{w:World}{A:Around}{E:Value->Shared->Prop}{s:Shared}{l:Addr}{z:Array Value}{v:Nat->Key}{Q:Value->Shared->Prop}(ah:A.handled=none)(il:s.heap.IsList l z)
 (hv:∀(i:Nat) (u:Value),z[i]? =some u->(iW prog w).is (v i) u=true/\u.scannable=true) (bd:z.size+1<scanBound)
 (q:∀(h':Heap) (tk:Nat),h'.SetOf (iW prog w) s.heap.objs.size (λk=>hk (jB v z.size) k) (jB v z.size).length->(∀b o,b<s.heap.objs.size->s.heap.get? b=some o->h'.get? b=some o)->Q (.ref s.heap.objs.size) { s with heap:=h',toks:=tk }):
 wpAny (model prog w) A (call (.type "set") [.ref l]) Q E s:=by
 obtain⟨c,tl,an⟩:=PySem.F.called_set.mro;have made:=PySem.F.called_set.made;have sub:=PySem.F.called_set.sub;refine wpAny_call (codeAny_of_tree ?_);show wpAny _ _ (callAny (.type "set") _) _ _ _;refine Q02 ⟨Code.quiet_builtin _ (by decide +kernel),codeAny_builtin PySem.F.entry_type_call ?_⟩;rw[Around.under_plain (weight_type_call_type "set" [.ref l] []) rfl];have n1:=PySem.F.called_set.notType;have n2:=PySem.F.called_set.canCreate;have ct:=PySem.F.typeCall_set_1 (.ref l)
 repeat (any_goals (first|assumption|wp_step))
 refine codeAny_mono (code_set_new_1 (.ref l) (E:=E) (Q₁:=λob s1=>∃ld:Bool,ob=.ref s.heap.objs.size/\s1={ s with heap:=s.heap.push { cls:=.type "set",dict:=none,data:=.set #[] 0 (.fresh 0 0 ld) } }) λld=>⟨ld,rfl,rfl⟩) λr s1 hr=>?_
 cases r with
 |error e=>exact hr
 |ok fl=>
  cases fl with
  |ret ob=>
   obtain⟨ld,rfl,rfl⟩:=hr;have gS:(s.heap.push { cls:=.type "set",dict:=none,data:=.set #[] 0 (.fresh 0 0 ld) }).get? s.heap.objs.size=some { cls:=.type "set",dict:=none,data:=.set #[] 0 (.fresh 0 0 ld) }:=Q0h _ rfl;have ty:Shared.TypeIs { s with heap:=s.heap.push { cls:=.type "set",dict:=none,data:=.set #[] 0 (.fresh 0 0 ld) } } (.ref s.heap.objs.size) "set":=⟨_,gS,rfl⟩;have li:=PySem.F.called_set.init.lookup;have bi:=PySem.F.called_set.init.bind (.ref s.heap.objs.size)
   repeat (any_goals (first|assumption|wp_step))
   refine codeAny_mono (codeAny_call_builtin (R:=wants (λr s2=>r=.none/\∃h' tk,s2={ s with heap:=h',toks:=tk }/\h'.SetOf (iW prog w) s.heap.objs.size (λk=>hk (jB v z.size) k) (jB v z.size).length/\
    (∀b o,b<s.heap.objs.size->s.heap.get? b=some o->h'.get? b=some o)) E) PySem.F.called_set.init.plain PySem.F.entry_set_init (check_set_init_1 ty ?_)) λr2 s2 J=>?_
   . obtain⟨ol,U,L,nl,dl⟩:=il;obtain⟨oc,od,ac,ae⟩:=ol;have L:oc=.type "list":=L;have dl:ac=.seq z nl:=dl;subst L;subst dl;have ab:(s.heap.push { cls:=.type "set",dict:=none,data:=.set #[] 0 (.fresh 0 0 ld) }).get? l=some { cls:=.type "list",dict:=od,data:=.seq z nl,slots:=ae }:=Q06 _ U;have ao:=PySem.F.sub_list_set;have ap:=PySem.F.sub_list_frozenset;have nd:(Value.type "list" == Value.type "dict")=false:=by decide
     have Y:(s.heap.push { cls:=.type "set",dict:=none,data:=.set #[] 0 (.fresh 0 0 ld) }).IsList l z:=⟨_,ab,rfl,nl,rfl⟩;unfold Builtin.«set.__init__» noKeywords Builtin.Frozenset.updateFrom;generalize af:pyIter=PI
     wp_walk
     subst af;refine wpAny_pyIter_list Y ?_;refine Q0 (wpAny_runValue ?_);have aa:l<s.heap.objs.size:=Q01 U;have ag:A.in1.in1.in1.handled=none:=by simp[ah]
     have ai:l≠(s.heap.push { cls:=.type "set",dict:=none,data:=.set #[] 0 (.fresh 0 0 ld) }).objs.size:=by rw[Q11];exact Q08 (Q2l aa)
     have aj:s.heap.objs.size ∉ [(s.heap.push { cls:=.type "set",dict:=none,data:=.set #[] 0 (.fresh 0 0 ld) }).objs.size,l]:=by
      rw[Q11];simp only[Q0x,Q20,Q1r,or_false,not_or];exact⟨Q08 (Q12 _),Q0u aa⟩
     refine MS ((Walks.list ag _ l ai z).toS) s.heap.objs.size aj v hv bd (z.size - 0) 0 _ (by omega) (Q0g _) ⟨⟨_,Q0h _ rfl,rfl,rfl⟩,(Y.push _)⟩ ?sA ?sB
     case sA=>
      have g2:((s.heap.push { cls:=.type "set",dict:=none,data:=.set #[] 0 (.fresh 0 0 ld) }).push { cls:=.type "list_iterator",data:=.fields #[.ref l,.int 0 0] }).get? s.heap.objs.size=some { cls:=.type "set",dict:=none,data:=.set #[] 0 (.fresh 0 0 ld) }:=Q06 _ gS;haveI:=MT;refine FH (Obj.SetObjOf.setOf (knd:=iW prog w) (setObjOf_fresh ld) g2 (by unfold scanBound;omega)) (λ_=>rfl) rfl
     case sB=>
      intro s' mv so;obtain⟨h',g',d',ak,al⟩:=s';have eg:g'=s.gens:=mv.gens;have ed:d'=s.drawn:=mv.drawn;have eo:al=s.os:=mv.os;subst eg;subst ed;subst eo;show wpAny _ _ _ _ _ _;refine Q02 ?_;show wpAny _ _ (ret Value.none) _ _ _;refine Q02 ⟨rfl,h',ak,rfl,so,λb o hb e=>?_⟩;have b1:b≠s.heap.objs.size:=Q08 hb;have b2:b≠(s.heap.push { cls:=.type "set",dict:=none,data:=.set #[] 0 (.fresh 0 0 ld) }).objs.size:=by rw[Q11];exact Q08 (Q2l hb)
      exact mv.heap b o (by simp only[Q0x,Q20,Q1r,or_false,not_or];exact⟨b1,b2⟩) (Q06 _ (Q06 _ e))
   . cases r2 with
     |error e=>exact J
     |ok am=>
      cases am with
      |ret r=>
       obtain⟨rfl,h',tk,rfl,so,kp⟩:=J
       repeat (any_goals (first|assumption|wp_step))
       exact q _ _ so kp
      |_=>exact J.elim
  |_=>exact hr.elim
noncomputable def uz (P:Program) (w:World) (a:Addr) (n:Nat):HO:=.ext λh=>∃S,h.SetOf (iW P w) a S n
section
variable {X:Cx}
theorem MV (hc:X.calm=true):kI X (.type "set") (λxs H Q=>∃(a:Addr) (ss:List Str),xs=[.ref a]/\fY X.K H a (ss.map V.str)/\ss.length<=60/\∀p,H p=none->Q (.ref p) (upd H p (uz X.prog X.w p (jB (λi=>Sum.inr (ss.getD i "")) ss.length).length))):=by
 intro pins s σ H xs us Q I r h;obtain⟨a,ss,rfl,hq,ac,q⟩:=h;obtain⟨u,rfl,ru⟩:=vals1 r
 cases ru;obtain⟨z,rv,pl,hz⟩:=I.list hq;have hl:z.length=ss.length:=by rw[<-rv.length,Q04]
 have hsz:z.toArray.size=ss.length:=by rw[Q07];exact hl
 refine MU (v:=λi=>Sum.inr (ss.getD i "")) (I.ok.hd hc) pl.isList (λi u hu=>?_) (by rw[hsz];unfold scanBound;omega) λh' tk so kp=>?_
 . have hi:i<ss.length:=by
    have:=(Array.getElem?_eq_some_iff.mp hu).1;rw[hsz] at this;exact this
   have h1:(ss.map V.str)[i]? =some (V.str (ss.getD i "")):=by
    rw[Q0f,Q0e,Q03 hi];rfl
   obtain⟨u',e1,t,e2⟩:=rv.get h1
   have:u=u':=by
    have L:z.toArray[i]? =some u:=hu;rw[List.getElem?_toArray,e1] at L;exact(Option.some.inj L).symm
   subst this;subst e2;exact⟨Cm _ t,rfl⟩
 . rw[hsz] at so;obtain⟨o,es,ep,t,ho,U⟩:=so;refine⟨.ref s.heap.objs.size,_,I.laid (h':=h') (t':=tk) (λb u e=>kp b u (Q01 e) e) (Q00 _) ?_,rfl,q _ (I.hok.fresh (Q00 _))⟩;exact⟨⟨_,o,es,ep,t,ho,U⟩,⟨o,ho⟩,λh1 h2 ⟨S,o',Y,aa,t',ab,J⟩ k=>⟨S,o',Y,aa,t',k _ ab,J⟩⟩
theorem MX:kI X (.builtin "len") (λxs H Q=>∃a n,xs=[.ref a]/\H a=some (uz X.prog X.w a n)/\Q (.int n) H):=by
 intro pins s σ H xs us Q I r h;obtain⟨a,n,rfl,J,q⟩:=h;obtain⟨u,rfl,L⟩:=vals1 r
 cases L;obtain⟨S,o,es,ep,t,U,hex,Y,aa,z,hb,hf,hn⟩:=(I.hok a _ J).1;refine call_len_set U hex Y hf (by unfold scanBound at hb;omega) ⟨.int n,H,I.tok _,⟨_,by rw[hn]⟩,q⟩
end
section
variable {prog:Program}{w:World}{A:Around}{E:Value->Shared->Prop}{s:Shared}
end
section
variable {X:Cx}
end
end L2
namespace Pb
open L2
end Pb
namespace L2
open Spec PyProof.Rows
section
variable {X:Cx}
theorem xv:kI X (.type "dict") (λxs H Q=>∃a kvs,xs=[.ref a]/\H a=some (.dK kvs)/\∀l,H l=none->Q (.ref l) (upd H l (.dK kvs))):=by
 intro pins s σ H xs us Q I r h;obtain⟨a,kvs,rfl,L,q⟩:=h;obtain⟨u,rfl,U⟩:=vals1 r
 cases U;obtain⟨z,Y,vs,J,dd⟩:=tG I.hok L;refine kt_call_dict Y dd (by rw[<-J.length];exact z) λh' hd hs=>?_;have hb:(s.heap.objs.size == sysModules)=false:=beq_eq_false_iff_ne.mpr (Q0u I.big);refine⟨.ref s.heap.objs.size,_,I.laid (a:=s.heap.objs.size) (o:=.dK kvs) (t':=s.toks) (λb o e=>?_) (Q00 _) ⟨z,hb,vs,J,hd⟩,rfl,q _ (I.hok.fresh (Q00 _))⟩;exact hs.extBut b o (Q08 (Q01 e)) (Q06 _ e)
end
noncomputable def mj (kvs z:List (Key × V)):List (Key × V):=z.foldl (λJ L=>putK J L.1 L.2) kvs
theorem KV.puts:∀{z:List (Key × V)}{J:List (Key × Value)},KV z J->∀{kvs:List (Key × V)}{vs:List (Key × Value)},KV kvs vs->KV (mj kvs z) (merged vs J)
 |_,_,.nil,_,_,r=>r
 |_,_,.cons (a:=p) (b:=q) h t,kvs,vs,r=>by
  obtain⟨h1,h2⟩:=h;have:=KV.puts t (r.put p.1 h2);unfold mj merged at this ⊢;rw[Q1z,Q1z,<-h1];exact this
theorem MY (kvs:List (Key × V))(k:Key)(v:V):(putK kvs k v).length<=kvs.length+1:=by
 unfold putK;split
 . rw[Q04];omega
 . rw[Q0a];exact Q00 _
theorem FL:∀(z kvs:List (Key × V)),(mj kvs z).length<=kvs.length+z.length
 |[],kvs=>Q00 _
 |p::r,kvs=>by
  have:=FL r (putK kvs p.1 p.2);have h2:=MY kvs p.1 p.2;have e:mj kvs (p::r)=mj (putK kvs p.1 p.2) r:=rfl;rw[e,Q0j];omega
section
variable {X:Cx}
def MZ:V->List V->Hp->VK->Prop:=λx vs H Q=>∃a b kvs z,x=.ref a/\vs=[.ref b]/\a≠b/\H a=some (.dK kvs)/\H b=some (.dK z)/\kvs.length+z.length<=sizeLine/\Q .non (upd H a (.dK (mj kvs z)))
theorem M0:vL X "dict.update" MZ:=by
 intro pins s σ H x vs v us Q I rx rv h;obtain⟨a,b,kvs,Y,rfl,rfl,ne,hA,hB,hz,q⟩:=h;obtain⟨u,rfl,ru⟩:=vals1 rv
 cases rx
 cases ru;obtain⟨z,hd,wa,L,dd⟩:=tG I.hok hA;obtain⟨z2,aa,wb,J,ab⟩:=tG I.hok hB;refine call_meetsIn PySem.F.slot_dict_update dd.typeIs PySem.F.entry_dict_update (PySem.F.args_dict_update_2 _ _) (meets_dict_update (iW X.prog X.w) a b ne aa) ⟨wa,wb,dd,ab,by rw[<-L.length,<-J.length];exact hz,λh' U _ hs=>?_⟩;have he:∃q,h'.get? a=some q:=let⟨q,_,_,hq,_⟩:=U;⟨q,hq⟩
 exact⟨.non,_,vO (t':=s.toks) I (by rw[hA];exact True.intro) hs he (Dh (Q0b (FL Y kvs) hz) hd (J.puts L) U),rfl,q⟩
end
end L2
namespace Pb
open L2 PyProof.Rows
noncomputable def M1 (st:Stmt):Pos:=match i3 st with
 | .Assign _ (.Call _ [.Call _ _ [⟨_,.Lambda _ _ _ z,_⟩] _] _ _) _::_=>z
 |_=>⟨0,0,0,0⟩
noncomputable abbrev jk:Pos:=M1 (top 7)
noncomputable abbrev jl:Str:=("sorted_fields":Str)++".<locals>."++"<lambda>"
abbrev iK (Pt:Addr) (H H':Hp):Prop:=Kp (λc=>c=Pt) H H'
theorem iK.tu {Pt:Addr}{H H':Hp}{J:Pos}{L:Str}(x:iK Pt H H')(hT:gz Pt J L H):Tu H H':=λc xs h=>by
 obtain⟨ps,U⟩:=hT.tab;exact x c _ (jz h U (by intro z;cases z)) h
def FN (K:W.Frag) (Pt:Addr):Sp:=λvs H Q E=>∃l z J,vs=[.ref l]/\fY K H l (gm z)/\jf H z/\z.length<=13/\gz Pt jk jl H/\J.Perm z/\(nms J).Nodup/\(nms J).Pairwise sle/\
 (∀t H',iK Pt H H'->gz Pt jk jl H'->H' t=some (.tup (gm J))->Q (.ref t) H')
def uA (K:W.Frag) (Pt:Addr):Sp:=λvs H Q E=>∃l z J,vs=[.ref l]/\fY K H l (gm z)/\jf H z/\z.length<=13/\gz Pt jk jl H/\J.Perm z/\(nms J).Nodup/\(nms J).Pairwise sle/\
 (∀r t H',iK Pt H H'->gz Pt jk jl H'->H' t=some (.tup (gm J))->H' r=some (.tup [.str "record",.ref t])->Q (.ref r) H')
theorem FO {z:List Qd}{i:Nat}{v:V}(h:(gm z)[i]? =some v):∃q,z[i]? =some q/\q.1=v:=by
 have h:(z.map (·.1))[i]? =some v:=h;rw[Q0f] at h
 cases e:z[i]? with
 |none=>rw[e] at h;cases h
 |some q=>rw[e] at h;exact⟨q,rfl,Option.some.inj h⟩
theorem kE (z:List Qd):(gm z).length=z.length:=Q04 _
theorem qE (z:List Qd):(nms z).length=z.length:=Q04 _
noncomputable def q0:Qd:=(.non,"",false)
theorem FP (z:List Qd)(p:List Nat):gm (p.map λi=>z.getD i q0)=p.map λi=>(gm z).getD i .non:=by
 unfold gm;rw[Q0z];refine Q1i λi _=>?_;show(z.getD i q0).1=_;rw[Q0e,Q0e,Q0f]
 cases z[i]? <;> rfl
theorem FQ (z:List Qd){p:List Nat}(h:p.Perm (List.range z.length)):(p.map λi=>z.getD i q0).Perm z:=by
 have:=h.map λi=>z.getD i q0;rw[DS] at this;exact this
theorem r_ {x:Str}{ss:List Str}:inV (.str x) (ss.map V.str)=decide (x∈ss):=by
 unfold inV;rw[Q2q];have:∀y:Str,((λy=>m9 y (V.str x)) ∘ V.str) y=decide (y=x):=λy=>rfl
 induction ss with
 |nil=>rfl
 |cons y r J=>
  rw[Q1f,J,this];by_cases e:y=x
  . rw[decide_eq_true e,decide_eq_true (show x∈y::r by rw[e];exact Q05)];rfl
  . rw[decide_eq_false e];by_cases h:x∈r
    . rw[decide_eq_true h,decide_eq_true (Q0d _ h)];rfl
    . rw[decide_eq_false h,decide_eq_false λz=>(List.mem_cons.mp z).elim (λz=>e z.symm) h];rfl
theorem se:∀{ss:List Str},(ss.map V.str).all m8=true
 |[]=>rfl
 |x::r=>by rw[Q0q,Q2f,se];rfl
noncomputable def Fs.f_ (ss:List Str):Fs->Fs
 | .nil=>.nil
 | .cons x k r=>if x∈ss then .cons x k (r.f_ ss) else r.f_ ss
noncomputable def iZ (ss:List Str) (xs:List V) (ns:List Str):List V:=((xs.zip ns).filter λq=>decide (q.2∈ss)).map (·.1)
theorem FA.few {H:Hp}{ss:List Str}:∀{xs:List V}(fs:Fs),FA H xs fs->FA H (iZ ss xs fs.names) (fs.f_ ss)
 |xs,.nil,h=>by
  unfold FA at h;subst h;show FA H [] .nil;unfold FA;rfl
 |xs,.cons x k r,h=>by
  unfold FA at h;obtain⟨c,u,J,rfl,h1,h2,L⟩:=h;have z:=FA.few (ss:=ss) r L;show FA H (iZ ss (.ref c::J) (x::r.names)) (if x∈ss then .cons x k (r.f_ ss) else r.f_ ss);unfold iZ;rw[Q2n,Q24];by_cases e:x∈ss
  . rw[if_pos e,if_pos (decide_eq_true e),Q0q];unfold FA;exact⟨c,u,_,rfl,h1,h2,z⟩
  . rw[if_neg e,if_neg (by rw[decide_eq_false e];decide)];exact z
theorem Fs.jx (ss:List Str):∀fs:Fs,(fs.f_ ss).names=fs.names.filter λx=>decide (x∈ss)
 | .nil=>rfl
 | .cons x k r=>by
   show(if x∈ss then Fs.cons x k (r.f_ ss) else r.f_ ss).names=(x::r.names).filter _;rw[Q24];by_cases e:x∈ss
   . rw[if_pos e,if_pos (decide_eq_true e)];show x::(r.f_ ss).names=_;rw[Fs.jx ss r]
   . rw[if_neg e,if_neg (by rw[decide_eq_false e];decide)];exact Fs.jx ss r
theorem Fs.sg (ss:List Str):∀{fs:Fs}{x:Str},(fs.f_ ss).get x=if x∈ss then fs.get x else none
 | .nil,x=>by
   show none=_;split <;> rfl
 | .cons y k r,x=>by
   have J:=Fs.sg ss (fs:=r) (x:=x);show(if y∈ss then Fs.cons y k (r.f_ ss) else r.f_ ss).get x=if x∈ss then(if x=y then some k else r.get x) else none
   by_cases e:y∈ss
   . rw[if_pos e];show(if x=y then some k else(r.f_ ss).get x)=_;by_cases z:x=y
     . rw[if_pos z,if_pos (by rw[z];exact e),if_pos z]
     . rw[if_neg z,J,if_neg z]
   . rw[if_neg e,J];by_cases z:x∈ss
     . rw[if_pos z,if_pos z,if_neg λq=>e (by rw[<-q];exact z)]
     . rw[if_neg z,if_neg z]
theorem Fs.oh (ss:List Str):∀{fs:Fs},fs.W->(fs.f_ ss).W
 | .nil,h=>h
 | .cons y k r,h=>by
   unfold Fs.W at h;show(if y∈ss then Fs.cons y k (r.f_ ss) else r.f_ ss).W;split
   . unfold Fs.W;exact⟨h.1,Fs.oh ss h.2⟩
   . exact Fs.oh ss h.2
structure Dm (K:W.Frag) (x qual:Str) (ps:List Str) (st:Stmt) (f:Addr) (fd:FuncData):Prop where
 F:l8 K x qual st f fd
 b:Binds K fd ps []
variable {P:Program}{w:World}{K:W.Frag}{mg:Str->Option Value}{base:Heap}
theorem FT:gM ["pairs","fields","number","name"] ["pairs"] (gn (top 7)):=gT
theorem M2 {Pt c:Addr}(T:Tb mg)(U:Dn K mg "sorted_fields" mh (top 7) Y J)(ae:J.code=.ref c)(av:W.CodeHd base c Pt)(aw:BM mg base):e_ P w K mg base fW (8) Y J mh (FN K Pt):=by
 refine U.F.rF ae FT (λvs H Q E h=>?_) (λA outer s H vs Q E hr h=>?_)
 . obtain⟨l,qs,L,rfl,_⟩:=h;rfl
 obtain⟨l,qs,L,rfl,hl,hp,ag,hT,ab,ah,ax,q1⟩:=h;have nd:=FT.nd;have hu:=tH hr
 refine⟨_,(fT (gv 1 nd (jZ o6 (by rfl) T.lJ boot_tuple (a_ (KQ (te:=(iC (jq K) (gR 0) (tC (.int 0)))) (x:="pair") (N':=["","","",""]) rfl T.px boot_sorted hr rfl rfl av aw (lg.of (N:=["pairs","fields","number","name"]) (sc:=gn (top 7)) rfl rfl rfl rfl rfl (by decide +kernel)) rfl (λ_ _ _ _ _=>rfl) (pv 0) (λ_ _ _ _ _=>(f7 (pv 0) d_))) c_)))
  (fT (jt PassesOwn.never rfl (IF rfl T.nW (a_ d_ (a_ (gA i9 (by rfl) T.iI PySem.boot_len (a_ (pv 1) c_)) c_))) (gK (i:=2) nd rfl ip) (fT (gv 3 nd (f7 (f7 (pv 1) (pv 2)) d_))
  (fX (gp (gw gL (pv 3) (f7 (f7 (pv 1) (gh mV (pv 2) d_)) d_) (gj _)) (fX qT) gu))))
  (fX (f6 (pv 1))))),?_⟩
 ac_rfl
 refine⟨_,rfl,l,gm qs,rfl,hl,by rw[kE];omega,hT,λc' H2 ai mono=>?_⟩;have iJ:iK Pt H H2:=λcc o hc e=>mono cc o hc e;have aj:jf H2 qs:=hp.mono (iJ.tu hT);refine⟨λks H3=>H3=H2/\ks.length<=qs.length/\ks=((nms qs).map V.str).take ks.length,⟨rfl,Q0g _,rfl⟩,λks H3 hw=>by rw[hw.1];exact ai,?_,?_⟩
 . rintro ks H3 yv ⟨rfl,aB,aa⟩ hy;obtain⟨qq,hq,rfl⟩:=FO hy;obtain⟨cc,u,ec,hc,hk⟩:=aj qq (Q0s hq);obtain⟨qv,qn,qb⟩:=qq;have ec:qv=.ref cc:=ec;subst ec;have ay:ks.length<qs.length:=(List.getElem?_eq_some_iff.mp hq).1;refine⟨_,rfl,cc,_,_,_,rfl,rfl,fU.of hc,rfl,rfl,by rw[Q0a];exact ay,?_⟩;rw[Q0a];show _=List.take (ks.length+1) _;rw[Q0y,<-aa,Q0f]
   have:(nms qs)[ks.length]? =some qn:=by
    show(qs.map (·.2.1))[ks.length]? =_;rw[Q0f,hq];rfl
   rw[this];rfl
 . rintro ks H3 ⟨rfl,_,aa⟩ aq
   have aa:ks=(nms qs).map V.str:=by
    rw[aa,aq,kE,Q1b (by rw[Q04,qE];exact Q00 _)]
   refine⟨nms qs,aa,λp ac hs D hD=>?_⟩;rw[kE] at ac;rw[<-FP];have af:=FQ qs ac
   have ar:(nms (p.map λi=>qs.getD i q0)).Pairwise sle:=by
    show((p.map λi=>qs.getD i q0).map (·.2.1)).Pairwise sle;rw[Q0z,Q17];rw[Q17] at hs;refine List.Pairwise.imp_of_mem (λ{i j} hi hj h=>?_) hs
    have ge:∀i∈p,((nms qs).map gX).getD i []=gX (qs.getD i q0).2.1:=λi hi=>by
     have az:i<qs.length:=by
      have:=ac.mem_iff.mp hi;simpa using this
     unfold nms;rw[Q0e,Q0e,Q0f,Q0f,Q03 az];rfl
    rw[ge i hi,ge j hj] at h;exact h
   have aA:(p.map λi=>qs.getD i q0)=L:=Eu (af.trans ab.symm) ar ax ah;have au:jf H3 L:=λq hq=>aj q (ab.mem_iff.mp hq);have ag:L.length<=13:=by rw[ab.length_eq];exact ag
   rw[aA];refine⟨D,gm L,rfl,.inl ⟨fY.of fZ,λt ht=>?_⟩⟩;have sD:Same H3 (upd H3 D (.lst (gm L))):=Same.new hD;have s5:Same H3 (upd (upd H3 D (.lst (gm L))) t (.tup (gm L))):=sD.trans (Same.new ht);have ak:iK Pt H (upd (upd H3 D (.lst (gm L))) t (.tup (gm L))):=iJ.trans (Kp.of s5);have al:gz Pt jk jl (upd (upd H3 D (.lst (gm L))) t (.tup (gm L))):=.inr ⟨c',ai.mono λb o _ e=>s5 _ _ e⟩;have ny:upd (upd H3 D (.lst (gm L))) t (.tup (gm L)) t=some (.tup (gm L)):=fZ;have am:jf (upd (upd H3 D (.lst (gm L))) t (.tup (gm L))) L:=au.mono (Tu.of s5);generalize upd (upd H3 D (.lst (gm L))) t (.tup (gm L))=H5 at ak al ny am
   have an:∀j,j<L.length->∃cc u,(gm L)[j]? =some (.ref cc)/\H5 cc=some (.tup [.str ((nms L).getD j ""),u]):=λj hj=>by
    obtain⟨cc,u,ec,hc,_⟩:=am L[j] (Q1m hj);refine⟨cc,u,?_,?_⟩
    . show(L.map (·.1))[j]? =_;rw[Q0f,Q03 hj];exact congrArg some ec
    . have e:(nms L).getD j ""=L[j].2.1:=by
       unfold nms;rw[Q0e,Q0f,Q03 hj];rfl
      rw[e];exact hc
   refine⟨_,rfl,t,_,rfl,.inr (fU.of ny),_,_,rfl,⟨by decide,by decide,by omega,by rw[kE];omega⟩,nO (lo:=1) (n:=(((gm L).length:Int) - 1).toNat) (λk σ H'=>H'=H5/\∃y z,σ=[some (.ref l),some (.ref t),y,z]) ⟨rfl,_,_,rfl⟩ ?_ ?_⟩
   . rintro k σ H' hk ⟨rfl,y,z,rfl⟩;rw[kE] at hk;obtain⟨c1,u1,a1,b1⟩:=an (k+1) (by omega);obtain⟨c2,u2,a2,b2⟩:=an k (by omega)
     have e1:jo (gm L) ((1:Int)+(k:Int))=some (.ref c1):=by
      have:=lF (j:=k+1) a1;rw[show((1:Int)+(k:Int))=((k+1:Nat):Int) by omega];exact this
     have e2:jo (gm L) ((1:Int)+(k:Int) - 1)=some (.ref c2):=by
      have:=lF (j:=k) a2;rw[show((1:Int)+(k:Int) - 1)=((k:Nat):Int) by omega];exact this
     refine⟨_,rfl,_,rfl,t,_,_,_,rfl,rfl,fU.of ny,e1,c1,_,_,_,rfl,rfl,fU.of b1,rfl,?_⟩;refine⟨_,rfl,_,rfl,_,rfl,_,_,rfl,rfl,t,_,_,_,rfl,rfl,fU.of ny,e2,c2,_,_,_,rfl,rfl,fU.of b2,rfl,rfl,_,rfl,iS (λcc=>?_) λcc=>⟨rfl,_,_,rfl⟩⟩
     have e:(nms L).getD (k+1) ""=(nms L).getD k "":=by
      have:=of_decide_eq_true cc;injection this
     have ao:k+1<(nms L).length:=by rw[qE];omega
     have ap:k<(nms L).length:=by rw[qE];omega
     rw[Q0e,Q0e,Q03 ao,Q03 ap] at e;have e:(nms L)[k+1]=(nms L)[k]:=e;exact absurd e.symm (List.pairwise_iff_getElem.mp ah k (k+1) ap ao (by omega))
   . rintro σ H' ⟨rfl,y,z,rfl⟩;exact⟨_,rfl,q1 t _ ak al ny⟩
theorem M3:gM ["pairs"] ["pairs"] (gn (top 8)):=gT
theorem M4 {Pt:Addr}(T:Tb mg)(Y:Dn K mg "record_of" mh (top 8) aa ab)(z:Dn K mg "sorted_fields" mh (top 7) J L)(U:e_ P w K mg base fW (8) J L mh (FN K Pt)):e_ P w K mg base fW (9) aa ab mh (uA K Pt):=by
 refine Y.F.ok M3 λvs H Q E h=>?_;obtain⟨l,qs,rs,rfl,hl,hp,af,hT,ag,ah,ai,q1⟩:=h;refine⟨rfl,λak A outer s nd hr hu=>?_⟩;refine⟨_,(fX (f6 (jd (a_ gH (a_ (f9 U hr z (a_ (pv 0) c_)) c_))))),?_⟩
 ac_rfl
 refine⟨_,rfl,l,qs,rs,rfl,hl,hp,af,hT,ag,ah,ai,λt H' kp aj ae=>?_⟩;refine⟨jj,λr ac=>?_⟩;exact q1 r t _ (kp.trans (Kp.of (Same.new ac))) (aj.same (Same.new ac)) (by rw[fV (gc ae ac)];exact ae) fZ
abbrev M5:R2:=λx y H Q=>y=.non/\Q (.bl (!decide (x=.non))) H
noncomputable def gq (f:Str->V) (ss:List Str):List (Key × V):=ss.map λx=>(Sum.inr x,f x)
theorem jM (f:Str->V):∀(ss:List Str) (x:Str),gO (gq f ss) (Sum.inr x)=if x∈ss then some (f x) else none
 |[],x=>by
  rw[if_neg (by simp)];rfl
 |y::r,x=>by
  show gO ((Sum.inr y,f y)::gq f r) (Sum.inr x)=_;by_cases e:y=x
  . rw[k7 (by show Sum.inr y=Sum.inr x;rw[e]),if_pos (by rw[e];exact Q05)];show some (f y)=_;rw[e]
  . rw[k8 (λz=>e (Sum.inr.inj z)),jM f r x];by_cases h:x∈r
    . rw[if_pos h,if_pos (Q0d _ h)]
    . rw[if_neg h,if_neg λz=>(List.mem_cons.mp z).elim (λz=>e z.symm) h]
theorem uB (f:Str->V){ss:List Str}{x:Str}(h:x ∉ ss):putK (gq f ss) (Sum.inr x) (f x)=gq f (ss++[x]):=by
 unfold putK;rw[if_neg]
 . unfold gq;rw[Q0i];rfl
 . rw[mE,jM,if_neg h]
   decide
theorem jN (f:Str->V)(ss:List Str):(gq f ss).length=ss.length:=Q04 _
theorem M6 {ss:List Str}{i:Nat}{v:V}(h:(ss.map V.str)[i]? =some v):∃x,ss[i]? =some x/\v=.str x:=by
 rw[Q0f] at h
 cases e:ss[i]? with
 |none=>rw[e] at h;cases h
 |some x=>rw[e] at h;exact⟨x,rfl,(Option.some.inj h).symm⟩
theorem M8 (ss:List Str):((List.range ss.length).map λi=>(Sum.inr (ss.getD i ""):Key))=ss.map Sum.inr:=by
 refine Q2j (by simp) λi h1 h2=>?_;have hi:i<ss.length:=by simpa using h2
 rw[Q2i,List.getElem_range,Q2i,Q0e,Q03 hi];rfl
theorem fY.oi {K:W.Frag}{H H':Hp}{l:Addr}{xs:List V}(h:fY K H l xs)(s:Same H H'):fY K H' l xs:=by
 rcases h with(h|⟨o,h⟩)|h
 . exact .inl (.inl (s _ _ h))
 . exact .inl (.inr ⟨o,s _ _ h⟩)
 . exact .inr h
def uC:Sp:=λvs H Q _=>vs=[.bl true]/\Q .non H
def FU (K:W.Frag):Sp:=λvs H Q _=>∃z t l xs fs,∃ss:List Str,vs=[.ref z,.ref l]/\H z=some (.tup [.str "record",.ref t])/\H t=some (.tup xs)/\FA H xs fs/\fs.names.Nodup/\fY K H l (ss.map V.str)/\ss.Nodup/\ss.length<=12/\(∀x∈ss,x∈fs.names)/\∀H',Same H H'->Q (.bl true) H'
def uD (tu:Bool) (K:W.Frag):Sp:=λvs H Q _=>∃t l xs fs,∃ss:List Str,vs=[.ref t,.ref l]/\H t=some (uq tu xs)/\FA H xs fs/\fs.names.length<=12/\fY K H l (ss.map V.str)/\∀p H',Same H H'->H' p=some (.lst (iZ ss xs fs.names))->H p=none->Q (.ref p) H'
def xw (K:W.Frag):Sp:=λvs H Q _=>∃a l kvs,∃ss:List Str,∃f:Str->V,vs=[.ref a,.ref l]/\H a=some (.dK kvs)/\fY K H l (ss.map V.str)/\ss.Nodup/\ss.length<=12/\(∀x∈ss,gO kvs (Sum.inr x)=some (f x))/\∀p H',Same H H'->H' p=some (.dK (gq f ss))->H p=none->Q (.ref p) H'
theorem xx:gM ["stands"] ["stands"] (gn (top 20)):=gT
theorem M9 (T:Tb mg)(z:Dn K mg "ask_stands" mI (top 20) J L):e_ P w K mg base fW (1) J L mI (uC):=by
 refine z.F.ok xx λvs H Q E h=>?_;obtain⟨rfl,q⟩:=h;refine⟨rfl,λU A outer s Y hr hu=>?_⟩;refine⟨_,(fX (gp (ia (gZ (pv 0))) (fX qT) gu)),?_⟩
 ac_rfl
 exact⟨_,rfl,true,rfl,gP q⟩
theorem M_:gM Xj Xj (gn (top 24)):=gT
theorem Na (T:Tb mg)(J:Dn K mg "has_each_once" t7 (top 24) L U)(Y:Dn K mg "kind_at" j2 (top 6) aa ab)(ac:e_ P w K mg base fW (1) aa ab j2 (rW)):e_ P w K mg base fW (3) L U t7 (FU K):=by
 refine J.F.ok M_ λvs H Q E h=>?_;obtain⟨kk,t,l,xs,fs,ss,rfl,af,ht,ai,aj,hl,ak,aq,al,q⟩:=h;refine⟨rfl,λar A outer s nd hr hu=>?_⟩
 refine⟨_,(fT (gp (gw jF (gA MX (by rfl) T.iI PySem.boot_len (a_ (jZ (MV rfl) (by rfl) T.Lg boot_set (a_ (pv 1) c_)) c_)) (gA i9 (by rfl) T.iI PySem.boot_len (a_ (pv 1) c_)) (gj _)) (fX (f6 iH)) gu)
  (fX (f6 (kH (jK gL (f7 (pv 0) d_) gH (gj _)) (lD (gA (pX rfl) (by rfl) T.qp boot_all (a_ (j9 (g:=(iY 0)) (tt:=kx) (te:=(iC M5 (mZ _ _ _ (iO (iC (jq K) (gR 1) (tC (.int 1))) (iO (gR 0) jT))) (tC .non))) (own:=["name"]) rfl (jW (N:=Xj) (sc:=gn (top 24))) (s_ (pv 1)) (λ_ _ _ _ _=>(gK (i:=0) (show(["name","kind","names"]:List Str).Nodup by decide +kernel) rfl (Or.inl rfl) (.inr rfl))) (λ_ _ _ _ _=>lb) (λ_ _ _ _ _=>(jK j6 (f9 ac hr Y (a_ (f7 (pv 1) d_) (a_ (pv 0) c_))) iB (gj _)))) c_))))))),?_⟩
 ac_rfl
 refine⟨_,rfl,l,ss,rfl,hl,by omega,λp hp=>?_⟩;have s1:Same H (upd H p (uz P w p (jB (λi=>Sum.inr (ss.getD i "")) ss.length).length)):=Same.new hp
 have am:(jB (λi=>(Sum.inr (ss.getD i ""):Key)) ss.length).length=ss.length:=by
  have hn:((List.range ss.length).map λi=>(Sum.inr (ss.getD i ""):Key)).Nodup:=by
   rw[M8];exact List.Pairwise.map _ (λa b h z=>h (Sum.inr.inj z)) ak
  rw[FJ hn,Q04,Q1p]
 refine⟨p,_,rfl,fZ,?_⟩;have ae:fY K (upd H p (uz P w p (jB (λi=>Sum.inr (ss.getD i "")) ss.length).length)) l (ss.map V.str):=(Pb.fY.oi hl s1);rw[am] at s1 ae ⊢;refine⟨_,rfl,l,_,rfl,.inl ae,rfl,_,rfl,ku (by rw[Q04]) ?_⟩;refine⟨_,rfl,kk,_,_,_,rfl,rfl,fU.of (s1 _ _ af),rfl,rfl,_,rfl,?_⟩;rw[decide_eq_true rfl];refine ix ?_;have an:=s1 _ _ ht;have ag:=s1 _ _ af;have ah:=FA.mono (Tu.of s1) fs ai;refine⟨_,rfl,l,rfl,⟨_,ae⟩,mi (vm ae) (λi=>(List.replicate i true).map V.bl) (by rw[Q04];omega) (λp hp=>⟨p,_,rfl,fY.of fZ,?_⟩) (λi x hx ao _=>?_)⟩
 . rw[ur];exact q _ (s1.trans (Same.new hp))
 . obtain⟨s,hs,rfl⟩:=List.mem_map.mp (Q0s hx);obtain⟨k,hk⟩:=Fs.pC (al _ hs);refine⟨rfl,yes (ix ?_)⟩;refine⟨_,rfl,kk,_,_,_,rfl,rfl,fU.of ag,rfl,_,rfl,t,s,xs,fs,k,rfl,an,ah,aj,hk,λu hu ap=>⟨rfl,ao _ ?_⟩⟩;rw[decide_eq_false ap,List.replicate_succ',Q0i];rfl
theorem Nb:gM XI XI (gn (top 25)):=gT
theorem xy {H:Hp}{xs:List V}{fs:Fs}{i:Nat}{x:V}(z:FA H xs fs)(L:xs[i]? =some x):∃c u nm,x=.ref c/\H c=some (.tup [.str nm,u])/\(xs.zip fs.names)[i]? =some (.ref c,nm):=by
 obtain⟨c,u,nm,k,rfl,J,hc,hk⟩:=FA.get fs z L;refine⟨c,u,nm,rfl,hc,?_⟩;rw[Q3p,Fs.kz,J];exact⟨L,rfl⟩
theorem xA {H:Hp}{xs:List V}{fs:Fs}{i:Nat}{x:V}(z:FA H xs fs)(L:xs[i]? =some x):∃c u nm,x=.ref c/\H c=some (.tup [.str nm,u])/\(fs.names.take (i+1)).map V.str=(fs.names.take i).map V.str++[V.str nm]:=by
 obtain⟨c,u,nm,e,hc,J⟩:=xy z L;rw[Q3p] at J;exact⟨c,u,nm,e,hc,by rw[take_add J.2,Q0i];rfl⟩
theorem FV (tu:Bool)(T:Tb mg)(z:Dn K mg "fields_among" kh (top 25) L U):e_ P w K mg base fW (1) L U kh (uD tu K):=by
 refine z.F.ok Nb λvs H Q E h=>?_;obtain⟨t,l,xs,fs,ss,rfl,ht,Y,ab,hl,q⟩:=h;refine⟨rfl,λac A outer s nd hr hu=>?_⟩;refine⟨_,(fX (f6 (j9 (g:=(iY 0)) (tt:=(mD (iC (rd K false) (iC (jq K) (gR 0) (tC (.int 0))) (gR 2)))) (te:=(gR 0)) (own:=["pair"]) rfl (jW (N:=XI) (sc:=gn (top 25))) (w5 tu (pv 0)) (λ_ _ _ _ _=>(gK (i:=0) (show(["pair","fields","names"]:List Str).Nodup by decide +kernel) rfl (Or.inl rfl) (.inr rfl))) (λ_ _ _ _ _=>(rq (gw Jy (f7 (pv 0) d_) (pv 2) (by with_unfolding_all rfl)))) (λ_ _ _ _ _=>(pv 0))))),?_⟩
 ac_rfl
 have ae:=FA.len fs Y;refine w6 (qC.of ht) (λJ hJ=>mi hJ (λi=>(((xs.zip fs.names).take i).filter λq=>inV (V.str q.2) (ss.map V.str)).map (·.1)) (by omega) (λp hp=>?_) (λi x hx aa skip=>?_)) (λ_ h=>⟨_,rfl,h⟩)
 . refine q p _ (Same.new hp) ?_ hp;rw[fZ,Q1b (by rw[Q3q];omega)];unfold iZ;simp only[r_]
 . obtain⟨c,u,nm,rfl,hc,hz⟩:=xy Y hx;exact⟨rfl,_,rfl,c,_,_,_,rfl,rfl,fU.of hc,rfl,_,rfl,l,_,rfl,.inl hl,rfl,se,_,rfl,iS (λcc=>⟨_,rfl,aa _ (w_ hz cc)⟩) (λcc=>skip (xa hz cc))⟩
theorem Nc:gM ["record","names","part","name"] XV (gn (top 28)):=gT
theorem Nd (T:Tb mg)(J:Dn K mg "part_of" lM (top 28) L U):e_ P w K mg base fW (1) L U lM (xw K):=by
 refine J.F.ok Nc λvs H Q E h=>?_;obtain⟨a,l,kvs,ss,f,rfl,ha,hl,aa,ae,hv,q⟩:=h;refine⟨rfl,λaf A outer s nd hr hu=>?_⟩
 refine⟨_,(fT (gv 2 nd pU)
  (fT (jt PassesOwn.never rfl (s_ (pv 1)) (gK (i:=3) nd rfl ip) (fX (mF hu (pv 2) (pv 3) (jr hu (pv 0) (pv 3) (λ_ _=>rfl)) rfl)))
  (fX (f6 (pv 2))))),?_⟩
 ac_rfl
 intro p hp;have s0:Same H (upd H p (.dK [])):=Same.new hp;refine⟨_,rfl,l,rfl,⟨_,(Pb.fY.oi hl s0)⟩,II (xs:=ss.map V.str) (λi σ H'=>Same H H'/\(∃z,σ=[some (.ref a),some (.ref l),some (.ref p),z])/\H' p=some (.dK (gq f (ss.take i)))) ⟨s0,⟨_,rfl⟩,fZ⟩ ?_ ?_ ?_⟩
 . rintro i σ H' _ ⟨s1,_⟩;exact(Pb.fY.oi hl s1)
 . rintro i v σ H' ab ⟨s1,⟨z,rfl⟩,Y⟩;obtain⟨x,hx,rfl⟩:=M6 ab;have hi:i<ss.length:=(List.getElem?_eq_some_iff.mp hx).1;have ac:ss[i]=x:=(List.getElem?_eq_some_iff.mp hx).2;refine⟨_,rfl,_,rfl,a,f x,rfl,?_,_,rfl,_,rfl,p,_,rfl,kK.k (k:=Sum.inr x) Y (by rw[jN,Q0r];exact i2 (by omega)),?_⟩
   . have:=ig.k (k:=Sum.inr x) (s1 _ _ ha);rw[hv x (Q0s hx)] at this;exact this
   . refine⟨λc o e=>?_,⟨_,rfl⟩,?_⟩
     . rw[fV]
       . exact s1 c o e
       . exact gc e hp
     . rw[fZ,uB f,Q0y,hx]
       . rfl
       . intro hm;obtain⟨j,hj,e⟩:=Q10 hm;rw[Q0r] at hj;rw[Q22] at e;exact absurd (e.trans ac.symm) (List.pairwise_iff_getElem.mp aa j i (by omega) hi (by omega))
 . rintro σ H' ⟨s1,⟨z,rfl⟩,Y⟩;rw[Q04,Q0w] at Y;exact⟨_,rfl,q p _ s1 Y hp⟩
theorem Nf {kvs:List (Key × V)}{k:Key}{v:V}(h:(gO kvs k).isSome=true):(putK kvs k v).map (·.1)=kvs.map (·.1):=by
 unfold putK;rw[if_pos (by rw[mE];exact h),Q0z];refine Q1i λp _=>?_;show(if p.1=k then(p.1,v) else p).1=p.1;split <;> rfl
theorem FW {α:Type} [DecidableEq α]:∀{l m:List α},l.Nodup->m.length<=l.length->(∀x∈l,x∈m)->∀x∈m,x∈l
 |[],m,_,hl,_,x,J=>by
  have:m=[]:=List.eq_nil_of_length_eq_zero (by simpa using hl);rw[this] at J;exact nomatch J
 |a::r,m,hn,hl,U,x,J=>by
  obtain⟨n1,n2⟩:=List.nodup_cons.mp hn;by_cases e:x=a
  . rw[e];exact Q05
  . have hm:a∈m:=U a Q05
    have L:(m.erase a).length<=r.length:=by
     rw[Q3r hm];rw[Q0j] at hl;omega
    have:=FW n2 L (λy Y=>by
     rw[Q2s (show y≠a from λz=>n1 (by rw[<-z];exact Y))];exact U y (Q0d _ Y)) x (by rw[Q2s e];exact J)
    exact Q0d _ this
theorem uE {α:Type} [DecidableEq α]:∀{l m:List α},l.Nodup->(∀x∈l,x∈m)->l.length<=m.length
 |[],m,_,_=>Q0g _
 |a::r,m,Y,J=>by
  obtain⟨n1,n2⟩:=List.nodup_cons.mp Y;have L:a∈m:=J a Q05
  have:=uE n2 (m:=m.erase a) λy U=>by
   rw[Q2s (show y≠a from λz=>n1 (by rw[<-z];exact U))];exact J y (Q0d _ U)
  rw[Q3r L] at this;have hp:0<m.length:=Q3s L;rw[Q0j];omega
theorem RecAt.keys {S:List Addr}{n:Nat}{H:Hp}{fs:Fs}{kvs:List (Key × V)}{δ:Str->D}(h:RecAt S n H fs kvs δ)(L:fs.names.Nodup):∀k∈kvs.map (·.1),∃x∈fs.names,k=Sum.inr x:=λk hk=>by
 have:=FW (l:=fs.names.map (Sum.inr:Str->Key)) (m:=kvs.map (·.1)) (List.Pairwise.map _ (λa b h z=>h (Sum.inr.inj z)) L) (by rw[Q04,Q04,h.len];exact Q00 _) (λx U=>by
  obtain⟨y,J,rfl⟩:=List.mem_map.mp U;obtain⟨q,Y⟩:=Fs.pC J;obtain⟨v,_,hv,_⟩:=h.get y q Y;exact Dp hv) k hk
 obtain⟨y,J,e⟩:=List.mem_map.mp this;exact⟨y,J,e.symm⟩
noncomputable def iD {α:Type}(nm:α->Str) (a:α):List α->List α
 |[]=>[a]
 |b::r=>if hZ (gX (nm b)) (gX (nm a)) then b::iD nm a r else a::b::r
theorem oj {α:Type}(nm:α->Str)(a:α):∀l:List α,(iD nm a l).Perm (a::l)
 |[]=>.refl _
 |b::r=>by
  unfold iD;split
  . exact((oj nm a r).cons b).trans (List.Perm.swap a b r)
  . exact .refl _
theorem xB {α z:Type}{nm:α->Str}{nm':z->Str}{g:α->z}(h:∀a,nm' (g a)=nm a)(a:α):∀l:List α,(iD nm a l).map g=iD nm' (g a) (l.map g)
 |[]=>rfl
 |b::r=>by
  show(if _ then _ else _:List α).map g=(if hZ (gX (nm' (g b))) (gX (nm' (g a))) then g b::iD nm' (g a) (r.map g) else g a::g b::r.map g);rw[h,h];split
  . rw[Q0q,xB h a r]
  . rfl
theorem qF (x:Str):∀{l:List Str},l.Pairwise sle->(iD id x l).Pairwise sle
 |[],_=>Q1w _ _
 |b::r,h=>by
  obtain⟨h1,h2⟩:=List.pairwise_cons.mp h;unfold iD;split
  . rename_i e;refine .cons (λz J=>?_) (qF x h2);rcases List.mem_cons.mp ((oj id x r).mem_iff.mp J) with q|q
    . rw[q];exact Eo e
    . exact h1 z q
  . rename_i e
    have L:sle x b:=by
     unfold sle lh;exact Bool.eq_false_iff.mpr e
    refine .cons (λz J=>?_) h;rcases List.mem_cons.mp J with q|q
    . rw[q];exact L
    . exact Ep L (h1 z q)
noncomputable def pF (x:Str) (v:V) (xs:List V) (ns:List Str):List V:=(iD (·.2) (v,x) (xs.zip ns)).map (·.1)
theorem uF:∀z:List Qd,(gm z).zip (nms z)=z.map λq=>(q.1,q.2.1)
 |[]=>rfl
 |q::r=>by
  show(q.1,q.2.1)::(gm r).zip (nms r)=_;rw[uF r];rfl
theorem xC (v:V)(x:Str)(b:Bool)(z:List Qd):gm (iD (·.2.1) (v,x,b) z)=pF x v (gm z) (nms z):=by
 unfold pF;rw[uF,<-xB (nm:=λq:Qd=>q.2.1) (nm':=λp:V × Str=>p.2) (g:=λq:Qd=>(q.1,q.2.1)) (λ_=>rfl) (v,x,b) z,Q0z];rfl
theorem ml (v:V)(x:Str)(b:Bool)(z:List Qd):nms (iD (·.2.1) (v,x,b) z)=iD id x (nms z):=
 xB (nm':=id) (g:=λq:Qd=>q.2.1) (λ_=>rfl) (v,x,b) z
noncomputable def Fs.ins (x:Str) (k:Kd):Fs->Fs
 | .nil=>.cons x k .nil
 | .cons y q r=>if hZ (gX y) (gX x) then .cons y q (r.ins x k) else .cons x k (.cons y q r)
theorem Fs.lV (x:Str)(k:Kd):∀fs:Fs,(fs.ins x k).names=iD id x fs.names
 | .nil=>rfl
 | .cons y q r=>by
   show(if hZ (gX y) (gX x) then Fs.cons y q (r.ins x k) else .cons x k (.cons y q r)).names=if hZ (gX y) (gX x) then y::iD id x r.names else x::y::r.names
   split
   . show y::(r.ins x k).names=_;rw[Fs.lV x k r]
   . rfl
theorem Fs.l7 (x:Str)(k:Kd):∀{fs:Fs}(y:Str),x ∉ fs.names->(fs.ins x k).get y=if y=x then some k else fs.get y
 | .nil,y,_=>rfl
 | .cons z q r,y,h=>by
   have h1:x≠z:=λe=>h (by rw[e];exact Q05);have h2:x ∉ r.names:=λe=>h (Q0d _ e);show(if hZ (gX z) (gX x) then Fs.cons z q (r.ins x k) else .cons x k (.cons z q r)).get y=_;split
   . show(if y=z then some q else(r.ins x k).get y)=if y=x then some k else if y=z then some q else r.get y
     rw[Fs.l7 x k y h2];by_cases e:y=z
     . rw[if_pos e,if_pos e,if_neg (λJ=>h1 (J.symm.trans e))]
     . rw[if_neg e,if_neg e]
   . rfl
theorem Fs.uG {x:Str}{k:Kd}(hk:k.W):∀{fs:Fs},fs.W->(fs.ins x k).W
 | .nil,_=>by
   show(Fs.cons x k .nil).W;unfold Fs.W Fs.W;exact⟨hk,trivial⟩
 | .cons z q r,h=>by
   have h':=h;unfold Fs.W at h;show(if hZ (gX z) (gX x) then Fs.cons z q (r.ins x k) else .cons x k (.cons z q r)).W;split
   . unfold Fs.W;exact⟨h.1,Fs.uG hk h.2⟩
   . unfold Fs.W;exact⟨hk,h'⟩
theorem Fs.FX (x:Str)(k:Kd):∀fs:Fs,(fs.ins x k).dep<=max k.dep fs.dep
 | .nil=>by show max k.dep 0<=_;exact Q00 _
 | .cons z q r=>by
   have:=Fs.FX x k r;show(if hZ (gX z) (gX x) then Fs.cons z q (r.ins x k) else .cons x k (.cons z q r)).dep<=max k.dep (max q.dep r.dep);split
   . show max q.dep (r.ins x k).dep<=_;omega
   . exact Q00 _
theorem FA.ins {H:Hp}{c:Addr}{u:V}{x:Str}{k:Kd}(hc:H c=some (.tup [.str x,u]))(hk:KA H u k):∀{xs:List V}(fs:Fs),FA H xs fs->FA H (pF x (.ref c) xs fs.names) (fs.ins x k)
 |xs,.nil,h=>by
  unfold FA at h;subst h;show FA H [.ref c] (.cons x k .nil);unfold FA;exact⟨c,u,[],rfl,hc,hk,by unfold FA;rfl⟩
 |xs,.cons y q r,h=>by
  have U:=h;unfold FA at h;obtain⟨d,Y,J,rfl,e,z,L⟩:=h;have hl:=FA.len r L;show FA H ((if hZ (gX y) (gX x) then(V.ref d,y)::iD (·.2) (V.ref c,x) (J.zip r.names) else(V.ref c,x)::(V.ref d,y)::J.zip r.names).map (·.1)) (if hZ (gX y) (gX x) then Fs.cons y q (r.ins x k) else .cons x k (.cons y q r));split
  . rw[Q0q];unfold FA;exact⟨d,Y,_,rfl,e,z,FA.ins hc hk r L⟩
  . rw[Q0q,Q0q,List.map_fst_zip (by omega)];unfold FA;exact⟨c,u,_,rfl,hc,hk,U⟩
theorem sj {x:Str}{l:List Str}(h:l.Nodup)(z:x ∉ l):(iD id x l).Nodup:=
 (oj id x l).nodup_iff.mpr (List.nodup_cons.mpr ⟨z,h⟩)
theorem sm (x:Str)(l:List Str):(iD id x l).length=l.length+1:=by
 rw[(oj id x l).length_eq];rfl
theorem qG {x y:Str}{l:List Str}:y∈iD id x l↔y=x\/y∈l:=by
 rw[(oj id x l).mem_iff,Q0x]
noncomputable def gf (ss ns:List Str):List Str:=ns.filter λx=>decide (x ∉ ss)
theorem iL {ss ns:List Str}{x:Str}:x∈gf ss ns↔x∈ns/\x ∉ ss:=by
 unfold gf;rw[Q2t];exact⟨λh=>⟨h.1,of_decide_eq_true h.2⟩,λh=>⟨h.1,decide_eq_true h.2⟩⟩
theorem FY {ss:List Str}{xs:List V}{ns:List Str}:iZ (gf ss ns) xs ns=((xs.zip ns).filter λq=>decide (q.2 ∉ ss)).map (·.1):=by
 unfold iZ;congr 1;refine Q2u λq z=>?_;have J:q.2∈ns:=(Q1k z).2;refine decide_eq_decide.mpr ?_;rw[iL];exact⟨λh=>h.2,λh=>⟨J,h⟩⟩
theorem i8 (ss:List Str)(fs:Fs):(fs.f_ (gf ss fs.names)).names=gf ss fs.names:=by
 rw[Fs.jx];unfold gf;refine Q2u λx z=>decide_eq_decide.mpr ?_;rw[Q2t];exact⟨λh=>of_decide_eq_true h.2,λh=>⟨z,decide_eq_true h⟩⟩
theorem xD:∀{kvs:List (Key × V)},(kvs.map (·.1)).Nodup->(∀k∈kvs.map (·.1),∃x:Str,k=Sum.inr x)->∃(f:Str->V) (l:List Str),kvs=gq f l/\l.Nodup
 |[],_,_=>⟨λ_=>.non,[],rfl,.nil⟩
 |(k,v)::r,L,h=>by
  obtain⟨U,Y⟩:=List.nodup_cons.mp L;obtain⟨x,e⟩:=h k Q05;have e:k=Sum.inr x:=e;subst e;obtain⟨f,l,rfl,hl⟩:=xD Y λk hk=>h k (Q0d _ hk)
  have J:x ∉ l:=λz=>U (by
   unfold gq;rw[Q0z];exact List.mem_map.mpr ⟨x,z,rfl⟩)
  refine⟨λy=>if y=x then v else f y,x::l,?_,List.nodup_cons.mpr ⟨J,hl⟩⟩;unfold gq;rw[Q0q];show(_,v)::_=(_,if x=x then v else f x)::_;rw[if_pos rfl];congr 1;refine Q1i λy hy=>?_;show _=(_,if y=x then v else f y);rw[if_neg (λe=>J (by rw[<-e];exact hy))]
end Pb
namespace L2
open Spec PyProof.Rows
noncomputable def FZ (a:Addr) (o:Obj) (kvs:List (Key × V)):It:=
 ⟨λi H=>i<kvs.length/\H a=some (.i4 o (.dK kvs)),λi H x H'=>H'=H/\∃p,kvs[i]? =some p/\x=kV p.1,λi H=>kvs.length<=i/\H a=some (.i4 o (.dK kvs))⟩
theorem F0:∀{kvs:List (Key × V)}{vs:List (Key × Value)}{i:Nat}{p:Key × V},KV kvs vs->kvs[i]? =some p->∃v,vs[i]? =some (p.1,v)
 |_,_,i,p,.nil,h=>by simp at h
 |_,_,0,p,.cons (b:=b) h t,e=>by
  have e:=Option.some.inj (show some _=some p from e);subst e;exact⟨b.2,by show some b=_;rw[h.1]⟩
 |_,_,i+1,p,.cons h t,e=>F0 (i:=i) t e
theorem Ng {P:Program}{w:World}{k:Key}{u:Value}(h:(iW P w).is k u=true):RelV (kV k) u:=by
 have h:oG k u=true:=h;rcases my h with⟨i,t,rfl,rfl⟩|⟨x,t,rfl,rfl⟩
 . exact⟨t,rfl⟩
 . exact⟨t,rfl⟩
theorem Nh {P:Program}{w:World}{K:W.Frag}{tg:Expr}{a it:Addr}{o:Obj}{kvs:List (Key × V)}{vs:List (Key × Value)}{ep:Nat}(Y:KV kvs vs)(ha:∀h:Heap,h.get? a=some o->h.DictAt (iW P w) a vs ep):
 Turn P w K tg (FZ a o kvs) [it] it (λi h=>h.IsKeyIter it a i vs.length ep) where
 mem:=by simp
 obj:=λi h st b J=>by
  have e:b=it:=by simpa using J
  subst e;obtain⟨o,e,c,d⟩:=st;exact⟨o,e,λv z=>by rw[d] at z;cases z⟩
 keep:=λi h h' st k=>st.at λo e=>k it (by simp) o e
 item:=by
  intro X hP hw hK hc i pins s σ H E I hf st hg;subst hP hw hK;obtain⟨hi,L⟩:=hg;obtain⟨U,_⟩:=I.hok a _ L;have hp:kvs[i]? =some kvs[i]:=Q03 hi;obtain⟨v,hv⟩:=F0 Y hp;obtain⟨f0,f1,f2,f3,f4,f5⟩:=hf it (by simp);refine wpAny_pyNext_dict_item st (ha _ U) hv λkey h' hk aa sb=>?_;have I1:Inv X pins σ H { s with heap:=h' }:=I.turned (t':=s.toks) (λb o J e=>(sb.2 b J).trans e) f0 f1 f3 f4 f5;obtain⟨o,e,c,d⟩:=id aa;exact⟨key,rfl,sW (s:={ s with heap:=h' }) e c d (by decide) ⟨kV kvs[i].1,H,I1,Ng hk,⟨rfl,_,hp,rfl⟩,aa,λb J=>(hf b J).1⟩⟩
 done:=by
  intro X hP hw hK hc i pins s σ H E I hf st hg;subst hP hw hK;obtain⟨hi,L⟩:=hg;obtain⟨U,_⟩:=I.hok a _ L;obtain⟨f0,f1,f2,f3,f4,f5⟩:=hf it (by simp);have hl:=Paired.length Y;exact wpAny_pyNext_dict_end (I.ok.hd hc) st (ha _ U) (List.getElem?_eq_none (by omega)) λh' eb=>⟨rfl,I.turned (t':=s.toks) (λb o J e=>eb b o J e) f0 f1 f3 f4 f5⟩
 self:=λ_ _ _ _ _ st h=>wpAny_pyIter_keyiter st h
section
variable {X:Cx}{tg:Expr}
def uH (z:Hp) (a:Addr):Prop:=∀o u,z a≠some (.i4 o u)
def F1 (z:Hp) (tl:TE):TI:=λσ H R=>tl σ H λx H1=>∃a kvs,x=.ref a/\H1 a=some (.dK kvs)/\∀o,uH z a->R (FZ a o kvs) (upd H1 a (.i4 o (.dK kvs)))
theorem Inv.freeze {pins:List (Addr × Obj)}{σ:St}{H:Hp}{s:Shared}{a:Addr}{kvs:List (Key × V)}(I:Inv X pins σ H s)(h:H a=some (.dK kvs)):
 ∃o vs U,KV kvs vs/\(a == sysModules)=false/\s.heap.get? a=some o/\(∀h:Heap,h.get? a=some o->h.DictAt (iW X.prog X.w) a vs U)/\uH X.H₀ a/\Inv X pins σ (upd H a (.i4 o (.dK kvs))) s:=by
 obtain⟨z,hd,vs,L,o,es,U,Y,e2⟩:=id (I.hok a _ h);refine⟨o,vs,U,L,hd,Y,λh' e=>⟨o,es,e,e2⟩,λo' u J=>?_,?_⟩
 . have:=I.base.j3 a o' u J;rw[h] at this;cases this
 . have u:Un X.fs [] H (upd H a (.i4 o (.dK kvs))) s.heap s.heap:=Un.write (x:=a) (e:=a) (by rw[h];trivial) (.inl rfl) (λb u _ q=>q) ⟨o,Y⟩;refine I.un (t':=s.toks) u λb v e=>?_;by_cases hb:b=a
   . subst hb;rw[fZ] at e
     cases e;exact⟨Y,z,hd,vs,L,o,es,U,Y,e2⟩
   . rw[fV hb] at e;exact(I.hok b v e).stay (λc w _ q=>q) (λc q=>by rw[fV (λJ=>by rw[J,h] at q;cases q)];exact q) λc xs q=>by rw[fV (λJ=>by rw[J,h] at q;cases q)];exact q
theorem Inv.Ni {pins:List (Addr × Obj)}{σ:St}{H:Hp}{s:Shared}{a:Addr}{o:Obj}{kvs:List (Key × V)}(I:Inv X pins σ H s)(h:H a=some (.i4 o (.dK kvs)))(hz:uH X.H₀ a):Inv X pins σ (upd H a (.dK kvs)) s:=by
 have L:∀{b:Addr},H b=none->upd H a (.dK kvs) b=none:=λ{b} e=>by rw[fV (λz=>by rw[z,h] at e;cases e)];exact e
 refine⟨I.ok,I.os,I.bare,⟨I.base.keep,I.base.slot,λb u q n hx=>L (I.base.free b u q n hx),I.base.there,λb xs q=>?_,λb o' u q=>?_,λb ps q=>?_⟩,I.loc,I.cell,L I.free,λx c e=>L (I.jY x c e),λp hp=>?_,λb v e=>?_,I.len⟩
 . have:=I.base.tups b xs q;rw[fV (λz=>by rw[z,h] at this;cases this)];exact this
 . have:=I.base.j3 b o' u q;rw[fV (λz=>hz o' u (by rw[<-z];exact q))];exact this
 . obtain⟨J,this⟩:=I.base.km b ps q;exact⟨J,by rw[fV (λz=>by rw[z,h] at this;cases this)];exact this⟩
 . obtain⟨p1,p2,p3⟩:=I.pin p hp;exact⟨p1,L p2,p3⟩
 . by_cases Y:b=a
   . subst Y;rw[fZ] at e
     cases e;exact(I.hok b _ h).2
   . rw[fV Y] at e;exact(I.hok b v e).stay (λc w _ q=>q) (λc q=>by rw[fV (λU=>by rw[U,h] at q;cases q)];exact q) λc xs q=>by rw[fV (λU=>by rw[U,h] at q;cases q)];exact q
theorem Nj {l:Expr}{tl:TE}(hl:PE X l tl):PI X tg l (F1 X.H₀ tl):=by
 intro pins s σ H R I h;refine gy (hl pins s σ H _ I h) λv J zq=>?_;obtain⟨x,H1,I1,r1,q1⟩:=zq;obtain⟨a,kvs,e,hq,q⟩:=q1;subst e
 cases r1;obtain⟨o,vs,ep,U,hs,Y,z,hz,L⟩:=I1.freeze hq;refine wpAny_pyIter_dict hs (z _ Y) ?_;refine⟨J.heap.objs.size,[J.heap.objs.size],_,_,upd H1 a (.i4 o (.dK kvs)),rfl,L.kept (t':=J.toks) λb o e=>Q06 _ e,Nh U z,⟨_,Q0h _ rfl,rfl,rfl⟩,λb hb=>?_,q o hz⟩;have e:b=J.heap.objs.size:=by simpa using hb
 subst e;exact L.nM (Q00 _) (L.hok.fresh (Q00 _))
theorem Nk {z:Hp}(J:X.H₀=z){l:Expr}{tl:TE}(hl:PE X l tl):PI X tg l (F1 z tl):=by
 subst J;exact Nj hl
def Nl (z:Hp) (t:TE):TE:=λσ H Q=>t σ H λv H'=>∃a o kvs,uH z a/\H' a=some (.i4 o (.dK kvs))/\Q v (upd H' a (.dK kvs))
theorem Nn {J:Hp}(L:X.H₀=J){e:Expr}{t:TE}(h:PE X e t):PE X e (Nl J t):=by
 subst L;intro pins s σ H Q I q;refine gy (h pins s σ H _ I q) λv s1 zq=>?_;obtain⟨x,H1,U,Y,z⟩:=zq;obtain⟨a,o,kvs,hz,ha,z⟩:=z;exact⟨x,_,U.Ni ha hz,Y,z⟩
end
end L2
namespace Pb
open L2 PyProof.Rows
noncomputable def nz (f:Str->V) (x:Str) (v:V):Str->V:=λy=>if y=x then v else f y
theorem F2 (f:Str->V){l:List Str}{x:Str}(v:V)(h:x ∉ l):putK (gq f l) (Sum.inr x) v=gq (nz f x v) (l++[x]):=by
 have:=uB (nz f x v) h
 rw[show gq (nz f x v) l=gq f l from by
  unfold gq;refine Q1i λy z=>?_;show(_,if y=x then v else f y)=_;rw[if_neg (λe=>h (by rw[<-e];exact z))]] at this
 rw[show nz f x v x=v from if_pos rfl] at this;exact this
def F3 (K:W.Frag):Sp:=λvs H Q _=>∃b x xs fs,vs=[.ref b,.str x]/\H b=some (.lst xs)/\FA H xs fs/\x ∉ fs.names/\Q .non H
def uI:Sp:=λvs H Q _=>∃z t x xs fs k,vs=[.ref z,.str x]/\H z=some (.tup [.str "record",.ref t])/\H t=some (.tup xs)/\FA H xs fs/\fs.names.Nodup/\fs.get x=some k/\∀u,KA H u k->u≠ .non->Q u H
def uJ (K:W.Frag):Sp:=λvs H Q _=>∃t l xs fs,∃ss:List Str,vs=[.ref t,.ref l]/\H t=some (.tup xs)/\FA H xs fs/\fs.names.length<=12/\fY K H l (ss.map V.str)/\∀p H',Same H H'->H' p=some (.lst (iZ (gf ss fs.names) xs fs.names))->H p=none->Q (.ref p) H'
def xE (K:W.Frag):Sp:=λvs H Q _=>∃a l,∃f:Str->V,∃ks ss:List Str,vs=[.ref a,.ref l]/\H a=some (.dK (gq f ks))/\ks.Nodup/\ks.length<=12/\fY K H l (ss.map V.str)/\∀p H',Same H H'->H' p=some (.dK (gq f (gf ss ks)))->H p=none->Q (.ref p) H'
def F6:Sp:=λvs H Q _=>∃a x v,∃f:Str->V,∃ks:List Str,vs=[.ref a,.str x,v]/\H a=some (.dK (gq f ks))/\ks.length<=12/\x ∉ ks/\∀p H',Same H H'->H' p=some (.dK (gq (nz f x v) (ks++[x])))->H p=none->Q (.ref p) H'
variable {P:Program}{w:World}{K:W.Frag}{mg:Str->Option Value}{base:Heap}
theorem Np (T:Tb mg)(z:Dn K mg "kind_at" j2 (top 6) J L):e_ P w K mg base fW (1) J L j2 (F3 K):=(E_ false T z).imp λvs H Q E h=>by
 obtain⟨b,x,xs,fs,e,Y,U,hg⟩:=h;exact⟨b,x,xs,fs,e,Y,U,.inl hg⟩
theorem Nq:gM Xr Xr (gn (top 23)):=gT
theorem Nr (T:Tb mg)(z:Dn K mg "field_kind" nY (top 23) J L)(U:Dn K mg "kind_at" j2 (top 6) Y aa)(ab:e_ P w K mg base fW (1) Y aa j2 (rW)):e_ P w K mg base fW (2) J L nY (uI):=by
 refine z.F.ok Nq λvs H Q E h=>?_;obtain⟨kk,t,x,xs,fs,k,rfl,ac,ht,ae,af,hk,q⟩:=h;refine⟨rfl,λag A outer s nd hr hu=>?_⟩;refine⟨_,(fX (f6 (oN (gw gL (f7 (pv 0) d_) gH (gj _)) (f9 ab hr U (a_ (f7 (pv 0) d_) (a_ (pv 1) c_))) iB))),?_⟩
 ac_rfl
 refine⟨_,rfl,kk,_,_,_,rfl,rfl,fU.of ac,rfl,rfl,_,rfl,ix ?_⟩;exact⟨_,rfl,kk,_,_,_,rfl,rfl,fU.of ac,rfl,_,rfl,t,x,xs,fs,k,rfl,ht,ae,af,hk,q⟩
theorem Nt:gM XI XI (gn (top 26)):=gT
theorem Nu (T:Tb mg)(z:Dn K mg "fields_but" kh (top 26) J L):e_ P w K mg base fW (1) J L kh (uJ K):=by
 refine z.F.ok Nt λvs H Q E h=>?_;obtain⟨t,l,xs,fs,ss,rfl,ht,U,ab,hl,q⟩:=h;refine⟨rfl,λac A outer s nd hr hu=>?_⟩;refine⟨_,(fX (f6 (j9 (g:=(iY 0)) (tt:=(mD (iC (rd K true) (iC (jq K) (gR 0) (tC (.int 0))) (gR 2)))) (te:=(gR 0)) (own:=["pair"]) rfl (jW (N:=XI) (sc:=gn (top 26))) (jS (pv 0)) (λ_ _ _ _ _=>(gK (i:=0) (show(["pair","fields","names"]:List Str).Nodup by decide +kernel) rfl (Or.inl rfl) (.inr rfl))) (λ_ _ _ _ _=>(rq (gw vM (f7 (pv 0) d_) (pv 2) (by with_unfolding_all rfl)))) (λ_ _ _ _ _=>(pv 0))))),?_⟩
 ac_rfl
 have ae:=FA.len fs U;refine⟨_,rfl,t,rfl,⟨_,fU.of ht⟩,mi (mU (fU.of ht)) (λi=>(((xs.zip fs.names).take i).filter λq=> !inV (V.str q.2) (ss.map V.str)).map (·.1)) (by omega) (λp hp=>?_) (λi x hx aa skip=>?_)⟩
 . refine q p _ (Same.new hp) ?_ hp;rw[fZ,FY,Q1b (by rw[Q3q];omega)];simp only[r_,decide_not]
 . obtain⟨c,u,nm,rfl,hc,hz⟩:=xy U hx;exact⟨rfl,_,rfl,c,_,_,_,rfl,rfl,fU.of hc,rfl,_,rfl,l,_,rfl,.inl hl,rfl,se,_,rfl,iS (λY=>⟨_,rfl,aa _ (w_ hz Y)⟩) (λY=>skip (xa hz Y))⟩
theorem Nv:gM XV XV (gn (top 29)):=gT
theorem Nw (T:Tb mg)(J:Dn K mg "rest_of" lM (top 29) L U)(Y:Dn K mg "part_of" lM (top 28) aa ab)(ac:e_ P w K mg base fW (1) aa ab lM (xw K)):e_ P w K mg base fW (2) L U lM (xE K):=by
 refine J.F.ok Nv λvs H Q E h=>?_;obtain⟨a,l,f,ks,ss,rfl,ha,ag,ah,hl,q⟩:=h;refine⟨rfl,λan A outer s nd hr hu=>?_⟩;refine⟨_,(fX (f6 (f9 ac hr Y (a_ (pv 0) (a_ (Nn rfl (j9 (g:=(iY 0)) (tt:=(mD (iC (rd K true) (gR 0) (gR 2)))) (te:=(gR 0)) (own:=["name"]) rfl (jW (N:=XV) (sc:=gn (top 29))) (Nk rfl (pv 0)) (λ_ _ _ _ _=>(gK (i:=0) (show(["name","record","names"]:List Str).Nodup by decide +kernel) rfl (Or.inl rfl) (.inr rfl))) (λ_ _ _ _ _=>(rq (gw vM (pv 0) (pv 2) (by with_unfolding_all rfl)))) (λ_ _ _ _ _=>(pv 0)))) c_))))),?_⟩
 ac_rfl
 refine⟨_,rfl,_,rfl,a,_,rfl,ha,λo hz=>?_⟩;have kf:∀c u,c≠a->H c=some u->upd H a (.i4 o (.dK (gq f ks))) c=some u:=λc u hc e=>by rw[fV hc];exact e
 have ai:fY K (upd H a (.i4 o (.dK (gq f ks)))) l (ss.map V.str):=by
  rcases hl with(h|⟨o',h⟩)|h
  . exact .inl (.inl (kf _ _ (jz h ha (by intro z;cases z)) h))
  . exact .inl (.inr ⟨o',kf _ _ (jz h ha (by intro z;cases z)) h⟩)
  . exact .inr h
 have af:=fZ (H:=H) (a:=a) (o:=.i4 o (.dK (gq f ks)));refine mi (xs:=ks.map V.str) ⟨λi x e=>⟨?_,af⟩,λi x H' y=>?_,⟨?_,af⟩⟩ (λi=>((ks.take i).filter λx=> !inV (V.str x) (ss.map V.str)).map V.str) (by rw[Q04];omega) (λp hp=>?_) (λi x hx aj skip=>?_)
 . rw[jN];have:=(List.getElem?_eq_some_iff.mp e).1
   rwa [Q04] at this
 . obtain⟨rfl,pr,ae,rfl⟩:=y;unfold gq at ae;rw[Q0f] at ae ⊢
   cases e:ks[i]? with
   |none=>rw[e] at ae;cases ae
   |some z=>rw[e] at ae;cases ae;exact⟨rfl,rfl⟩
 . rw[jN,Q04];exact Q00 _
 . have ak:((ks.take (ks.map V.str).length).filter λx=> !inV (V.str x) (ss.map V.str)).map V.str=(gf ss ks).map V.str:=by
    rw[Q04,Q0w];unfold gf;simp only[r_,decide_not]
   rw[ak];have s5:=Same.new hp (o:=.lst ((gf ss ks).map V.str));refine⟨a,o,_,hz,s5 _ _ af,?_⟩;have al:p≠a:=λz=>by rw[z,af] at hp;cases hp
   have s6:Same H (upd (upd (upd H a (.i4 o (.dK (gq f ks)))) p (.lst ((gf ss ks).map V.str))) a (.dK (gq f ks))):=λc u e=>by
    by_cases hc:c=a
    . subst hc;rw[fZ,<-ha];exact e
    . rw[fV hc];exact s5 _ _ (kf _ _ hc e)
   refine⟨a,p,_,gf ss ks,f,rfl,s6 _ _ ha,fY.of (by rw[fV al,fZ]),ag.filter _,Q0b (Q0o _ _) ah,λx hx=>by rw[jM,if_pos (iL.mp hx).1],λp' H' s7 am hn=>?_⟩;refine q p' H' (s6.trans s7) am ?_
   cases e:H p' with
   |none=>rfl
   |some u=>rw[s6 _ _ e] at hn;cases hn
 . obtain⟨s,hs,rfl⟩:=Option.map_eq_some_iff.mp (List.getElem?_map.symm.trans hx);exact⟨rfl,_,rfl,_,rfl,l,_,rfl,.inl ai,rfl,se,_,rfl,iS (λcc=>⟨_,rfl,aj _ (w_ hs cc)⟩) (λcc=>skip (xa hs cc))⟩
theorem Ny:gM ["record","name","value","fresh"] Xo (gn (top 30)):=gT
theorem Nz (T:Tb mg)(z:Dn K mg "with_field" t8 (top 30) J L):e_ P w K mg base fW (1) J L t8 (F6):=by
 refine z.F.ok Ny λvs H Q E h=>?_;obtain⟨a,x,v,f,ks,rfl,U,aa,Y,q⟩:=h;refine⟨rfl,λab A outer s nd hr hu=>?_⟩
 refine⟨_,(fT (gv 3 nd (jZ xv (by rfl) T.nX boot_dict (a_ (pv 0) c_)))
  (fT (mF hu (pv 3) (pv 1) (pv 2) rfl)
  (fX (f6 (pv 3))))),?_⟩
 ac_rfl
 refine⟨_,rfl,a,_,rfl,U,λp hp=>?_⟩;refine⟨_,rfl,_,rfl,_,rfl,p,_,rfl,kK.k (k:=Sum.inr x) fZ (by rw[jN];exact i2 (by omega)),?_⟩;refine⟨_,rfl,q p _ (λc o e=>?_) ?_ hp⟩
 . rw[fV (gc e hp),fV (gc e hp)];exact e
 . rw[fZ,F2 f v Y]
def xF (K:W.Frag):Sp:=λvs H Q _=>∃a l y,∃f:Str->V,∃ks ss:List Str,vs=[.ref a,.ref l,.str y]/\H a=some (.dK (gq f ks))/\ks.Nodup/\ks.length<=12/\fY K H l (ss.map V.str)/\ss.Nodup/\ss.length<=12/\(∀x∈ss,x∈ks)/\y ∉ gf ss ks/\∀p c H',Same H H'->H' p=some (.dK (gq (nz f y (.ref c)) (gf ss ks++[y])))->H' c=some (.dK (gq f ss))->H p=none->H c=none->p≠c->Q (.ref p) H'
def F7:Sp:=λvs H Q _=>∃a c x,∃f g:Str->V,∃ks z:List Str,vs=[.ref a,.str x]/\H a=some (.dK (gq f ks))/\ks.Nodup/\ks.length<=12/\x∈ks/\f x=.ref c/\H c=some (.dK (gq g z))/\z.length<=12/\∀p H',Same H H'->H' p=some (.dK (mj (gq f (gf [x] ks)) (gq g z)))->H p=none->Q (.ref p) H'
theorem none_of {H H':Hp}(s:Same H H'){p:Addr}(h:H' p=none):H p=none:=by
 cases e:H p with
 |none=>rfl
 |some u=>rw[s _ _ e] at h;cases h
theorem NA:gM Xd Xd (gn (top 31)):=gT
theorem NC (T:Tb mg)(aj:Dn K mg "nested" qt (top 31) ak al)(J:Dn K mg "with_field" t8 (top 30) L U)(Y:e_ P w K mg base fW (1) L U t8 (F6))(aa:Dn K mg "rest_of" lM (top 29) ab ac)(ae:e_ P w K mg base fW (2) ab ac lM (xE K))(af:Dn K mg "part_of" lM (top 28) ag ah)(ai:e_ P w K mg base fW (1) ag ah lM (xw K)):e_ P w K mg base fW (3) ak al qt (xF K):=by
 refine aj.F.ok NA λvs H Q E h=>?_;obtain⟨a,l,y,f,ks,ss,rfl,ha,ao,am,hl,ap,an,aq,hy,q⟩:=h;refine⟨rfl,λar A outer s nd hr hu=>?_⟩;refine⟨_,(fX (f6 (f9 Y hr J (a_ (f9 ae hr aa (a_ (pv 0) (a_ (pv 1) c_))) (a_ (pv 2) (a_ (f9 ai hr af (a_ (pv 0) (a_ (pv 1) c_))) c_)))))),?_⟩
 ac_rfl
 refine⟨_,rfl,_,rfl,?_⟩;refine⟨a,l,f,ks,ss,rfl,ha,ao,am,hl,λp2 H2 s2 h2 n2=>?_⟩;refine⟨_,rfl,_,rfl,_,rfl,?_⟩;refine⟨a,l,_,ss,f,rfl,s2 _ _ ha,fY.oi hl s2,ap,an,λx hx=>by rw[jM,if_pos (aq x hx)],λp3 H3 s3 h3 n3=>?_⟩;refine⟨p2,y,_,f,gf ss ks,rfl,s3 _ _ h2,Q0b (Q0o _ _) am,hy,λp4 H4 s4 h4 n4=>?_⟩;exact q p4 p3 H4 ((s2.trans s3).trans s4) h4 (s4 _ _ h3) (none_of (s2.trans s3) n4) (none_of s2 n3) (λz=>by rw[z,h3] at n4;cases n4)
theorem ND:gM ["record","field","fresh"] ["record","field"] (gn (top 32)):=gT
theorem NG (T:Tb mg)(J:Dn K mg "unnested" t_ (top 32) L U)(Y:Dn K mg "rest_of" lM (top 29) aa ab)(ac:e_ P w K mg base fW (2) aa ab lM (xE K)):e_ P w K mg base fW (3) L U t_ (F7):=by
 refine J.F.ok ND λvs H Q E h=>?_;obtain⟨a,c,x,f,g,ks,ms,rfl,ha,af,ae,hx,hf,hc,ah,q⟩:=h;refine⟨rfl,λai A outer s nd hr hu=>?_⟩
 refine⟨_,(fT (gv 2 nd (f9 ac hr Y (a_ (pv 0) (a_ (iM (a_ (pv 1) c_)) c_))))
  (fT (kY (rf PySem.F.plainAttrs_dict PySem.F.slot_dict_update PySem.F.type_dict_update M0 (pv 2) (a_ (jr hu (pv 0) (pv 1) (λ_ _=>rfl)) c_)))
  (fX (f6 (pv 2))))),?_⟩
 ac_rfl
 refine⟨_,rfl,_,rfl,jV,λp1 ag=>?_⟩;have s1:Same H (upd H p1 (.lst [.str x])):=Same.new ag;refine⟨a,p1,f,ks,[x],rfl,s1 _ _ ha,af,ae,fY.of fZ,λp2 H2 s2 h2 n2=>?_⟩;refine⟨_,rfl,.inr (.inr (.inl ⟨rfl,.inl ⟨_,h2⟩⟩)),_,rfl,_,rfl,a,.ref c,rfl,?_,?_⟩
 . have:=ig.k (k:=Sum.inr x) (s2 _ _ (s1 _ _ ha));rw[jM,if_pos hx,hf] at this;exact this
 have np:H p2=none:=none_of s1 n2;refine⟨p2,c,_,_,rfl,rfl,(λz=>by rw[<-z,np] at hc;cases hc),h2,s2 _ _ (s1 _ _ hc),?_,?_⟩
 . have:=Q0o (λz=>decide (z ∉ [x])) ks;rw[jN,jN];have h3:(gf [x] ks).length<=12:=Q0b this ae;exact Q0k (i2 (by omega))
 refine⟨_,rfl,q p2 _ (λb o e=>?_) fZ np⟩;rw[fV (gc e np)];exact s2 _ _ (s1 _ _ e)
structure jm (H:Hp) (kk t:Addr) (xs:List V) (fs:Fs):Prop where
 at_:H kk=some (.tup [.str "record",.ref t])
 tu:H t=some (.tup xs)
 fa:FA H xs fs
 nd:fs.names.Nodup
 jG:fs.names.length<=12
 W:fs.W
 so:fs.names.Pairwise sle
theorem jm.mono {H H':Hp}{z t:Addr}{xs:List V}{fs:Fs}(h:jm H z t xs fs)(u:Tu H H'):jm H' z t xs fs:=
 ⟨u _ _ h.at_,u _ _ h.tu,FA.mono u fs h.fa,h.nd,h.jG,h.W,h.so⟩
theorem jm.swap {H:Hp}{L t r t' c:Addr}{u:V}{x:Str}{k:Kd}{xs:List V}{fs:Fs}(ss:List Str)(h:jm H L t xs fs)(h1:H r=some (.tup [.str "record",.ref t']))(h2:H t'=some (.tup (pF x (.ref c) (iZ (gf ss fs.names) xs fs.names) (gf ss fs.names))))(hc:H c=some (.tup [.str x,u]))(hk:KA H u k)(hw:k.W)(Y:fs.names.length<=11)(U:x ∉ gf ss fs.names):
 jm H r t' (pF x (.ref c) (iZ (gf ss fs.names) xs fs.names) (gf ss fs.names)) ((fs.f_ (gf ss fs.names)).ins x k):=by
 have z:=i8 ss fs;have hi:((fs.f_ (gf ss fs.names)).ins x k).names=iD id x (gf ss fs.names):=by rw[Fs.lV,z]
 have J:=FA.ins hc hk _ (FA.few (ss:=gf ss fs.names) fs h.fa);rw[z] at J;refine⟨h1,h2,J,?_,?_,Fs.uG hw (Fs.oh _ h.W),?_⟩
 . rw[hi];exact sj (h.nd.filter _) U
 . rw[hi,sm];have:=Q0o (λx=>decide (x ∉ ss)) fs.names;show(fs.names.filter λx=>decide (x ∉ ss)).length+1<=12;omega
 . rw[hi];exact qF x (h.so.filter _)
theorem NH {K:W.Frag}{P2:Addr}{H:Hp}{Q:VK}{E:XK}{kk t c l:Addr}{u:V}{y:Str}{k:Kd}{xs:List V}{fs:Fs}(ss:List Str)(hK:jm H kk t xs fs)(hc:H c=some (.tup [.str y,u]))(hk:KA H u k)(hw:k.W)(U:fs.names.length<=11)(hy:y ∉ gf ss fs.names)(hT:gz P2 jk jl H)
 (hl:H l=some (.lst (iZ (gf ss fs.names) xs fs.names++[.ref c])))
 (q:∀r t' H',iK P2 H H'->gz P2 jk jl H'->jm H' r t' (pF y (.ref c) (iZ (gf ss fs.names) xs fs.names) (gf ss fs.names)) ((fs.f_ (gf ss fs.names)).ins y k)->Q (.ref r) H'):uA K P2 [.ref l] H Q E:=by
 obtain⟨J,e1,L,aa⟩:=jf.of (FA.few (ss:=gf ss fs.names) fs hK.fa);rw[i8] at L;obtain⟨pl,hs⟩:=ll.of hk
 have ae:J.length<=11:=by
  rw[<-qE,L];exact Q0b (Q0o _ _) U
 have ev:gm (J++[(.ref c,y,pl)])=iZ (gf ss fs.names) xs fs.names++[.ref c]:=by
  rw[<-e1];unfold gm;rw[Q0i];rfl
 refine⟨l,J++[(.ref c,y,pl)],iD (·.2.1) (.ref c,y,pl) J,rfl,fY.of (by rw[ev];exact hl),?_,?_,hT,(oj _ _ _).trans (Q2v _ J).symm,?_,?_,λr t' H' kp ab Y ac=>?_⟩
 . intro z hz;rcases List.mem_append.mp hz with h|h
   . exact aa z h
   . rw[List.mem_singleton.mp h];exact⟨c,u,rfl,hc,hs⟩
 . rw[Q0a];show J.length+1<=13;omega
 . rw[ml,L];exact sj (hK.nd.filter _) hy
 . rw[ml,L];exact qF y (hK.so.filter _)
 . have tu:=kp.tu hT;rw[xC,e1,L] at Y;exact q r t' H' kp ab ((hK.mono tu).swap ss ac Y (tu _ _ hc) (hk.mono tu) hw U hy)
noncomputable abbrev iq (fs:Fs) (ss:List Str) (y:Str):Fs:=(fs.f_ (gf ss fs.names)).ins y (.gI (fs.f_ ss))
theorem Fs.F8 {S:List Str}:∀{g:Fs},(∀x∈g.names,x∈S)->g.f_ S=g
 | .nil,_=>rfl
 | .cons x k r,h=>by
   show(if x∈S then Fs.cons x k (r.f_ S) else r.f_ S)=_;rw[if_pos (h x Q05),Fs.F8 λz J=>h z (Q0d _ J)]
theorem Fs.F9 {S:List Str}{y:Str}{k:Kd}(z:y ∉ S):∀g:Fs,(g.ins y k).f_ S=g.f_ S
 | .nil=>by
   show(if y∈S then Fs.cons y k .nil else .nil)=_;rw[if_neg z];rfl
 | .cons x q r=>by
   show(if hZ (gX x) (gX y) then Fs.cons x q (r.ins y k) else .cons y k (.cons x q r)).f_ S=_;split
   . show(if x∈S then Fs.cons x q ((r.ins y k).f_ S) else(r.ins y k).f_ S)=if x∈S then Fs.cons x q (r.f_ S) else r.f_ S
     rw[Fs.F9 z r]
   . show(if y∈S then _ else(Fs.cons x q r).f_ S)=_;rw[if_neg z]
theorem NJ {g:Fs}{y:Str}{k:Kd}(L:y ∉ g.names):(g.ins y k).f_ (gf [y] (g.ins y k).names)=g:=by
 rw[Fs.F9 λz=>(iL.mp z).2 Q05];refine Fs.F8 λx J=>iL.mpr ⟨?_,λz=>L (by rw[<-List.mem_singleton.mp z];exact J)⟩;rw[Fs.lV];exact qG.mpr (.inr J)
theorem uK {H:Hp}{ss A:List Str}:∀(fs:Fs) {J L:List V},(∀x∈fs.names,x∈A↔x ∉ ss)->FA H J (fs.f_ A)->FA H L (fs.f_ ss)->∃Y q2 U,gm Y=J/\gm q2=L/\jf H Y/\jf H q2/\U.Perm (Y++q2)/\nms U=fs.names/\FA H (gm U) fs
 | .nil,J,L,_,h1,h2=>by
   have h1:FA H J .nil:=h1;have h2:FA H L .nil:=h2;unfold FA at h1 h2;subst h1 h2;refine⟨[],[],[],rfl,rfl,(λq hq=>nomatch hq),(λq hq=>nomatch hq),.refl _,rfl,?_⟩;show FA H [] .nil;unfold FA;rfl
 | .cons x k r,J,L,hA,h1,h2=>by
   have aa:=λz (hz:z∈r.names)=>hA z (Q0d _ hz);have h1:FA H J (if x∈A then Fs.cons x k (r.f_ A) else r.f_ A):=h1;have h2:FA H L (if x∈ss then Fs.cons x k (r.f_ ss) else r.f_ ss):=h2;by_cases e:x∈ss
   . rw[if_neg (λz=>(hA x Q05).mp z e)] at h1;rw[if_pos e] at h2;unfold FA at h2;obtain⟨c,u,vr,rfl,hc,hk,h2⟩:=h2;obtain⟨Y,q2,U,e1,e2,p1,p2,pm,en,hf⟩:=uK r aa h1 h2;obtain⟨pl,hs⟩:=ll.of hk;refine⟨Y,(.ref c,x,pl)::q2,(.ref c,x,pl)::U,e1,by rw[<-e2];rfl,p1,λq hq=>?_,(pm.cons _).trans List.perm_middle.symm,by show x::nms U=x::r.names;rw[en],?_⟩
     . rcases List.mem_cons.mp hq with z|z
       . rw[z];exact⟨c,u,rfl,hc,hs⟩
       . exact p2 q z
     . show FA H (.ref c::gm U) (.cons x k r);unfold FA;exact⟨c,u,_,rfl,hc,hk,hf⟩
   . rw[if_pos ((hA x Q05).mpr e)] at h1;rw[if_neg e] at h2;unfold FA at h1;obtain⟨c,u,vr,rfl,hc,hk,h1⟩:=h1;obtain⟨Y,q2,U,e1,e2,p1,p2,pm,en,hf⟩:=uK r aa h1 h2;obtain⟨pl,hs⟩:=ll.of hk;refine⟨(.ref c,x,pl)::Y,q2,(.ref c,x,pl)::U,by rw[<-e1];rfl,e2,λq hq=>?_,p2,pm.cons _,by show x::nms U=x::r.names;rw[en],?_⟩
     . rcases List.mem_cons.mp hq with z|z
       . rw[z];exact⟨c,u,rfl,hc,hs⟩
       . exact p1 q z
     . show FA H (.ref c::gm U) (.cons x k r);unfold FA;exact⟨c,u,_,rfl,hc,hk,hf⟩
theorem NK {ss:List Str}{xs:List V}{ns:List Str}(h:∀x∈ns,x ∉ ss):iZ ss xs ns=[]:=by
 unfold iZ;rw[List.filter_eq_nil_iff.mpr λq J z=>h q.2 (Q1k J).2 (of_decide_eq_true z)];rfl
structure om (fs:Fs):Prop where
 nd:fs.names.Nodup
 mn:fs.names.length<=11
 W:fs.W
 so:fs.names.Pairwise sle
structure mL (K:W.Frag) (mg:Str->Option Value) (C fI fB fS fP fG fK:Addr):Prop where
 ct:Cls K C
 na:mY K C "field"
 uL:Mk K C fI
 m:mg "Unnest"=some (.ref C)
 b:Meth K C "behind" fB
 s:Meth K C "see" fS
 p:Meth K C "put" fP
 g:Meth K C "grade" fG
 k:Meth K C "keeps" fK
abbrev kF (H:Hp) (C v dx:Addr) (y:Str):Prop:=H v=some (.ins C dx [("field",.str y)])
def xG (C:Addr):Sp:=λvs H Q _=>∃v dx y,vs=[.ref v,.str y]/\H v=some (.ins C dx [])/\∀H',(∀c o,c≠v->H c=some o->H' c=some o)->kF H' C v dx y->Q .non H'
def sr (P2 C:Addr):Sp:=λvs H Q _=>∃v J t dx y xs fs,∃ss:List Str,vs=[.ref v,.ref J]/\kF H C v dx y/\jm H J t xs (iq fs ss y)/\om fs/\y ∉ gf ss fs.names/\gz P2 jk jl H/\
 ∀r t' z H',iK P2 H H'->gz P2 jk jl H'->jm H' r t' z fs->Q (.ref r) H'
def F_ (C:Addr):Sp:=λvs H Q _=>∃v J a dx c y,∃f g:Str->V,∃ks z:List Str,vs=[.ref v,J,.ref a]/\kF H C v dx y/\H a=some (.dK (gq f ks))/\ks.Nodup/\ks.length<=12/\y∈ks/\f y=.ref c/\H c=some (.dK (gq g z))/\z.length<=12/\∀p H',Same H H'->H' p=some (.dK (mj (gq f (gf [y] ks)) (gq g z)))->H p=none->Q (.ref p) H'
def Ga:Sp:=λvs H Q _=>∃v,vs=[v]/\Q (.str "full") H
def Gb (C:Addr):Sp:=λvs H Q _=>∃v dx y z,vs=[.ref v,.str z]/\kF H C v dx y/\Q (.bl (decide (z≠y))) H
def uM:Sp:=λvs H Q _=>∃t xs fs,vs=[.ref t]/\H t=some (.tup xs)/\FA H xs fs/\fs.names.length<=12/\∀p H',Same H H'->H' p=some (.lst (fs.names.map V.str))->H p=none->Q (.ref p) H'
section
variable {P:Program}{w:World}{K:W.Frag}{mg:Str->Option Value}{base:Heap}
variable {C P2:Addr}
theorem NL:gM ["fields"] ["fields"] (gn (top 27)):=gT
theorem NM (T:Tb mg)(z:Dn K mg "names_of" nZ (top 27) J L):e_ P w K mg base fW (1) J L nZ (uM):=by
 refine z.F.ok NL λvs H Q E h=>?_;obtain⟨t,xs,fs,rfl,ht,U,ab,q⟩:=h;refine⟨rfl,λac A outer s nd hr hu=>?_⟩;refine⟨_,(fX (f6 (j9 (g:=(oQ K 2 (kZ (iY 0) (kZ (iY 1) oP)))) (tt:=kx) (te:=(gR 0)) (own:=["name","inner"]) rfl (jW (N:=["fields"]) (sc:=gn (top 27))) (jS (pv 0)) (λ_ _ _ _ _=>(jE rfl (ic (gK (i:=0) (show(["name","inner","fields"]:List Str).Nodup by decide +kernel) rfl (Or.inl rfl) (.inr rfl)) (ic (gK (i:=1) (show(["name","inner","fields"]:List Str).Nodup by decide +kernel) rfl (Or.inl rfl) (.inr rfl)) jD)))) (λ_ _ _ _ _=>lb) (λ_ _ _ _ _=>(pv 0))))),?_⟩
 ac_rfl
 have Y:=FA.len fs U;refine⟨_,rfl,t,rfl,⟨_,fU.of ht⟩,mi (mU (fU.of ht)) (λi=>(fs.names.take i).map V.str) (by omega) (λp hp=>q p _ (Same.new hp) ?_ hp) (λi x hx aa _=>?_)⟩
 . rw[fZ,Y,Q0w]
 . obtain⟨c,u,nm,rfl,hc,hz⟩:=xA U hx;exact⟨c,_,rfl,fU.of hc,rfl,_,_,rfl,_,_,rfl,rfl,rfl,yes (ix ⟨_,rfl,aa _ hz⟩)⟩
theorem NN:gM Xq Xq (gn (gB 34 0)):=gT
theorem NP (T:Tb mg)(UF:mL K mg C z U aa ab ac Y)(J:Dm K "__init__" "Unnest.__init__" qu (gB 34 0) z L):e_ P w K mg base fW (1) z L qu (xG C):=by
 refine J.F.ok NN λvs H Q E h=>?_;obtain⟨v,dx,y,rfl,hv,q⟩:=h;refine⟨rfl,λae A outer s nd hr hu=>?_⟩;refine⟨_,(fX (vB (pv 0) (pv 1) rfl)),?_⟩
 ac_rfl
 refine⟨_,rfl,_,rfl,v,C,dx,[],rfl,hv,UF.ct,UF.na,by decide,?_⟩;exact q _ (λc o hc e=>by rw[fV hc];exact e) fZ
theorem NQ:gM ["self"] ["self"] (gn (gB 21 3)):=gT
theorem NR (T:Tb mg)(z:Dm K "grade" "View.grade" ["self"] (gB 21 3) J L):e_ P w K mg base fW (1) J L ["self"] (Ga):=by
 refine z.F.ok NQ λvs H Q E h=>?_;obtain⟨v,rfl,q⟩:=h;refine⟨rfl,λU A outer s Y hr hu=>?_⟩;refine⟨_,(fX (f6 gH)),?_⟩
 ac_rfl
 exact q
theorem NT:gM Xs Xs (gn (gB 34 4)):=gT
theorem NU (T:Tb mg)(UF:mL K mg C Y aa ab ac ae J)(L:Dm K "keeps" "Unnest.keeps" ua (gB 34 4) J U):e_ P w K mg base fW (1) J U ua (Gb C):=by
 refine L.F.ok NT λvs H Q E h=>?_;obtain⟨v,dx,y,z,rfl,hV,q⟩:=h;refine⟨rfl,λaf A outer s nd hr hu=>?_⟩;refine⟨_,(fX (f6 (jK jF (pv 1) (kq (pv 0) rfl) (gj _)))),?_⟩
 ac_rfl
 refine⟨_,rfl,_,rfl,v,C,dx,_,_,rfl,hV,UF.ct,UF.na,rfl,rfl,?_⟩
 have e:decide (z≠y)= !decide (V.str z=V.str y):=by
  by_cases h:z=y
  . rw[decide_eq_false (λz'=>z' h),decide_eq_true (by rw[h])];rfl
  . rw[decide_eq_true h,decide_eq_false (λz'=>h (V.str.inj z'))];rfl
 rw[e] at q;exact q
theorem NV:gM XJ XJ (gn (gB 34 2)):=gT
theorem NW (T:Tb mg)(UF:mL K mg C ac ae z ag ah af)(J:Dm K "see" "Unnest.see" n0 (gB 34 2) z L)(U:Dn K mg "unnested" t_ (top 32) Y aa)(ab:e_ P w K mg base fW (3) Y aa t_ (F7)):e_ P w K mg base fW (4) z L n0 (F_ C):=by
 refine J.F.ok NV λvs H Q E h=>?_;obtain⟨v,kv,a,dx,c,y,f,g,ks,ms,rfl,hV,ha,ai,aj,hy,hf,hc,hm,q⟩:=h;refine⟨rfl,λak A outer s nd hr hu=>?_⟩;refine⟨_,(fX (f6 (f9 ab hr U (a_ (pv 2) (a_ (kq (pv 0) rfl) c_))))),?_⟩
 ac_rfl
 exact⟨_,rfl,_,rfl,v,C,dx,_,_,rfl,hV,UF.ct,UF.na,rfl,a,c,y,f,g,ks,ms,rfl,ha,ai,aj,hy,hf,hc,hm,q⟩
theorem xH:gM ["self","kind","inner","rest"] Xc (gn (gB 34 1)):=gT
theorem NX (T:Tb mg)(UF:mL K mg C aA J aF aG aH aB)(Y:Dm K "behind" "Unnest.behind" kB (gB 34 1) J aa)(ag:Dn K mg "field_kind" nY (top 23) ah ai)(aj:e_ P w K mg base fW (2) ah ai nY (uI))(L:Dn K mg "ask_stands" mI (top 20) ak al)(U:e_ P w K mg base fW (1) ak al mI (uC))(aq:Dn K mg "record_of" mh (top 8) ar au)(av:e_ P w K mg base fW (9) ar au mh (uA K P2))(am:Dn K mg "fields_but" kh (top 26) an ao)(ap:e_ P w K mg base fW (1) an ao kh (uJ K))(ab:Dn K mg "fields_among" kh (top 25) ac ae)(af:e_ P w K mg base fW (1) ac ae kh (uD false K))(aw:Dn K mg "names_of" nZ (top 27) ax ay)(az:e_ P w K mg base fW (1) ax ay nZ (uM)):e_ P w K mg base fW (10) J aa kB (sr P2 C):=by
 refine Y.F.ok xH λvs H Q E h=>?_;obtain⟨v,kk,t,dx,y,xs,fs,ss,rfl,hV,hK,hF,hy,hT,q⟩:=h;refine⟨rfl,λbb A outer s nd hr hu=>?_⟩
 refine⟨_,(fT (gv 2 nd (f9 aj hr ag (a_ (pv 1) (a_ (kq (pv 0) rfl) c_))))
  (fT (kY (f9 U hr L (a_ (kH (jK j6 (pv 2) iB (gj _)) (lD (jK gL (f7 (pv 2) d_) gH (gj _)))) c_)))
  (fT (gv 3 nd (f9 ap hr am (a_ (f7 (pv 1) d_) (a_ (iM (a_ (kq (pv 0) rfl) c_)) c_))))
  (fT (kY (f9 U hr L (a_ (jK gL (gA i9 (by rfl) T.iI PySem.boot_len (a_ (f9 af hr ab (a_ (pv 3) (a_ (f9 az hr aw (a_ (f7 (pv 2) d_) c_)) c_))) c_)) d_ (gj _)) c_)))
  (fX (f6 (f9 av hr aq (a_ (gh pR (pv 3) (jZ pQ (by rfl) T.j_ boot_list (a_ (f7 (pv 2) d_) c_))) c_)))))))),?_⟩
 ac_rfl
 have aO:y ∉ (fs.f_ (gf ss fs.names)).names:=by rw[i8];exact hy
 have aW:(iq fs ss y).get y=some (.gI (fs.f_ ss)):=by rw[Fs.l7 _ _ _ aO,if_pos rfl]
 refine⟨_,rfl,_,rfl,v,C,dx,_,_,rfl,hV,UF.ct,UF.na,rfl,kk,t,y,xs,_,_,rfl,hK.at_,hK.tu,hK.fa,hK.nd,aW,λu hu aY=>?_⟩;unfold KA at hu;obtain⟨c1,t1,ys,rfl,aI,aP,aJ⟩:=hu;refine⟨_,rfl,rfl,_,rfl,?_⟩;rw[decide_eq_false aY];refine ix ?_;refine⟨_,rfl,c1,_,_,_,rfl,rfl,fU.of aI,rfl,rfl,?_⟩;refine⟨congrArg (λb=>[V.bl b]) (decide_eq_true rfl),?_⟩;refine⟨_,rfl,kk,_,_,_,rfl,rfl,fU.of hK.at_,rfl,_,rfl,v,C,dx,_,_,rfl,hV,UF.ct,UF.na,rfl,jV,λp1 aZ=>?_⟩;have s1:Same H (upd H p1 (.lst [.str y])):=Same.new aZ;have aK:=hK.mono (Tu.of s1);refine⟨t,p1,xs,_,[y],rfl,aK.tu,aK.fa,aK.jG,fY.of fZ,λp2 H2 s2 h2 n2=>?_⟩;have aD:=s1.trans s2;have a3:=hK.mono (Tu.of aD);have aE:=FA.few (ss:=gf [y] (iq fs ss y).names) _ a3.fa;rw[NJ aO] at aE;generalize iZ (gf [y] (iq fs ss y).names) xs (iq fs ss y).names=xr at h2 aE;have l1:(gf ss fs.names).length<=11:=Q0b (Q0o _ _) hF.mn;have l2:(fs.f_ ss).names.length<=11:=by rw[Fs.jx];exact Q0b (Q0o _ _) hF.mn
 have aX:=FA.mono (Tu.of aD) _ aJ;refine⟨_,rfl,_,rfl,c1,_,_,_,rfl,rfl,fU.of (aD _ _ aI),rfl,t1,ys,_,rfl,aD _ _ aP,aX,by omega,λp3 H3 s3 h3 n3=>?_⟩;refine⟨p2,p3,xr,_,(fs.f_ ss).names,rfl,s3 _ _ h2,FA.mono (Tu.of s3) _ aE,by rw[i8];omega,fY.of h3,λp4 H4 s4 h4 n4=>?_⟩
 rw[NK (λx hx z=>by
  rw[i8] at hx;rw[Fs.jx] at z;exact(iL.mp hx).2 (of_decide_eq_true (List.mem_filter.mp z).2))] at h4
 have aM:=aD.trans (s3.trans s4);have aT:=s3.trans s4;refine⟨p4,_,rfl,.inl (fY.of h4),rfl,?_⟩;refine⟨congrArg (λb=>[V.bl b]) (decide_eq_true rfl),?_⟩;refine⟨_,rfl,_,rfl,c1,_,_,_,rfl,rfl,fU.of (aM _ _ aI),rfl,t1,_,rfl,.inr (fU.of (aM _ _ aP)),λp5 a4=>?_⟩;have s5:Same H4 (upd H4 p5 (.lst ys)):=Same.new a4;have ly:=FA.len _ aJ;have lx:=FA.len _ aE;rw[i8] at lx;refine⟨p2,p5,_,_,rfl,rfl,s5 _ _ (aT _ _ h2),fZ,Q0k (i2 (by omega)),λp6 aU=>?_⟩;have aN:=(aM.trans s5).trans (Same.new aU (o:=.lst (xr++ys)));have a5:=(aT.trans s5).trans (Same.new aU (o:=.lst (xr++ys)));obtain⟨q1,q2,rs,e1,e2,a6,a7,pm,en,hf⟩:=uK fs (A:=gf ss fs.names) (λx hx=>⟨λz=>(iL.mp z).2,λz=>iL.mpr ⟨hx,z⟩⟩) (FA.mono (Tu.of a5) _ aE) (FA.mono (Tu.of aN) _ aJ);have aV:=hT.same aN
 have lq:q1.length+q2.length<=22:=by
  have a1:(gm q1).length=q1.length:=Q04 _;have a2:(gm q2).length=q2.length:=Q04 _;rw[e1] at a1;rw[e2] at a2;omega
 have lr:(q1++q2).length<=13:=by
  rw[<-pm.length_eq];have a1:(nms rs).length=rs.length:=Q04 _;rw[en] at a1;have:=hF.mn;omega
 refine⟨p6,q1++q2,rs,rfl,fY.of (by unfold gm at e1 e2 ⊢;rw[Q0i,e1,e2];exact fZ),λq hq=>?_,lr,aV,pm,by rw[en];exact hF.nd,by rw[en];exact hF.so,λr t' H' kp a8 a9 ba=>?_⟩
 . rcases List.mem_append.mp hq with z|z
   . exact a6 q z
   . exact a7 q z
 . exact q r t' _ H' ((Kp.of aN).trans kp) a8 ⟨ba,a9,FA.mono (kp.tu aV) _ hf,hF.nd,by have:=hF.mn;omega,hF.W,hF.so⟩
end
structure su (K:W.Frag) (mg:Str->Option Value) (C fI fB fS:Addr):Prop where
 ct:Cls K C
 na:mY K C "names"
 ni:mY K C "into"
 uL:Mk K C fI
 m:mg "Nest"=some (.ref C)
 b:Meth K C "behind" fB
 s:Meth K C "see" fS
structure pG (H:Hp) (C v dx nl:Addr) (ss:List Str) (y:Str):Prop where
 ob:H v=some (.ins C dx [("names",.ref nl),("into",.str y)])
 nl:H nl=some (.lst (ss.map V.str))
 nd:ss.Nodup
 jG:ss.length<=12
theorem pG.same {H H':Hp}{C v dx z:Addr}{ss:List Str}{y:Str}(h:pG H C v dx z ss y)(s:Same H H'):pG H' C v dx z ss y:=⟨s _ _ h.ob,s _ _ h.nl,h.nd,h.jG⟩
def Gc (K:W.Frag) (C:Addr):Sp:=λvs H Q _=>∃v hl dx y,∃ss:List Str,vs=[.ref v,.ref hl,.str y]/\H v=some (.ins C dx [])/\fY K H hl (ss.map V.str)/\ss.Nodup/\ss.length<=12/\∀p H',H p=none->(∀c o,c≠v->H c=some o->H' c=some o)->pG H' C v dx p ss y->Q .non H'
def Gd (P2 C:Addr):Sp:=λvs H Q _=>∃v z t dx U y xs fs ss,vs=[.ref v,.ref z]/\pG H C v dx U ss y/\jm H z t xs fs/\fs.names.length<=11/\(∀x∈ss,x∈fs.names)/\y ∉ gf ss fs.names/\gz P2 jk jl H/\
 ∀r t' c J L H',iK P2 H H'->gz P2 jk jl H'->H c=none->H' c=some (.tup [.str y,.ref J])->H' J=some (.tup [.str "record",.ref L])->H' L=some (.tup (iZ ss xs fs.names))->jm H' r t' (pF y (.ref c) (iZ (gf ss fs.names) xs fs.names) (gf ss fs.names)) ((fs.f_ (gf ss fs.names)).ins y (.gI (fs.f_ ss)))->Q (.ref r) H'
def Ge (C:Addr):Sp:=λvs H Q _=>∃v z a dx J y,∃f:Str->V,∃ks ss:List Str,vs=[.ref v,z,.ref a]/\pG H C v dx J ss y/\H a=some (.dK (gq f ks))/\ks.Nodup/\ks.length<=12/\(∀x∈ss,x∈ks)/\y ∉ gf ss ks/\∀p c H',Same H H'->H' p=some (.dK (gq (nz f y (.ref c)) (gf ss ks++[y])))->H' c=some (.dK (gq f ss))->H p=none->H c=none->p≠c->Q (.ref p) H'
theorem FA.NY {H:Hp}{z J L t:Addr}{xs:List V}{fs:Fs}(ss:List Str)(hK:jm H L t xs fs)(h1:H z=some (.tup [.str "record",.ref J]))(h2:H J=some (.tup (iZ ss xs fs.names))):KA H (.ref z) (.gI (fs.f_ ss))/\(Kd.gI (fs.f_ ss)).W:=by
 refine⟨?_,?_⟩
 . unfold KA;exact⟨z,J,_,rfl,h1,h2,FA.few fs hK.fa⟩
 . unfold Kd.W;exact⟨by rw[Fs.jx];exact hK.nd.filter _,by rw[Fs.jx];exact Q0b (Q0o _ _) hK.jG,Fs.oh ss hK.W⟩
section
variable {P:Program}{w:World}{K:W.Frag}{mg:Str->Option Value}{base:Heap}
variable {C P2:Addr}
theorem NZ:gM Xh Xh (gn (gB 33 0)):=gT
theorem N0 (T:Tb mg)(NF:su K mg C z U Y)(J:Dm K "__init__" "Nest.__init__" ub (gB 33 0) z L):e_ P w K mg base fW (1) z L ub (Gc K C):=by
 refine J.F.ok NZ λvs H Q E h=>?_;obtain⟨v,hl,dx,y,ss,rfl,hv,hs,ab,ac,q⟩:=h;refine⟨rfl,λae A outer s nd hr hu=>?_⟩
 refine⟨_,(fT (vB (pv 0) (jZ pQ (by rfl) T.j_ boot_list (a_ (pv 1) c_)) rfl)
  (fX (vB (pv 0) (pv 2) rfl))),?_⟩
 ac_rfl
 refine⟨_,rfl,hl,_,rfl,.inl hs,λp hp=>?_⟩;have aa:v≠p:=gc hv hp;refine⟨_,rfl,v,C,dx,[],rfl,by rw[fV aa];exact hv,NF.ct,NF.na,by decide,?_⟩;refine⟨_,rfl,_,rfl,v,C,dx,_,rfl,fZ,NF.ct,NF.ni,by show(1:Nat)<1000;decide,?_⟩;refine q p _ hp (λc o hc e=>by rw[fV hc,fV hc,fV (gc e hp)];exact e) ⟨fZ,?_,ab,ac⟩;rw[fV (Ne.symm aa),fV (Ne.symm aa),fZ]
theorem N1:gM XJ XJ (gn (gB 33 2)):=gT
theorem N2 (T:Tb mg)(NF:su K mg C U ae z)(J:Dm K "see" "Nest.see" n0 (gB 33 2) z L)(Y:Dn K mg "nested" qt (top 31) aa ab)(ac:e_ P w K mg base fW (3) aa ab qt (xF K)):e_ P w K mg base fW (4) z L n0 (Ge C):=by
 refine J.F.ok N1 λvs H Q E h=>?_;obtain⟨v,kv,a,dx,nl,y,f,ks,ss,rfl,hV,ha,af,ag,ah,hy,q⟩:=h;refine⟨rfl,λai A outer s nd hr hu=>?_⟩;refine⟨_,(fX (f6 (f9 ac hr Y (a_ (pv 2) (a_ (kq (pv 0) rfl) (a_ (kq (pv 0) rfl) c_)))))),?_⟩
 ac_rfl
 exact⟨_,rfl,_,rfl,v,C,dx,_,_,rfl,hV.ob,NF.ct,NF.na,rfl,_,rfl,v,C,dx,_,_,rfl,hV.ob,NF.ct,NF.ni,rfl,a,nl,y,f,ks,ss,rfl,ha,af,ag,fY.of hV.nl,hV.nd,hV.jG,ah,hy,q⟩
theorem N3:gM ["self","kind","rest"] Xc (gn (gB 33 1)):=gT
theorem N5 (T:Tb mg)(NF:su K mg C aA J aH)(ag:Dm K "behind" "Nest.behind" kB (gB 33 1) J ah)(ab:Dn K mg "has_each_once" t7 (top 24) ac ae)(af:e_ P w K mg base fW (3) ac ae t7 (FU K))(L:Dn K mg "ask_stands" mI (top 20) am an)(U:e_ P w K mg base fW (1) am an mI (uC))(aw:Dn K mg "kind_at" j2 (top 6) ax ay)(az:e_ P w K mg base fW (1) ax ay j2 (F3 K))(Y:Dn K mg "record_of" mh (top 8) au av)(aa:e_ P w K mg base fW (9) au av mh (uA K P2))(ao:Dn K mg "fields_but" kh (top 26) ap aq)(ar:e_ P w K mg base fW (1) ap aq kh (uJ K))(ai:Dn K mg "fields_among" kh (top 25) aj ak)(al:e_ P w K mg base fW (1) aj ak kh (uD true K)):e_ P w K mg base fW (10) J ah kB (Gd P2 C):=by
 refine ag.F.ok N3 λvs H Q E h=>?_;obtain⟨v,kk,t,dx,nl,y,xs,fs,ss,rfl,hV,hK,aX,aY,hy,hT,q⟩:=h;refine⟨rfl,λa7 A outer s nd hr hu=>?_⟩
 refine⟨_,(fT (kY (f9 U hr L (a_ (f9 af hr ab (a_ (pv 1) (a_ (kq (pv 0) rfl) c_))) c_)))
  (fT (gv 2 nd (f9 ar hr ao (a_ (f7 (pv 1) d_) (a_ (kq (pv 0) rfl) c_))))
  (fT (kY (f9 U hr L (a_ (jK vy (f9 az hr aw (a_ (pv 2) (a_ (kq (pv 0) rfl) c_))) iB (gj _)) c_)))
  (fX (f6 (f9 aa hr Y (a_ (gh pR (pv 2) (iM (a_ (jd (a_ (kq (pv 0) rfl) (a_ (f9 aa hr Y (a_ (f9 al hr ai (a_ (f7 (pv 1) d_) (a_ (kq (pv 0) rfl) c_))) c_)) c_))) c_))) c_))))))),?_⟩
 ac_rfl
 refine⟨_,rfl,_,rfl,v,C,dx,_,_,rfl,hV.ob,NF.ct,NF.na,rfl,kk,t,nl,xs,fs,ss,rfl,hK.at_,hK.tu,hK.fa,hK.nd,fY.of hV.nl,hV.nd,hV.jG,aY,λH1 s1=>⟨rfl,?_⟩⟩;have aE:=hK.mono (Tu.of s1);have aK:=hV.same s1;refine⟨_,rfl,kk,_,_,_,rfl,rfl,fU.of aE.at_,rfl,_,rfl,v,C,dx,_,_,rfl,aK.ob,NF.ct,NF.na,rfl,t,nl,xs,fs,ss,rfl,aE.tu,aE.fa,aE.jG,fY.of aK.nl,λp2 H2 s2 h2 n2=>?_⟩;have aI:=s1.trans s2;have aD:=hK.mono (Tu.of aI);have aF:=hV.same aI;have aW:=FA.few (ss:=gf ss fs.names) fs aD.fa;refine⟨_,rfl,_,rfl,v,C,dx,_,_,rfl,aF.ob,NF.ct,NF.ni,rfl,p2,y,_,_,rfl,h2,aW,by rw[i8];exact hy,rfl,?_⟩;refine⟨congrArg (λb=>[V.bl b]) (decide_eq_true rfl),?_⟩;refine⟨_,rfl,_,rfl,v,C,dx,_,_,rfl,aF.ob,NF.ct,NF.ni,rfl,?_⟩;refine⟨_,rfl,kk,_,_,_,rfl,rfl,fU.of aD.at_,rfl,_,rfl,v,C,dx,_,_,rfl,aF.ob,NF.ct,NF.na,rfl,t,nl,xs,fs,ss,rfl,aD.tu,aD.fa,aD.jG,fY.of aF.nl,λp3 H3 s3 h3 n3=>?_⟩;have aB:=aI.trans s3;have aM:=hK.mono (Tu.of aB);obtain⟨qs,e1,e2,aZ⟩:=jf.of (FA.few (ss:=ss) fs aM.fa);rw[<-e1] at h3
 have a8:qs.length<=12:=by
  rw[<-qE,e2,Fs.jx];exact Q0b (Q0o _ _) hK.jG
 refine⟨p3,qs,qs,rfl,fY.of h3,aZ,by omega,hT.same aB,.refl _,by rw[e2,Fs.jx];exact hK.nd.filter _,by rw[e2,Fs.jx];exact hK.so.filter _,λr1 t1 H4 aG aN pH aO=>?_⟩;rw[e1] at pH;have a1:=aG.tu (hT.same aB);have aP:=aM.mono a1;obtain⟨a2,kw⟩:=FA.NY ss aP aO pH;obtain⟨ps,hP⟩:=(hT.same aB).tab;have nP:∀c o,H3 c=some o->(∀ps,o≠ .gQ ps)->H4 c=some o:=λc o e ho=>aG c o (λz=>by rw[z,hP] at e;cases e;exact ho _ rfl) e;refine⟨jj,λc hc=>?_⟩;refine⟨jV,λp5 a3=>?_⟩;have s5:Same H4 (upd H4 c (.tup [.str y,.ref r1])):=Same.new hc;have s6:Same (upd H4 c (.tup [.str y,.ref r1])) (upd (upd H4 c (.tup [.str y,.ref r1])) p5 (.lst [.ref c])):=Same.new a3
 have a6:(iZ (gf ss fs.names) xs fs.names).length<=12:=by
  rw[FA.len _ (FA.few (ss:=gf ss fs.names) fs hK.fa),i8];exact Q0b (Q0o _ _) hK.jG
 refine⟨p2,p5,_,_,rfl,rfl,s6 _ _ (s5 _ _ (nP _ _ (s3 _ _ h2) (by intro ps z;cases z))),fZ,Q0k (i2 (by show _+1<=_;omega)),λp7 aT=>?_⟩;have s7:=(s5.trans s6).trans (Same.new aT (o:=.lst (iZ (gf ss fs.names) xs fs.names++[.ref c])));have aU:=s6.trans (Same.new aT (o:=.lst (iZ (gf ss fs.names) xs fs.names++[.ref c])));have aV:=aN.same s7;refine NH (K:=K) (P2:=P2) (E:=E0) ss (aP.mono (Tu.of s7)) (aU _ _ fZ) (a2.mono (Tu.of s7)) kw aX hy aV fZ λr t' H' kp a4 a5=>?_;have aJ:=kp.tu aV;refine q r t' c r1 t1 H' ((Kp.of aB).trans (aG.trans ((Kp.of s7).trans kp))) a4 ?_ (aJ _ _ (aU _ _ fZ)) (aJ _ _ (s7 _ _ aO)) (aJ _ _ (s7 _ _ pH)) a5
 cases e:H c with
 |none=>rfl
 |some o=>
  by_cases z:c=P2
  . obtain⟨a9,h2⟩:=aN.tab;rw[<-z,hc] at h2;cases h2
  . have:=aG c o z (aB _ _ e);rw[hc] at this;cases this
end
def Gf (n:Nat):Sp:=λvs H Q _=>∃z t a xs fs kvs,∃J:Str->D,∃S:List Addr,vs=[.ref z,.ref a]/\jm H z t xs fs/\H a=some (.dK kvs)/\RecAt S n H fs kvs J/\∀H',Same H H'->Q .non H'
noncomputable abbrev Gg:List Value:=[.type "ValueError",.type "Exception",.type "BaseException",.type "object"]
structure xI (K:W.Frag) (mg:Str->Option Value) (base:Heap) (x:Str) (C fI:Addr):Prop where
 xi:n_ base C fI Gg "ValueError.__new__"
 kp:W.keepIn K (.ref C)=true
 m:mg x=some (.ref C)
 fld:og K C "way"
 cls:qg K C
 ty:W.typeIn K (.ref C)=some (.type "type")
 is:(W.clsIn K C).isSome=true
 bx:W.subIn K (.ref C) (.type "BaseException")=some true
 sub:W.subIn K (.ref C) (.ref C)=some true
abbrev xJ (K:W.Frag) (mg:Str->Option Value) (base:Heap) (C fI:Addr):Prop:=xI K mg base "CantPut" C fI
abbrev xK (K:W.Frag) (mg:Str->Option Value) (base:Heap) (C fI:Addr):Prop:=xI K mg base "NoView" C fI
theorem uN {P:Program}{w:World}{K:W.Frag}{mg:Str->Option Value}{base:Heap}{x qual:Str}{st:Stmt}{f:Addr}{fd:FuncData}{N ps:List Str}{k:Nat}{sp:Sp}(F:l8 K x qual st f fd)(S:gM N ps (gn st))(len:∀vs H Q E,sp vs H Q E->vs.length=ps.length)
 (J:∀(z:Value) (A:Around) (outer:List Env) (s:Shared) (H:Hp) (vs:List V) (Q:VK) (E:XK),ie k (A.deeper (envOfC qual (gn st) s.heap.objs.size f z))->sp vs H Q E->
   ∃t,j4 (gD (ki P w) P w K mg base N qual (gn st) f z A outer s H E) (i3 st) t/\t { nx:=λ_ H'=>Q .non H',rt:=Q } (start N vs) H):e_ P w K mg base (ki P w) (k+1) f fd ps sp:=by
 obtain⟨oc,od,kV,aa,pm,an,z,ct,ab,rfl,Y,L⟩:=F.ex;refine vG Y L S len λA outer s H vs Q E hr U=>?_;exact J z A outer s H vs Q E hr U
theorem toD {P:Program}{w:World}{K:W.Frag}{mg:Str->Option Value}{base:Heap}{CX:jU}{k:Nat}{f:Addr}{fd:FuncData}{ps:List Str}{sp:Sp}(F:e_ P w K mg base fW k f fd ps sp):e_ P w K mg base CX k f fd ps sp:=
 ⟨F.len,λA outer s H args us vs Q E z J L U Y=>codeAny_mono (F.run A outer s H args us vs Q E z J L U Y) λr s' h=>by
   cases r with
   |error e=>exact False.elim h
   |ok fl=>cases fl <;> exact h⟩
theorem Gh {X:Cx}{K:W.Frag}{e:Expr}{ta:TE}{f:Str}{pos:Pos}(hK:X.K=K)(z:PE X e ta)(J:attributeBase e f X.env (eval e X.env)=eval e X.env):PE X (.Attribute e f pos) (FE K ta f):=by
 subst hK;exact MI z J
def Wr (S:List Addr) (n:Nat) (H:Hp) (fs:Fs) (v:V) (pl:List V):Prop:=
 ∃a kvs,v=.ref a/\H a=some (.dK kvs)/\((kvs.length≠fs.names.length/\pl=[])\/∃(y:Str) (z:Str->D),kvs.length=fs.names.length/\y∈fs.names/\gO kvs (Sum.inr y)=some .non/\pl=[.str y]/\
  ∀x k,x≠y->fs.get x=some k->∃v fp,gO kvs (Sum.inr x)=some v/\Own H v (z x) fp/\(∀c∈fp,c ∉ S)/\ij k (z x)/\(z x).dep<=n/\(z x).Sm)
theorem Wr.keep {S:List Addr}{n:Nat}{H H':Hp}{fs:Fs}{v:V}{pl:List V}(h:Wr S n H fs v pl)(t:Tu H H')(k:∀c o,c ∉ S->H c=some o->H' c=some o)(J:∀c kvs,H c=some (.dK kvs)->H' c=some (.dK kvs)):Wr S n H' fs v pl:=by
 obtain⟨a,kvs,e,L,h⟩:=h;refine⟨a,kvs,e,J _ _ L,?_⟩;rcases h with h|⟨y,δ,h1,h2,U,Y,h5⟩
 . exact .inl h
 . refine .inr ⟨y,δ,h1,h2,U,Y,λx q hx hq=>?_⟩;obtain⟨v,fp,g1,g2,z,g4⟩:=h5 x q hx hq;exact⟨v,fp,g1,Own.keep t _ (λc hc o e=>k c o (z c hc) e) g2,z,g4⟩
def sx (K:W.Frag) (C:Addr):Sp:=λvs H Q _=>∃a z J,vs=[.ref a,.ref z]/\H a=some (nv a C)/\fY K H z J/\∀p dx H',p≠a->dx≠a->(∀c o,c≠a->H c=some o->H' c=some o)->H' a=some (MadeX a C dx)->H' dx=some (.xd [("way",.ref p)])->H' p=some (.lst J)->Q .non H'
def Gi (iP:Addr) (n:Nat):Sp:=λvs H _ E=>∃z t v xs fs pl S,vs=[.ref z,v]/\jm H z t xs fs/\Wr S n H fs v pl/\∀dx p H',Same H H'->H' dx=some (.xd [("way",.ref p)])->H' p=some (.lst pl)->E (.ref iP) (some dx) H'
def Gj (jn:Addr):Sp:=λvs H _ E=>vs=[.bl false]/\∀dx p H',Same H H'->H' dx=some (.xd [("way",.ref p)])->H' p=some (.lst [])->E (.ref jn) (some dx) H'
def Gk (jn C:Addr):Sp:=λvs H _ E=>∃v L t dx y xs z J,vs=[.ref v,.ref L]/\kF H C v dx y/\jm H L t xs z/\z.get y=some (.gI J)/\J.names.length<=12/\(∃x∈J.names,x∈z.names/\x≠y)/\∀dx p H',Same H H'->H' dx=some (.xd [("way",.ref p)])->H' p=some (.lst [])->E (.ref jn) (some dx) H'
def uO (sp:Sp):Prop:=∀vs H Q J E L,(∀z H,Q z H->J z H)->(∀c d H,E c d H->L c d H)->sp vs H Q E->sp vs H J L
def xM (iP C:Addr) (sp:Sp):Sp:=λvs H Q _=>∃v U src w,vs=[.ref v,.ref U,src,w]/\(∃dx L,H v=some (.ins C dx L)/\L.lookup ("put":Str)=none)/\
 sp vs H (λz H'=>∀J H2,Same H' H2->H2 J=some (.tup [.str "done",z])->Q (.ref J) H2)
  (λY dd H'=>Y=.ref iP/\∃dx p,dd=some dx/\H' dx=some (.xd [("way",.ref p)])/\∀J H2,Same H' H2->H2 J=some (.tup [.str "refused",.ref p])->Q (.ref J) H2)
def Gm (jn C:Addr) (sp:Sp):Sp:=λvs H Q _=>∃v J,vs=[.ref v,.ref J]/\(∃dx z,H v=some (.ins C dx z)/\z.lookup ("behind":Str)=none)/\
 sp vs H Q (λL U H'=>L=.ref jn/\∃dx p,U=some dx/\H' dx=some (.xd [("way",.ref p)])/\∀H2,Same H' H2->Q (.ref p) H2)
structure Db (K:W.Frag) (fd:FuncData) (ps:List Str):Prop where
 b:Binds K fd ps []
section
variable {P:Program}{w:World}{K:W.Frag}{mg:Str->Option Value}{base:Heap}
variable {C P2 iP jn:Addr}
theorem xN:gM ["kind","seen","place"] ["kind","seen"] (gn (top 19)):=gT
theorem N6 (n j:Nat)(T:Tb mg)(z:Dn K mg "ask_fit" n6 (top 19) J L)(U:Dn K mg "misfit" jb (top 10) Y aa)(ab:e_ P w K mg base fW (j+3) Y aa jb (xp K n)):e_ P w K mg base fW (j+4) J L n6 (Gf n):=by
 refine z.F.ok xN λvs H Q E h=>?_;obtain⟨kk,t,a,xs,fs,kvs,δ,S,rfl,hK,ha,hR,q⟩:=h;refine⟨rfl,λac A outer s nd hr hu=>?_⟩
 refine⟨_,(fT (gv 2 nd (f9 ab hr U (a_ (pv 0) (a_ (pv 1) c_))))
  (fX (gp (gw j6 (pv 2) iB (gj _)) (fX qT) gu))),?_⟩
 ac_rfl
 refine⟨_,rfl,_,rfl,kk,t,.ref a,rfl,hK.at_,t,.ref a,xs,fs,rfl,hK.tu,hK.fa,hK.nd,hK.jG,hK.W,.inr ⟨a,kvs,rfl,ha,.inr (.inr ⟨δ,S,hR,λH' s1=>?_⟩)⟩⟩;refine⟨_,rfl,rfl,_,rfl,?_⟩;rw[decide_eq_true rfl];exact gP (q _ s1)
theorem N7:gM XZ XZ (gn (gB 4 0)):=gT
theorem N8 (T:Tb mg)(XC:xJ K mg base iP z)(J:Dm K "__init__" "CantPut.__init__" n8 (gB 4 0) z L):e_ P w K mg base fW (1) z L n8 (sx K iP):=by
 refine J.F.ok N7 λvs H Q E h=>?_;obtain⟨a,p0,ws,rfl,ha,hs,q⟩:=h;refine⟨rfl,λac A outer s nd hr hu=>?_⟩;refine⟨_,(fX (Fy (pv 0) (jZ pQ (by rfl) T.j_ boot_list (a_ (pv 1) c_)) rfl)),?_⟩
 ac_rfl
 refine⟨_,rfl,p0,_,rfl,.inl hs,λp hp=>?_⟩;have U:a≠p:=gc ha hp;refine⟨_,rfl,a,iP,rfl,by rw[fV U];exact ha,XC.fld,λdx Y aa=>?_⟩;have ab:p≠dx:=gc (H:=upd H p (.lst ws)) fZ Y;refine q p dx _ (Ne.symm U) aa (λc o hc e=>?_) fZ ?_ ?_
 . have e1:upd H p (.lst ws) c=some o:=by rw[fV (gc e hp)];exact e
   rw[fV hc,fV (gc e1 Y)];exact e1
 . rw[fV aa,fZ]
 . rw[fV (Ne.symm U),fV ab,fZ]
theorem N9:gM XZ XZ (gn (gB 3 0)):=gT
theorem N_ (T:Tb mg)(XC:xK K mg base jn z)(J:Dm K "__init__" "NoView.__init__" n8 (gB 3 0) z L):e_ P w K mg base fW (1) z L n8 (sx K jn):=by
 refine J.F.ok N9 λvs H Q E h=>?_;obtain⟨a,p0,ws,rfl,ha,hs,q⟩:=h;refine⟨rfl,λac A outer s nd hr hu=>?_⟩;refine⟨_,(fX (Fy (pv 0) (jZ pQ (by rfl) T.j_ boot_list (a_ (pv 1) c_)) rfl)),?_⟩
 ac_rfl
 refine⟨_,rfl,p0,_,rfl,.inl hs,λp hp=>?_⟩;have U:a≠p:=gc ha hp;refine⟨_,rfl,a,jn,rfl,by rw[fV U];exact ha,XC.fld,λdx Y aa=>?_⟩;have ab:p≠dx:=gc (H:=upd H p (.lst ws)) fZ Y;refine q p dx _ (Ne.symm U) aa (λc o hc e=>?_) fZ ?_ ?_
 . have e1:upd H p (.lst ws) c=some o:=by rw[fV (gc e hp)];exact e
   rw[fV hc,fV (gc e1 Y)];exact e1
 . rw[fV aa,fZ]
 . rw[fV (Ne.symm U),fV ab,fZ]
theorem Oa (T:Tb mg)(XC:xK K mg base jn z)(Y:Dn K mg "ask_stands" mI (top 20) aa ab)(J:Dm K "__init__" "NoView.__init__" n8 (gB 3 0) z L)(U:e_ P w K mg base fW (1) z L n8 (sx K jn)):e_ P w K mg base (ki P w) 4 aa ab mI (Gj jn):=by
 refine uN (k:=3) Y.F xx (λvs H Q E h=>?_) (λaj A outer s H vs Q E hr h=>?_)
 . obtain⟨rfl,_⟩:=h;rfl
 obtain⟨rfl,q⟩:=h;have nd:=xx.nd;refine⟨_,(fX (gp (ia (gZ (pv 0))) (fX (FC rfl XC.xi PySem.F.excBase_ValueError XC.kp U (hr.mono (by decide)) rfl rfl XC.m J.b FD (a_ (iM c_) c_))) gu)),?_⟩
 ac_rfl
 refine⟨_,rfl,false,rfl,ix ?_⟩;refine⟨kT,λp0 ae=>⟨jV,λa ha=>?_⟩⟩;have s1:Same H (upd H p0 (.lst [])):=Same.new ae;refine⟨a,p0,[],rfl,fZ,fY.of (by rw[fV (gc (fZ (H:=H) (a:=p0) (o:=.lst [])) ha)];exact fZ),λp dx H' af ag keep ah ai hp=>⟨rfl,dx,ah,?_⟩⟩;refine q dx p _ (λc o e=>?_) (by rw[lz ag];exact ai) (by rw[lz af];exact hp);have e1:=s1 c o e;have ac:=gc e1 ha;rw[lz ac];exact keep c o ac (by rw[fV ac];exact e1)
theorem Ob (n j:Nat)(T:Tb mg)(XC:xJ K mg base iP z)(Y:Dn K mg "ask_fit" n6 (top 19) aa ab)(ae:Dn K mg "misfit" jb (top 10) af ag)(ah:e_ P w K mg base fW (j+3) af ag jb (xp K n))(J:Dm K "__init__" "CantPut.__init__" n8 (gB 4 0) z L)(U:e_ P w K mg base fW (1) z L n8 (sx K iP)):e_ P w K mg base (ki P w) (j+4) aa ab n6 (Gi iP n):=by
 refine uN Y.F xN (λvs H Q E h=>?_) (λan A outer s H vs Q E hr h=>?_)
 . obtain⟨kk,t,v,xs,fs,pl,S,rfl,_⟩:=h;rfl
 obtain⟨kk,t,v,xs,fs,pl,S,rfl,hK,hw,q⟩:=h;have nd:=xN.nd
 refine⟨_,(fT (gv 2 nd (f9 ah hr ae (a_ (pv 0) (a_ (pv 1) c_))))
  (fX (gp (gw j6 (pv 2) iB (gj _)) (fX (FC rfl XC.xi PySem.F.excBase_ValueError XC.kp U (hr.mono (by omega)) rfl rfl XC.m J.b FD (a_ (pv 2) c_))) gu))),?_⟩
 ac_rfl
 refine⟨_,rfl,_,rfl,kk,t,v,rfl,hK.at_,t,v,xs,fs,rfl,hK.tu,hK.fa,hK.nd,hK.jG,hK.W,?_⟩
 have fin:∀(p0:Addr) (H1:Hp),Same H H1->H1 p0=some (.lst pl)->∀a,H1 a=none->sx K iP [.ref a,.ref p0] (upd H1 a (nv a iP)) (λv H2=>v=.non/\∃dx,H2 a=some (MadeX a iP dx)/\E (.ref iP) (some dx) (rem H2 a)) E0:=λp0 H1 s1 ac a ha=>by
  refine⟨a,p0,pl,rfl,fZ,fY.of (by rw[fV (gc ac ha)];exact ac),λp dx H' aj ak keep al am hp=>⟨rfl,dx,al,?_⟩⟩;refine q dx p _ (λc o e=>?_) (by rw[lz ak];exact am) (by rw[lz aj];exact hp);have e1:=s1 c o e;have ai:=gc e1 ha;rw[lz ai];exact keep c o ai (by rw[fV ai];exact e1)
 obtain⟨a,kvs,e,ha,hw⟩:=hw;refine .inr ⟨a,kvs,e,ha,?_⟩;rcases hw with⟨h1,e2⟩|⟨y,δ,h1,h2,h3,e2,h5⟩
 . exact .inl ⟨h1,λp0 H1 s1 ac=>⟨_,rfl,rfl,_,rfl,ix ⟨_,rfl,jV,λa ha=>fin p0 H1 s1 (by rw[e2];exact ac) a ha⟩⟩⟩
 . refine .inr (.inl ⟨y,δ,h1,h2,h3,λx k hx hk=>?_,λp0 H1 s1 ac=>⟨_,rfl,rfl,_,rfl,ix ⟨_,rfl,jV,λa ha=>fin p0 H1 s1 (by rw[e2];exact ac) a ha⟩⟩⟩);obtain⟨v,fp,g1,g2,_,g4⟩:=h5 x k hx hk;exact⟨v,fp,g1,g2,g4⟩
theorem Oc:gM ["_law_view","_law_kind_here","_law_source","_law_seen","_law_told","e"] XU (gn (top 48)):=gT
theorem Od {sp:Sp}(hm:uO sp)(j:Nat)(T:Tb mg)(CT:Cls K C)(af:Meth K C "put" ab)(XC:xJ K mg base iP Y)(J:Dn K mg "_law_put" qw (top 48) L U)(ac:Db K ae XQ)(aa:e_ P w K mg base (ki P w) (j+5) ab ae rR sp):e_ P w K mg base fW (j+6) L U qw (xM iP C sp):=by
 refine J.F.ok Oc λvs H Q E h=>?_;obtain⟨v,kk,src,w,rfl,⟨dv,fl,hV,ah⟩,h⟩:=h;refine⟨rfl,λak A outer s nd hr hu=>?_⟩;let Ek:XK:=λCv dd H'=>Cv=.ref iP/\∃dx p,dd=some dx/\H' dx=some (.xd [("way",.ref p)])/\∀tq H2,Same H' H2->H2 tq=some (.tup [.str "refused",.ref p])->Q (.ref tq) H2;have ai:∀C' dd H',Ek (.ref C') dd H'->W.subIn K (.ref C') (.ref iP)=some true:=λC' dd H' z=>by rw[z.1];exact XC.sub
 refine⟨_,(fT (gv 4 nd iB)
  (fT (Fx (Ek:=Ek) (i:=5) rfl rfl (Fw (i:=4) nd rfl (.inl rfl) (MM (FF (MK gH) (FF (FG (pv 0) CT af aa (hr.mono (by omega)) ac.b (a_ (pv 1) (a_ (pv 2) (a_ (pv 3) c_)))) ML)))) rfl XC.m XC.ty XC.is XC.bx ai nd rfl rfl (λa=>(fX (gv 4 nd (jd (a_ gH (a_ (Gh (K:=K) rfl (pv 5) rfl) c_)))))))
  (fX (f6 (pv 4))))),?_⟩
 ac_rfl
 refine⟨?_,λa C' dd H' na hE=>?_⟩
 . refine⟨_,rfl,v,dv,_,rfl,hV,ah,_,rfl,_,rfl,_,rfl,?_⟩;exact hm _ _ _ _ _ _ (λz H1 k=>⟨jj,λtq ag=>⟨_,rfl,k tq _ (Same.new ag) fZ⟩⟩) (λ_ _ _ z=>z) h
 . obtain⟨e,dx,p,rfl,aj,q⟩:=hE;injection e with e
   subst e;have s1:Same H' (upd H' a (mK a C' (some dx))):=Same.new na;refine⟨_,rfl,a,C',dx,_,.ref p,rfl,fZ,s1 _ _ aj,XC.cls,XC.fld,rfl,jj,λtq ag=>⟨_,rfl,q tq _ (s1.trans (Same.new ag)) fZ⟩⟩
theorem Oe (T:Tb mg)(UF:mL K mg C aw L az aA aB ax)(Y:Dm K "behind" "Unnest.behind" kB (gB 34 1) L aa)(ag:Dn K mg "field_kind" nY (top 23) ah ai)(aj:e_ P w K mg base fW (2) ah ai nY (uI))(J:Dn K mg "ask_stands" mI (top 20) ak al)(U:e_ P w K mg base (ki P w) 4 ak al mI (λvs H Q E=>uC vs H Q E\/Gj jn vs H Q E))(am:Dn K mg "fields_but" kh (top 26) an ao)(ap:e_ P w K mg base fW (1) an ao kh (uJ K))(ab:Dn K mg "fields_among" kh (top 25) ac ae)(af:e_ P w K mg base fW (1) ac ae kh (uD false K))(aq:Dn K mg "names_of" nZ (top 27) ar au)(av:e_ P w K mg base fW (1) ar au nZ (uM)):e_ P w K mg base (ki P w) 10 L aa kB (Gk jn C):=by
 refine uN Y.F xH (λvs H Q E h=>?_) (λaZ A outer s H vs Q E hr h=>?_)
 . obtain⟨v,kk,t,dx,y,xs,gs,fi,rfl,_⟩:=h;rfl
 obtain⟨v,kk,t,dx,y,xs,gs,fi,rfl,hV,hK,aG,aI,⟨x0,aJ,aK,aM⟩,q⟩:=h;have nd:=xH.nd
 refine⟨_,(fT (gv 2 nd (f9 aj hr ag (a_ (pv 1) (a_ (kq (pv 0) rfl) c_))))
  (fT (kY (qZ U (hr.mono (by decide)) rfl J.m J.F.kp J.b .nil (xq λ_ _ _ z=>z) (a_ (kH (jK j6 (pv 2) iB (gj _)) (lD (jK gL (f7 (pv 2) d_) gH (gj _)))) c_)))
  (fT (gv 3 nd (f9 ap hr am (a_ (f7 (pv 1) d_) (a_ (iM (a_ (kq (pv 0) rfl) c_)) c_))))
  (fT (kY (qZ U (hr.mono (by decide)) rfl J.m J.F.kp J.b .nil (xq λ_ _ _ z=>z) (a_ (jK gL (gA i9 (by rfl) T.iI PySem.boot_len (a_ (f9 af hr ab (a_ (pv 3) (a_ (f9 av hr aq (a_ (f7 (pv 2) d_) c_)) c_))) c_)) d_ (gj _)) c_)))
  (fX qT))))),?_⟩
 ac_rfl
 refine⟨_,rfl,_,rfl,v,C,dx,_,_,rfl,hV,UF.ct,UF.na,rfl,kk,t,y,xs,_,_,rfl,hK.at_,hK.tu,hK.fa,hK.nd,aG,λu hu aN=>?_⟩;unfold KA at hu;obtain⟨c1,t1,ys,rfl,aE,aO,aP⟩:=hu;refine⟨_,rfl,rfl,_,rfl,?_⟩;rw[decide_eq_false aN];refine ix ?_;refine⟨_,rfl,c1,_,_,_,rfl,rfl,fU.of aE,rfl,rfl,?_⟩;refine .inl ⟨congrArg (λb=>[V.bl b]) (decide_eq_true rfl),?_⟩;refine⟨_,rfl,kk,_,_,_,rfl,rfl,fU.of hK.at_,rfl,_,rfl,v,C,dx,_,_,rfl,hV,UF.ct,UF.na,rfl,jV,λp1 aT=>?_⟩;have s1:Same H (upd H p1 (.lst [.str y])):=Same.new aT;have aD:=hK.mono (Tu.of s1);refine⟨t,p1,xs,_,[y],rfl,aD.tu,aD.fa,aD.jG,fY.of fZ,λp2 H2 s2 h2 n2=>?_⟩;have ay:=s1.trans s2;have aU:=hK.mono (Tu.of ay);have aF:=FA.few (ss:=gf [y] gs.names) gs aU.fa;have aH:=FA.mono (Tu.of ay) _ aP;refine⟨_,rfl,_,rfl,c1,_,_,_,rfl,rfl,fU.of (ay _ _ aE),rfl,t1,ys,_,rfl,ay _ _ aO,aH,aI,λp3 H3 s3 h3 n3=>?_⟩;refine⟨p2,p3,_,_,fi.names,rfl,s3 _ _ h2,FA.mono (Tu.of s3) _ aF,by rw[i8];exact Q0b (Q0o _ _) hK.jG,fY.of h3,λp4 H4 s4 h4 n4=>?_⟩;have aV:=ay.trans (s3.trans s4)
 have aY:0<(iZ fi.names (iZ (gf [y] gs.names) xs gs.names) (gs.f_ (gf [y] gs.names)).names).length:=by
  rw[FA.len _ (FA.few (ss:=fi.names) _ aF)];refine Q3s (a:=x0) ?_;rw[Fs.jx,i8];exact List.mem_filter.mpr ⟨iL.mpr ⟨aK,λz=>aM (List.mem_singleton.mp z)⟩,decide_eq_true aJ⟩
 refine⟨p4,_,rfl,.inl (fY.of h4),rfl,?_⟩;refine .inr ⟨congrArg (λb=>[V.bl b]) (decide_eq_false λz=>?_),λaW p' H' s' aX hp=>q aW p' H' (aV.trans s') aX hp⟩;injection z with z
 omega
theorem Of:gM ["_law_view","_law_kind_here","_law_found","e"] Xk (gn (top 52)):=gT
theorem Og {sp:Sp}(hm:uO sp)(T:Tb mg)(CT:Cls K C)(af:Meth K C "behind" aa)(XC:xK K mg base jn ae)(J:Dn K mg "_law_stands" uc (top 52) L U)(ab:Db K ac Xc)(Y:e_ P w K mg base (ki P w) 10 aa ac kB sp):e_ P w K mg base fW (11) L U uc (Gm jn C sp):=by
 refine J.F.ok Of λvs H Q E h=>?_;obtain⟨v,kk,rfl,⟨dv,fl,hV,ag⟩,h⟩:=h;refine⟨rfl,λaj A outer s nd hr hu=>?_⟩;let Ek:XK:=λCv dd H'=>Cv=.ref jn/\∃dx p,dd=some dx/\H' dx=some (.xd [("way",.ref p)])/\∀H2,Same H' H2->Q (.ref p) H2;have ah:∀C' dd H',Ek (.ref C') dd H'->W.subIn K (.ref C') (.ref jn)=some true:=λC' dd H' z=>by rw[z.1];exact XC.sub
 refine⟨_,(fT (gv 2 nd iB)
  (fT (Fx (Ek:=Ek) (i:=3) rfl rfl (Fw (i:=2) nd rfl (.inl rfl) (FG (pv 0) CT af Y (hr.mono (by decide)) ab.b (a_ (pv 1) c_))) rfl XC.m XC.ty XC.is XC.bx ah nd rfl rfl (λa=>(fX (gv 2 nd (Gh (K:=K) rfl (pv 3) rfl)))))
  (fX (f6 (pv 2))))),?_⟩
 ac_rfl
 refine⟨?_,λa C' dd H' na hE=>?_⟩
 . refine⟨_,rfl,v,dv,_,rfl,hV,ag,_,rfl,?_⟩;exact hm _ _ _ _ _ _ (λz H1 k=>⟨_,rfl,k⟩) (λ_ _ _ z=>z) h
 . obtain⟨e,dx,p,rfl,ai,q⟩:=hE;injection e with e
   subst e;have s1:Same H' (upd H' a (mK a C' (some dx))):=Same.new na;exact⟨_,rfl,a,C',dx,_,.ref p,rfl,fZ,s1 _ _ ai,XC.cls,XC.fld,rfl,_,rfl,q _ s1⟩
end
def Gn (n:Nat) (P2 C:Addr):Sp:=λvs H Q _=>∃v z t dx y xs fs src J,∃(ss:List Str) (f:Str->V) (ks:List Str) (L:Str->D) (S:List Addr),vs=[.ref v,.ref z,src,.ref J]/\kF H C v dx y/\jm H z t xs (iq fs ss y)/\om fs/\y ∉ gf ss fs.names/\gz P2 jk jl H/\H J=some (.dK (gq f ks))/\ks.Nodup/\RecAt S n H fs (gq f ks) L/\P2∈S/\
 ∀p c H',iK P2 H H'->gz P2 jk jl H'->H p=none->H c=none->H' p=some (.dK (gq (nz f y (.ref c)) (gf (fs.f_ ss).names ks++[y])))->H' c=some (.dK (gq f (fs.f_ ss).names))->Q (.ref p) H'
def Gp (iP:Addr) (n:Nat) (P2 C:Addr):Sp:=λvs H _ E=>∃v z t dx y xs fs src w pl S,∃ss:List Str,vs=[.ref v,.ref z,src,w]/\kF H C v dx y/\jm H z t xs (iq fs ss y)/\om fs/\y ∉ gf ss fs.names/\gz P2 jk jl H/\Wr S n H fs w pl/\P2∈S/\
 ∀dx p H',iK P2 H H'->gz P2 jk jl H'->H' dx=some (.xd [("way",.ref p)])->H' p=some (.lst pl)->E (.ref iP) (some dx) H'
theorem RecAt.mM {S:List Addr}{n:Nat}{H:Hp}{fs:Fs}{f:Str->V}{ks:List Str}{Y:Str->D}(h:RecAt S n H fs (gq f ks) Y)(L:fs.names.Nodup)(x:Str):x∈ks↔x∈fs.names:=by
 constructor
 . intro z;obtain⟨y,U,e⟩:=h.keys L (Sum.inr x) (by unfold gq;rw[Q0z];exact List.mem_map.mpr ⟨x,z,rfl⟩)
   cases e;exact U
 . intro z;obtain⟨k,hk⟩:=Fs.pC z;obtain⟨v,_,J,_⟩:=h.get x k hk;rw[jM] at J;by_cases e:x∈ks
   . exact e
   . rw[if_neg e] at J;cases J
theorem Gq {P2:Addr}{H H':Hp}{J:Pos}{L:Str}(kp:iK P2 H H')(hT:gz P2 J L H'){p:Addr}(h:H' p=none):H p=none:=by
 cases e:H p with
 |none=>rfl
 |some o=>
  by_cases z:p=P2
  . obtain⟨U,h2⟩:=hT.tab;rw[<-z,h] at h2;cases h2
  . have:=kp p o z e;rw[h] at this;cases this
theorem jH {fs:Fs}{ss:List Str}{x:Str}:x∈(fs.f_ ss).names↔x∈fs.names/\x∈ss:=by
 rw[Fs.jx,Q2t];exact⟨λh=>⟨h.1,of_decide_eq_true h.2⟩,λh=>⟨h.1,decide_eq_true h.2⟩⟩
theorem Gr {fs:Fs}{ss:List Str}{y:Str}(z:y ∉ gf ss fs.names):(iq fs ss y).get y=some (.gI (fs.f_ ss)):=by
 rw[Fs.l7 _ _ _ (by rw[i8];exact z),if_pos rfl]
section
variable {P:Program}{w:World}{K:W.Frag}{mg:Str->Option Value}{base:Heap}
variable {C P2 iP:Addr}
theorem xO:gM XQ XQ (gn (gB 34 3)):=gT
theorem Oh (n j:Nat)(T:Tb mg)(UF:mL K mg C am J aA L aB az)(ab:Dm K "put" "Unnest.put" rR (gB 34 3) L ac)(an:Dn K mg "ask_fit" n6 (top 19) ao ap)(aq:e_ P w K mg base fW (j+4) ao ap n6 (Gf n))(U:Dm K "behind" "Unnest.behind" kB (gB 34 1) J Y)(aa:e_ P w K mg base fW (10) J Y kB (sr P2 C))(av:Dn K mg "nested" qt (top 31) aw ax)(ay:e_ P w K mg base fW (3) aw ax qt (xF K))(ai:Dn K mg "names_of" nZ (top 27) aj ak)(al:e_ P w K mg base fW (1) aj ak nZ (uM))(ae:Dn K mg "field_kind" nY (top 23) af ag)(ah:e_ P w K mg base fW (2) af ag nY (uI))(hj:10<=j):e_ P w K mg base fW (j+5) L ac rR (Gn n P2 C):=by
 have CT:=UF.ct;have ar:=UF.b;refine ab.F.ok xO λvs H Q E h=>?_;obtain⟨v,kk,t,dx,y,xs,fs,src,sn,ss,f,ks,δ,S,rfl,hV,hK,hF,hy,hT,aM,aN,hR,qH,q⟩:=h;refine⟨rfl,λaU A outer s nd hr hu=>?_⟩
 refine⟨_,(fT (kY (f9 aq hr an (a_ (oX (pv 0) CT ar aa (hr.mono (by omega)) U.b .nil k_ (a_ (pv 1) c_)) (a_ (pv 3) c_))))
  (fX (f6 (f9 ay hr av (a_ (pv 3) (a_ (f9 al hr ai (a_ (f7 (f9 ah hr ae (a_ (pv 1) (a_ (kq (pv 0) rfl) c_))) d_) c_)) (a_ (kq (pv 0) rfl) c_))))))),?_⟩
 ac_rfl
 obtain⟨ps,hP⟩:=hT.tab;refine⟨_,rfl,v,dx,_,rfl,hV,rfl,_,rfl,v,kk,t,dx,y,xs,fs,ss,rfl,hV,hK,hF,hy,hT,λr t' aV H1 au aF aG=>?_⟩;have aI:=au.tu hT;have nP:∀c o,H c=some o->(∀ps,o≠ .gQ ps)->H1 c=some o:=λc o e ho=>au c o (λz=>by rw[z,hP] at e;cases e;exact ho _ rfl) e;have aE:=nP _ _ aM (by intro ps z;cases z);have aJ:=nP _ _ hV (by intro ps z;cases z);have g_:RecAt S n H1 fs (gq f ks) δ:=hR.keep aI λc o hc e=>au c o (λz=>hc (by rw[z];exact qH)) e;refine⟨_,rfl,r,t',sn,_,_,_,δ,S,rfl,aG,aE,g_,λH2 s2=>?_⟩
 have aH:ks.length<=12:=by
  have:=hR.len;rw[jN] at this;rw[this];exact aG.jG
 have aD:=hK.mono (aI.trans (Tu.of s2));have hm:=hR.mM hF.nd;refine⟨_,rfl,_,rfl,_,rfl,v,C,dx,_,_,rfl,s2 _ _ aJ,UF.ct,UF.na,rfl,kk,t,y,xs,_,_,rfl,aD.at_,aD.tu,aD.fa,aD.nd,Gr hy,λu hu aW=>?_⟩;unfold KA at hu;obtain⟨c1,t1,ys,rfl,aO,aP,aT⟩:=hu;have l2:(fs.f_ ss).names.length<=12:=by rw[Fs.jx];exact Q0b (Q0o _ _) aG.jG
 refine⟨c1,_,_,_,rfl,rfl,fU.of aO,rfl,t1,ys,_,rfl,aP,aT,l2,λp3 H3 s3 h3 n3=>?_⟩;refine⟨_,rfl,v,C,dx,_,_,rfl,s3 _ _ (s2 _ _ aJ),UF.ct,UF.na,rfl,sn,p3,y,f,ks,(fs.f_ ss).names,rfl,s3 _ _ (s2 _ _ aE),aN,aH,fY.of h3,by rw[Fs.jx];exact hF.nd.filter _,l2,λx hx=>(hm x).mpr (jH.mp hx).1,λz=>?_,λp c H4 s4 hp hc np nc _=>?_⟩
 . obtain⟨z1,z2⟩:=iL.mp z;have z3:=(hm y).mp z1;exact hy (iL.mpr ⟨z3,λz4=>z2 (jH.mpr ⟨z3,z4⟩)⟩)
 . have aK:=s2.trans (s3.trans s4);exact q p c H4 (au.trans (Kp.of aK)) (aF.same aK) (Gq au aF (none_of (s2.trans s3) np)) (Gq au aF (none_of (s2.trans s3) nc)) hp hc
theorem Oi (n j:Nat)(T:Tb mg)(UF:mL K mg C ag J al L am ak)(ac:Dm K "put" "Unnest.put" rR (gB 34 3) L ae)(U:Dn K mg "ask_fit" n6 (top 19) ah ai)(af:e_ P w K mg base (ki P w) (j+4) ah ai n6 (Gi iP n))(Y:Dm K "behind" "Unnest.behind" kB (gB 34 1) J aa)(ab:e_ P w K mg base fW (10) J aa kB (sr P2 C))(hj:10<=j):e_ P w K mg base (ki P w) (j+5) L ae rR (Gp iP n P2 C):=by
 have CT:=UF.ct;have aj:=UF.b;refine uN ac.F xO (λvs H Q E h=>?_) (λav A outer s H vs Q E hr h=>?_)
 . obtain⟨v,kk,t,dx,y,xs,fs,src,w,pl,S,ss,rfl,_⟩:=h;rfl
 obtain⟨v,kk,t,dx,y,xs,fs,src,w,pl,S,ss,rfl,hV,hK,hF,hy,hT,hw,qH,q⟩:=h;have nd:=xO.nd
 refine⟨_,(fT (kY (qZ af (hr.mono (by omega)) rfl U.m U.F.kp U.b .nil (xq λ_ _ _ z=>z) (a_ (oX (pv 0) CT aj ab (hr.mono (by omega)) Y.b .nil k_ (a_ (pv 1) c_)) (a_ (pv 3) c_))))
  (fX qT)),?_⟩
 ac_rfl
 obtain⟨ps,hP⟩:=hT.tab;refine⟨_,rfl,v,dx,_,rfl,hV,rfl,_,rfl,v,kk,t,dx,y,xs,fs,ss,rfl,hV,hK,hF,hy,hT,λr t' aw H1 an ao ap=>?_⟩;have aq:=an.tu hT;have ar:Wr S n H1 fs w pl:=hw.keep aq (λc o hc e=>an c o (λz=>hc (by rw[z];exact qH)) e) λc o e=>an c _ (λz=>by rw[z,hP] at e;cases e) e;exact⟨_,rfl,r,t',w,_,_,pl,S,rfl,ap,ar,λdx p H' s' au hp=>q dx p H' (an.trans (Kp.of s')) (ao.same s') au hp⟩
end
def xP (iP:Addr) (n:Nat) (P2 C:Addr):Sp:=λvs H Q E=>Gn n P2 C vs H Q E\/Gp iP n P2 C vs H Q E
theorem Oj (iP:Addr)(n:Nat)(P2 C:Addr):uO (xP iP n P2 C):=by
 intro vs H Q Q' E E' hQ hE h;rcases h with h|h
 . obtain⟨v,z,t,dx,y,xs,fs,src,sn,ss,f,ks,δ,S,J,L,U,Y,a5,a6,a7,a8,a9,aa,q⟩:=h;exact .inl ⟨v,z,t,dx,y,xs,fs,src,sn,ss,f,ks,δ,S,J,L,U,Y,a5,a6,a7,a8,a9,aa,λp c H1 k1 k2 k3 k4 k5 k6=>hQ _ _ (q p c H1 k1 k2 k3 k4 k5 k6)⟩
 . obtain⟨v,z,t,dx,y,xs,fs,src,w,pl,S,ss,J,L,U,Y,a5,a6,a7,a8,q⟩:=h;exact .inr ⟨v,z,t,dx,y,xs,fs,src,w,pl,S,ss,J,L,U,Y,a5,a6,a7,a8,λdx p H1 k1 k2 k3 k4=>hE _ _ _ (q dx p H1 k1 k2 k3 k4)⟩
def Gs (jn P2 C:Addr):Sp:=λvs H Q E=>sr P2 C vs H Q E\/Gk jn C vs H Q E
theorem Ol (jn P2 C:Addr):uO (Gs jn P2 C):=by
 intro vs H Q Q' E E' hQ hE h;rcases h with h|h
 . obtain⟨v,z,t,dx,y,xs,fs,ss,J,L,U,Y,a5,a6,q⟩:=h;exact .inl ⟨v,z,t,dx,y,xs,fs,ss,J,L,U,Y,a5,a6,λr t' aa H1 k1 k2 k3=>hQ _ _ (q r t' aa H1 k1 k2 k3)⟩
 . obtain⟨v,z,t,dx,y,xs,gs,fi,J,L,U,Y,a5,a6,q⟩:=h;exact .inr ⟨v,z,t,dx,y,xs,gs,fi,J,L,U,Y,a5,a6,λdx p H1 k1 k2 k3=>hE _ _ _ (q dx p H1 k1 k2 k3)⟩
end Pb
namespace L2
open Spec PyProof.Rows
def sy (K:PySem.W.Frag) (P:Addr) (J:Pos) (qual:Str) (te:TE) (σ:St) (Q:VK):VK:=λx H1=>∃a xs ps,x=.ref a/\(fY K H1 a xs\/fU K H1 a xs)/\xs.length<64/\pZ P J qual ps H1/\
 ∀c' H2,nR P J qual ps c' H2->(∀b o,b≠P->H1 b=some o->H2 b=some o)->
 ∃W:List V->Hp->Prop,W [] H2/\(∀ks z,W ks z->z c'=some (.ext (nQ c' qual)))/\(∀ks z y,W ks z->xs[ks.length]? =some y->te (some y::σ) z λk L=>W (ks++[k]) L)/\
 ∀ks z,W ks z->ks.length=xs.length->∃ss:List Str,ks=ss.map V.str/\∀p:List Nat,p.Perm (List.range xs.length)->(p.map λi=>(ss.map gX).getD i []).Pairwise lh->∀D,z D=none->Q (.ref D) (upd z D (.lst (p.map λi=>xs.getD i .non)))
def Om (K:W.Frag) (P:Addr) (z:Pos) (qual:Str) (tl te:TE):TE:=λσ H Q=>tl σ H (sy K P z qual te σ Q)
section
variable {X:Cx}
theorem uP {x:Str}{N':List Str}{l body:Expr}{L:Arguments}{scope:Scope}{lp kp p pos:Pos}{qual:Str}{c P:Addr}{tl te:TE}{k:Nat}(hg:Gl X "sorted")(hm:X.mg "sorted"=none)(hv:bootBuiltins "sorted"=some (.builtin "sorted"))(hr:ie k X.A)(hq:X.env.qual++"<lambda>"=qual)(Y:X.env.code=.ref c)(C:PySem.W.CodeHd X.base c P)
 (B:BM X.mg X.base) (S:lg X x N' scope) (ab:defaultsOf L X.env=([],[])) (hb:∀(cl:List (Str × Addr)) (pm:Value) (c':Addr) (U u:Value),bindArgs (PySem.W.kla_fn "<lambda>" qual L body scope cl pm (.ref c') U) ⟨[u],[]⟩=pure [(x,u)])
 (hl:PE X l tl) (he:∀(cl:List (Str × Addr)) (f c':Addr) (s:Shared) (H:Hp),PE (p_ X x N' scope cl qual f c' s H) body te) (hs:starEach [l] X.env=[(false,eval l X.env)]:=by rfl):
 PE X (.Call (.Name "sorted" p) [l] [⟨some "key",.Lambda L body scope lp,kp⟩] pos) (Om X.K P lp qual tl te):=by
 intro pins s σ H Q I h;refine wpAny_Call_Name_kw (mB I hg hm hv ?_);have ha:PA X [l] (iO tl jT):=a_ hl c_ (by rw[hs];rfl);refine callWith_kw (gy (ha pos pins s σ H (λvs H1=>match vs with|[x]=>sy X.K P lp qual te σ Q x H1|_=>False) I h) λus s1 zq=>?_) (by rw[hs];rfl) (by rw[hs];rfl);obtain⟨vs,H1,I1,r1,q1⟩:=zq
 obtain⟨x',rfl⟩:∃x',vs=[x']:=by
  match vs,q1 with
  |[x'],_=>exact⟨x',rfl⟩
 have q1:sy X.K P lp qual te σ Q x' H1:=q1;obtain⟨a,xs,ps,rfl,ag,ah,T,cont⟩:=q1;obtain⟨u,rfl,ru⟩:=vals1 r1
 cases ru;show wpAny _ _ (evalAll [do let v <-eval (.Lambda L body scope lp) X.env;standAt pos;pure v]) _ _ s1;obtain⟨cl,aa,ac,ae⟩:=rm (scope:=scope) (env:=X.env) λy hy hf=>I1.ok.has y.1 (S.free y hy hf);refine wpAny_evalAll_cons (Q0 (PySem.W.kla_eval ab ?_));rw[hq];refine vZ I1 Y C B T aa λf c' pm U H2 s2 I2 ai mono=>?_;refine Q0 (wpAny_standAt (Q02 (wpAny_evalAll_nil ?_)));show wpAny _ _ (call (.builtin "sorted") [.ref a] [(Str.ofString "key",.ref f)]) _ _ s2;obtain⟨W,w0,wL,wt,wf⟩:=cont c' H2 ai mono;have aj:∃ps,H1 P=some (.gQ ps):=⟨_,T.1⟩
 have ak:fY X.K H2 a xs\/fU X.K H2 a xs:=by
  obtain⟨ps,hP⟩:=aj;rcases ag with((z|⟨o,z⟩)|z)|(z|⟨o,z⟩)|z
  . exact .inl (.inl (.inl (mono a _ (jz z hP (by intro z;cases z)) z)))
  . exact .inl (.inl (.inr ⟨o,mono a _ (jz z hP (by intro z;cases z)) z⟩))
  . exact .inl (.inr z)
  . exact .inr (.inl (.inl (mono a _ (jz z hP (by intro z;cases z)) z)))
  . exact .inr (.inl (.inr ⟨o,mono a _ (jz z hP (by intro z;cases z)) z⟩))
  . exact .inr (.inr z)
 refine gy (DU (Q:=Q) (W:=W) I2 ak ah w0 (λpl s' H' ks y u J wk hy ry=>?_) λpl s' H' ks us J wk af rk=>?_) λr s' ⟨v,H',J,rv,q⟩=>⟨v,H',J.mC,rv,q⟩
 . exact v5 J S hr.hd hr.depth ac ae (Q0t _ (Q09 _ Q05)) (wL ks H' wk) (hb cl pm c' U) ry (he cl f c') (wt ks H' y wk hy)
 . obtain⟨ss,k1,k3⟩:=wf ks H' wk af;subst k1;exact⟨o9,_,D5 rk,λp p1 p2 D hD=>k3 p p1 p2 D hD⟩
end
section
variable {prog:Program}{w:World}{A:Around}{E:Value->Shared->Prop}{s:Shared}
theorem Oo {t L:Addr}{z:Array Value}{vl vu:Value}{lo hi:Option Int}{Q:Value->Shared->Prop}(ht:IsTup s.heap t z)(hs:s.heap.IsSliceOf L vl vu .none)(pl:IsPart vl lo)(pu:IsPart vu hi)
 (hw:HT.gG z.size 0 lo=0/\HT.gG z.size z.size hi=z.size) (h:Q (.ref t) s):wpAny (model prog w) A (getItem (.ref t) (.ref L)) Q E s:=by
 obtain⟨os,U,Y,ab⟩:=id hs;have aa:s.TypeIs (.ref L) "slice":=⟨os,U,Y⟩;unfold getItem
 try with_reducible refine wpAny_holding ?_
 first|refine Q0 (Q02 ?_)|skip
 refine Q0 (wpAny_sequenceKey ht.typeIs (by decide) ?_)
 refine Q0 (wpAny_callSpecial?_slot (name:=Str.ofString "__getitem__") ht.typeIs PyProof.Rows.slot_tuple_getitem
  (wpAny_call_entry PyProof.Rows.slot_tuple_getitem ht.typeIs entry_tuple_getitem ?_ (args_tuple_getitem _ _)))
 show wpAny _ _ (Builtin.Tuple.tupleItemsOf (.ref t) >>= _) _ _ s;refine Q0 (tupleItemsOf_ ht ?_);refine Q0 (wpAny_typeOf aa ?_);rw[if_pos (by decide)];refine Q0 (HT.C1 hs pl pu ?_)
 have J:(((HT.gG z.size 0 lo:Nat):Int) == 0 && (1:Int) == 1 && (HT.gG z.size z.size hi - HT.gG z.size 0 lo) == z.size)=true:=by
  rw[hw.1,hw.2];simp
 show wpAny _ _ (if(((HT.gG z.size 0 lo:Nat):Int) == 0 && (1:Int) == 1 && (HT.gG z.size z.size hi - HT.gG z.size 0 lo) == z.size)=true then _ else _) _ _ s;rw[if_pos J];refine Q0 ?_;refine Q0 (wpAny_typeOf ht.typeIs (Q02 ?_));rw[if_pos (by decide)]
 first
  |exact Q0 (wpAny_rule (Q02 ⟨_,rfl,Q02 h⟩))
  |exact Q0 (Q0 (wpAny_rule (Q02 (Q02 ⟨_,rfl,Q02 h⟩))))
  |exact Q0 (wpAny_rule (Q02 (Q02 ⟨_,rfl,Q02 h⟩)))
end
def Gu (K:W.Frag):V->Option Int->Option Int->Hp->VK->Prop:=λx lo hi H Q=>∃a xs,x=.ref a/\fU K H a xs/\
 ((HT.gG xs.length 0 lo=0/\HT.gG xs.length xs.length hi=xs.length)->Q (.ref a) H)/\(¬(HT.gG xs.length 0 lo=0/\HT.gG xs.length xs.length hi=xs.length)->∀p,H p=none->Q (.ref p) (upd H p (.tup (j8 xs lo hi))))
theorem uQ {X:Cx}:q_ X (Gu X.K):=by
 intro pins s σ H x v vl vu lo hi sl Q I L U pl Y h;obtain⟨a,xs,rfl,hx,q1,q2⟩:=h;by_cases hw:HT.gG xs.length 0 lo=0/\HT.gG xs.length xs.length hi=xs.length
 . cases L;obtain⟨J,r,ht,hz⟩:=I.tuple hx;have z:J.toArray.size=xs.length:=by rw[Q07];exact r.length.symm
   refine⟨"tuple",_,PyProof.Rows.slot_tuple_getitem.lookup,ht.typeIs,?_⟩;exact Oo ht U pl Y (by rw[z];exact hw) ⟨.ref a,H,I,rfl,q1 hw⟩
 . exact Jm pins s σ H _ v vl vu lo hi sl Q I L U pl Y ⟨a,xs,rfl,hx,hw,q2 hw⟩
end L2
namespace Pb
open L2 PyProof.Rows
def Gv (n:Nat):Sp:=λvs H Q E=>pE n vs H Q E\/Fo n vs H Q E
def Gw (n:Nat):Sp:=Fp λH k J L=>(∃d f1 f2,Own H J d f1/\Own H L d f2/\ij k d/\d.dep<=n/\d.Sm)\/
 ∃z U Y m1 m2 δ S1 S2,k=.gI z/\J=.ref U/\L=.ref Y/\H U=some (.dK m1)/\H Y=some (.dK m2)/\RecAt S1 n H z m1 δ/\RecAt S2 n H z m2 δ
noncomputable def Oq (st:Stmt):Pos:=match(i3 st).getLast? with
 |some (.Return (some (.Tuple [_,.Call _ [.Call _ _ [⟨_,.Lambda _ _ _ z,_⟩] _] _ _] _ _)) _)=>z
 |_=>⟨0,0,0,0⟩
noncomputable abbrev nE:Pos:=Oq (top 51)
noncomputable abbrev nF:Str:=("_law_kinds":Str)++".<locals>."++"<lambda>"
def uR (tu:Bool) (P3:Addr):Sp:=λvs H Q _=>∃f ins y J z ys U,vs=[.ref f,.ref ins,.str y]/\H f=some (uq tu (gm J))/\jf H J/\J.length<=11/\H ins=some (.tup ys)/\FA H ys U/\gz P3 nE nF H/\z.Perm J/\(nms z).Nodup/\(nms z).Pairwise sle/\y ∉ nms z/\
 ∀r t c L pl H',iK P3 H H'->gz P3 nE nF H'->H' c=some (.tup [.str y,.ref L])->H' L=some (.tup [.str "record",.ref ins])->H' t=some (.tup (gm (iD (·.2.1) (.ref c,y,pl) z)))->H' r=some (.tup [.str "record",.ref t])->Q (.ref r) H'
def Gx:Sp:=λvs H Q _=>∃l m,∃nm:List Str,vs=[.ref l,.int m]/\H l=some (.lst (nm.map V.str))/\nm.length<=12/\0<=m/\m<=2000000000/\∀y:Str,y ∉ nm->y≠"xyxyxy"->y.length<=2->Q (.str y) H
theorem jQ {P2:Addr}{H H':Hp}{ps:Array Value}(J:H P2=some (.gQ ps))(kp:iK P2 H H'){c:Addr}{o:HO}(e:H c=some o)(L:∀ps,o≠ .gQ ps):H' c=some o:=
 kp c o (λz=>by rw[z,J] at e;cases e;exact L _ rfl) e
theorem kG {P2:Addr}{H H':Hp}{ps:Array Value}(J:H P2=some (.gQ ps))(kp:iK P2 H H'):Tu H H':=λc xs e=>jQ J kp e (by intro ps z;cases z)
theorem Ot {P:Addr}{z:Pos}{J:Str}{ps:Array Value}{c':Addr}{H H':Hp}(h:nR P z J ps c' H)(s:Same H H'):nR P z J ps c' H':=by
 obtain⟨h1|h1,h2⟩:=h
 . exact⟨.inl ⟨h1.1,s _ _ h1.2⟩,s _ _ h2⟩
 . exact⟨.inr ⟨h1.1,s _ _ h1.2⟩,s _ _ h2⟩
theorem Ou {P:Addr}{z:Pos}{L:Str}{H:Hp}(h:gz P z L H):∃ps,pZ P z L ps H/\∀c' H',nR P z L ps c' H'->gz P z L H':=by
 rcases h with e|⟨k,Y,e2⟩
 . refine⟨#[],⟨e,trivial,.inl rfl⟩,λc' H' h=>?_⟩;obtain⟨⟨_,h1⟩|⟨J,_⟩,h2⟩:=h
   . exact .inr ⟨c',by simpa using h1,h2⟩
   . cases J
 . have U:codeAmong z #[rawInt z.line,rawInt z.col,.ref k].toList=some (.ref k):=by simp[codeAmong,rawInt]
   refine⟨#[rawInt z.line,rawInt z.col,.ref k],⟨Y,by simp[TriplesOk,rawInt],.inr ⟨k,U,e2⟩⟩,λc' H' h=>?_⟩;obtain⟨⟨J,_⟩|⟨J,h1⟩,h2⟩:=h
   . rw[U] at J;cases J
   . rw[U] at J;cases J;exact .inr ⟨_,h1,h2⟩
theorem xQ {K:W.Frag}{P:Addr}{lp:Pos}{ql:Str}{ps:Array Value}{σ:L2.St}{Q:VK}{H:Hp}{l:Addr}{z Y:List Qd}(hl:fY K H l (gm z)\/fU K H l (gm z))(hp:jf H z)(al:z.length<=13)(hT:pZ P lp ql ps H)(ae:Y.Perm z)(af:(nms Y).Nodup)(ag:(nms Y).Pairwise sle)
 (q1:∀D c' H',iK P H H'->nR P lp ql ps c' H'->H' D=some (.lst (gm Y))->Q (.ref D) H'):sy K P lp ql (iC (jq K) (gR 0) (tC (.int 0))) σ Q (.ref l) H:=by
 refine⟨l,gm z,ps,rfl,hl,by rw[kE];omega,hT,λc' H2 aa mono=>?_⟩;have iJ:iK P H H2:=λcc o hc e=>mono cc o hc e;have ah:jf H2 z:=hp.mono (kG hT.1 iJ);refine⟨λks H3=>H3=H2/\ks.length<=z.length/\ks=((nms z).map V.str).take ks.length,⟨rfl,Q0g _,rfl⟩,λks H3 hw=>by rw[hw.1];exact aa.2,?_,?_⟩
 . rintro ks H3 yv ⟨rfl,am,J⟩ hy;obtain⟨qq,hq,rfl⟩:=FO hy;obtain⟨cc,u,ec,hc,hk⟩:=ah qq (Q0s hq);obtain⟨qv,qn,qb⟩:=qq;have ec:qv=.ref cc:=ec;subst ec;have ai:ks.length<z.length:=(List.getElem?_eq_some_iff.mp hq).1;refine⟨_,rfl,cc,_,_,_,rfl,rfl,fU.of hc,rfl,rfl,by rw[Q0a];exact ai,?_⟩;rw[Q0a];show _=List.take (ks.length+1) _;rw[Q0y,<-J,Q0f]
   have:(nms z)[ks.length]? =some qn:=by
    show(z.map (·.2.1))[ks.length]? =_;rw[Q0f,hq];rfl
   rw[this];rfl
 . rintro ks H3 ⟨rfl,_,J⟩ ab
   have J:ks=(nms z).map V.str:=by
    rw[J,ab,kE,Q1b (by rw[Q04,qE];exact Q00 _)]
   refine⟨nms z,J,λp L hs D hD=>?_⟩;rw[kE] at L;rw[<-FP];have U:=FQ z L
   have ac:(nms (p.map λi=>z.getD i q0)).Pairwise sle:=by
    show((p.map λi=>z.getD i q0).map (·.2.1)).Pairwise sle;rw[Q0z,Q17];rw[Q17] at hs;refine List.Pairwise.imp_of_mem (λ{i j} hi hj h=>?_) hs
    have ge:∀i∈p,((nms z).map gX).getD i []=gX (z.getD i q0).2.1:=λi hi=>by
     have aj:i<z.length:=by
      have:=L.mem_iff.mp hi;simpa using this
     unfold nms;rw[Q0e,Q0e,Q0f,Q0f,Q03 aj];rfl
    rw[ge i hi,ge j hj] at h;exact h
   have ak:(p.map λi=>z.getD i q0)=Y:=Eu (U.trans ae.symm) ac ag af;rw[ak];exact q1 D c' _ (iJ.trans (Kp.of (Same.new hD))) (Ot aa (Same.new hD)) fZ
theorem Gy {K:W.Frag}{P:Addr}{L:Pos}{U:Str}{σ:L2.St}{Q:VK}{H:Hp}{l:Addr}{z J:List Qd}(hl:fY K H l (gm z)\/fU K H l (gm z))(hp:jf H z)(Y:z.length<=13)(hT:gz P L U H)(aa:J.Perm z)(ab:(nms J).Nodup)(ac:(nms J).Pairwise sle)
 (q1:∀D H',iK P H H'->gz P L U H'->H' D=some (.lst (gm J))->Q (.ref D) H'):sy K P L U (iC (jq K) (gR 0) (tC (.int 0))) σ Q (.ref l) H:=by
 obtain⟨ps,hX,hY⟩:=Ou hT;exact xQ hl hp Y hX aa ab ac λD c' H' k y d=>q1 D H' k (hY c' H' y) d
variable {P:Program}{w:World}{K:W.Frag}{mg:Str->Option Value}{base:Heap}
theorem Ov (n:Nat)(T:Tb mg)(L:Dn K mg "_law_alike" kg (top 47) z J)(U:e_ P w K mg base fW (n+2) z J kg (Gv n)):e_ P w K mg base fW ((n+2)+1) z J kg (Gw n):=by
 refine Fq (n+2) (sp:=Gv n) (λhh s2 hk Y q=>?_) T L U;rcases hh with⟨d,f1,f2,o1,o2,h⟩|⟨fi,b1,b2,m1,m2,δ,S1,S2,rfl,rfl,rfl,ab,ac,R1,R2⟩
 . exact .inl ⟨_,_,_,_,d,f1,f2,rfl,hk,Y,Own.same s2 o1,Own.same s2 o2,h.1,h.2.1,h.2.2,q⟩
 . unfold KA at hk;unfold Kd.W at Y;obtain⟨a',b',ae,rfl,af,ag,aa⟩:=hk;exact .inr ⟨a',b',ae,fi,b1,b2,m1,m2,δ,S1,S2,rfl,af,ag,aa,Y.1,Y.2.2,s2 _ _ ab,s2 _ _ ac,R1.same s2,R2.same s2,q⟩
theorem Ow:gM ["_law_names_here","_law_m","_law_letters","_law_k","_law_name"] Xn (gn (top 49)):=gT
noncomputable abbrev mO (m:Int) (i:Nat):Str:=lt ((m+((0:Int)+(i:Int))) % 26)++lt (m / 26 % 26)
theorem Ox {m:Int}{i j:Nat}(hi:i<26)(z:j<26)(h:mO m i=mO m j):i=j:=by
 have:=congrArg (λx:Str=>x.cps.toList) h;have this:[97+((m+((0:Int)+(i:Int))) % 26).toNat,97+(m / 26 % 26).toNat]=[97+((m+((0:Int)+(j:Int))) % 26).toNat,97+(m / 26 % 26).toNat]:=this;have h1:=(List.cons.inj this).1;omega
theorem Oy {m:Int}{nm:List Str}(U:nm.length<=12)(h:∀i,i<26->mO m i∈nm):False:=by
 have:=uE (l:=(List.range 26).map (mO m)) (m:=nm) (by
  rw[List.nodup_iff_pairwise_ne,Q17];refine List.Pairwise.imp_of_mem (λ{i j} hi J z e=>z (Ox (List.mem_range.mp hi) (List.mem_range.mp J) e)) (List.nodup_iff_pairwise_ne.mp Q3e)) λx L=>by
  obtain⟨i,hi,rfl⟩:=List.mem_map.mp L;exact h i (List.mem_range.mp hi)
 rw[Q04,Q1p] at this;omega
theorem Oz (m:Int)(i:Nat):mO m i≠"xyxyxy":=λe=>by
 have:=congrArg (λx:Str=>x.cps.toList.length) e;have this:2=("xyxyxy":Str).cps.toList.length:=this;rw[wG] at this
 cases this
theorem OA (T:Tb mg)(J:Dn K mg "_law_fresh" ud (top 49) L U):e_ P w K mg base fW (1) L U ud (Gx):=by
 refine J.F.ok Ow λvs H Q E h=>?_;obtain⟨l,m,nm,rfl,hl,aa,m0,m1,q⟩:=h;refine⟨rfl,λab A outer s nd hr hu=>?_⟩;have hz:(abc).length<=sizeLine:=by decide +kernel
 refine⟨_,(fT (gv 2 nd gH)
  (fT (jt PassesOwn.never rfl (oR rfl T.nW (a_ d_ c_)) (gK (i:=3) nd rfl ip) (fT (gv 4 nd (gh pP (m7 o5 (pv 2) (gh iw (gh j5 (pv 1) (pv 3)) d_) (λ_ _=>rfl)) (m7 o5 (pv 2) (gh iw (gh jh (pv 1) d_) d_) (λ_ _=>rfl))))
  (fX (gp (gw vM (pv 4) (pv 0) (by with_unfolding_all rfl)) (fX (f6 (pv 4))) gu))))
  (fX (f6 gH)))),?_⟩
 ac_rfl
 refine⟨_,rfl,by decide,by decide,nO (n:=26) (λi σ H'=>H'=H/\(∃y z,σ=[some (.ref l),some (.int m),some (.str abc),y,z])/\∀j,j<i->mO m j∈nm) ⟨rfl,⟨_,_,rfl⟩,λj hj=>absurd hj (by omega)⟩ ?_ ?_⟩
 . rintro i σ H' hi ⟨rfl,⟨y,z,rfl⟩,Y⟩;have l1:0<=(m+((0:Int)+(i:Int))) % 26/\(m+((0:Int)+(i:Int))) % 26<26:=⟨Q0m _ (by decide),Q0n _ (by decide)⟩;have l2:0<=m / 26 % 26/\m / 26 % 26<26:=⟨Q0m _ (by decide),Q0n _ (by decide)⟩;refine⟨_,rfl,_,rfl,_,rfl,_,_,rfl,rfl,_,_,rfl,rfl,(by show(0:Int)<_;decide),_,_,_,rfl,rfl,hz,qo l1.1 l1.2,_,rfl,_,rfl,_,_,rfl,rfl,⟨by decide,by decide⟩,_,_,rfl,rfl,(by show(0:Int)<_;decide),_,_,_,rfl,rfl,hz,qo l2.1 l2.2,_,_,rfl,rfl,jj,?_⟩;refine⟨_,rfl,_,rfl,l,_,rfl,.inl (fY.of hl),rfl,se,_,rfl,iS (λcc=>?_) (λcc=>?_)⟩
   . refine⟨_,rfl,q (mO m i) (λz=>?_) (Oz m i) (Q00 2)⟩;have cc:(!inV (V.str (mO m i)) (nm.map V.str))=true:=cc;rw[r_,decide_eq_true z] at cc
     cases cc
   . have e:mO m i∈nm:=Classical.byContradiction λz=>cc (show(!inV (V.str (mO m i)) (nm.map V.str))=true by rw[r_,decide_eq_false z];rfl);refine⟨rfl,⟨_,_,rfl⟩,λj hj=>?_⟩;by_cases ej:j<i
     . exact Y j ej
     . have:j=i:=by omega
       subst this;exact e
 . rintro σ H' ⟨rfl,_,Y⟩;exact(Oy aa λi hi=>Y i hi).elim
theorem Gz:gM XR XO (gn (top 51)):=gT
theorem GA {P3 c0:Addr}(T:Tb mg)(Y:Dn K mg "_law_kinds" lN (top 51) aa U)(ah:U.code=.ref c0)(aq:W.CodeHd base c0 P3)(ar:BM mg base)(tu:Bool):e_ P w K mg base fW (8) aa U lN (uR tu P3):=by
 refine Y.F.rF ah Gz (λvs H Q E h=>?_) (λA outer s H' vs Q E hr h=>?_)
 . obtain⟨f,ins,y,qs,rs,ys,fi,rfl,_⟩:=h;rfl
 obtain⟨f,ins,y,L,ab,ys,fi,rfl,hf,au,aH,av,aw,hT0,an,ao,ap,ax,q1⟩:=h;have nd:=Gz.nd;have hu:=tH hr
 refine⟨_,(fT (gv 3 nd (gh pR (j9 (g:=(iY 0)) (tt:=kx) (te:=(gR 0)) (own:=["_law_pair"]) rfl (jW (N:=XR) (sc:=gn (top 51))) (w5 tu (pv 0)) (λ_ _ _ _ _=>(gK (i:=0) (show(["_law_pair","_law_fields_here","_law_inside","_law_into","_law_pairs"]:List Str).Nodup by decide +kernel) rfl (Or.inl rfl) (.inr rfl))) (λ_ _ _ _ _=>lb) (λ_ _ _ _ _=>(pv 0))) (iM (a_ (jd (a_ (pv 2) (a_ (jd (a_ gH (a_ (pv 1) c_))) c_))) c_))))
  (fX (f6 (jd (a_ gH (a_ (jZ o6 (by rfl) T.lJ boot_tuple (a_ (uP (te:=(iC (jq K) (gR 0) (tC (.int 0)))) (x:="_law_pair") (N':=["","","",""]) rfl T.px boot_sorted hr rfl rfl aq ar (lg.of (N:=XR) (sc:=gn (top 51)) rfl rfl rfl rfl rfl (by decide +kernel)) rfl (λ_ _ _ _ _=>rfl) (pv 3) (λ_ _ _ _ _=>(f7 (pv 0) d_))) c_)) c_)))))),?_⟩
 ac_rfl
 have aI:(gm L).length=L.length:=kE _;refine w6 (qC.of hf) (λJ hJ=>mi hJ (λi=>(gm L).take i) (by omega) (λp1 ay=>?_) (λi x hx az _=>⟨rfl,yes (ix ⟨_,rfl,az _ (take_add hx)⟩)⟩)) (λ_ h=>⟨_,rfl,h⟩);rw[Q0w];have s1:Same H' (upd H' p1 (.lst (gm L))):=Same.new ay;refine⟨_,rfl,_,rfl,jj,λr1 aA=>⟨jj,λc hc=>⟨jV,λw1 aB=>?_⟩⟩⟩;have sR:=Same.new aA (o:=.tup [.str "record",.ref ins]);have sA:=Same.new hc (o:=.tup [.str y,.ref r1]);have sB:=Same.new aB (o:=.lst [.ref c]);refine⟨p1,w1,_,_,rfl,rfl,sB _ _ (sA _ _ (sR _ _ fZ)),fZ,Q0k (i2 (by show _+1<=_;omega)),λl aD=>?_⟩;have sD:=Same.new aD (o:=.lst (gm L++[.ref c]));have sX:=((s1.trans sR).trans (sA.trans sB)).trans sD;have ae:=sD _ _ (sB _ _ (sA _ _ (fZ (H:=upd H' p1 (.lst (gm L))) (a:=r1) (o:=.tup [.str "record",.ref ins]))));have af:=sD _ _ (sB _ _ (fZ (H:=upd (upd H' p1 (.lst (gm L))) r1 (.tup [.str "record",.ref ins])) (a:=c) (o:=.tup [.str y,.ref r1])));have ai:=fZ (H:=upd (upd (upd (upd H' p1 (.lst (gm L))) r1 (.tup [.str "record",.ref ins])) c (.tup [.str y,.ref r1])) w1 (.lst [.ref c])) (a:=l) (o:=.lst (gm L++[.ref c]));clear sR sA sB sD s1;generalize upd (upd (upd (upd (upd H' p1 (.lst (gm L))) r1 (.tup [.str "record",.ref ins])) c (.tup [.str y,.ref r1])) w1 (.lst [.ref c])) l (.lst (gm L++[.ref c]))=H at sX ae af ai
 have aE:KA H (.ref r1) (.gI fi):=by
  unfold KA;exact⟨r1,ins,ys,rfl,ae,sX _ _ av,FA.mono (Tu.of sX) fi aw⟩
 obtain⟨pl,hs⟩:=ll.of aE
 have hl:fY K H l (gm (L++[(.ref c,y,pl)])):=fY.of (by
  have e:gm (L++[(.ref c,y,pl)])=gm L++[.ref c]:=by unfold gm;rw[Q0i];rfl
  rw[e];exact ai)
 have hp:jf H (L++[(.ref c,y,pl)]):=λz hz=>by
  rcases List.mem_append.mp hz with h|h
  . exact(au z h).mono (Tu.of sX)
  . rw[List.mem_singleton.mp h];exact⟨c,.ref r1,rfl,af,hs⟩
 have aj:(L++[(V.ref c,y,pl)]).length<=13:=by rw[Q0a];show L.length+1<=13;omega
 have ag:(iD (λq:Qd=>q.2.1) (.ref c,y,pl) ab).Perm (L++[(.ref c,y,pl)]):=((oj _ _ _).trans (an.cons _)).trans (Q2v _ L).symm;have ak:(nms (iD (λq:Qd=>q.2.1) (.ref c,y,pl) ab)).Nodup:=by rw[ml];exact sj ao ax
 have al:(nms (iD (λq:Qd=>q.2.1) (.ref c,y,pl) ab)).Pairwise sle:=by rw[ml];exact qF y ap
 have hT:=hT0.same sX;have q1:=λr t ac (a:iK P3 H ac) (b:gz P3 nE nF ac) (d:ac t=some (.tup (gm (iD (·.2.1) (.ref c,y,pl) ab)))) (e:ac r=some (.tup [.str "record",.ref t]))=>q1 r t c r1 pl ac ((Kp.of sX).trans a) b (a.tu hT _ _ af) (a.tu hT _ _ ae) d e;generalize iD (λq:Qd=>q.2.1) (.ref c,y,pl) ab=rs at ag ak al q1;generalize L++[(V.ref c,y,pl)]=qs at hl hp aj ag;refine⟨_,rfl,?_⟩;refine Gy (.inl hl) hp aj hT ag ak al λD H3 aF aG hD=>?_;refine⟨D,gm rs,rfl,.inl ⟨fY.of hD,λt ht=>⟨jj,λr am=>?_⟩⟩⟩;have s6:=(Same.new ht (o:=.tup (gm rs))).trans (Same.new am (o:=.tup [.str "record",.ref t]));exact q1 r t _ (aF.trans (Kp.of s6)) (aG.same s6) (by rw[fV (gc (H:=upd H3 t (.tup (gm rs))) fZ am),fZ]) fZ
end Pb
namespace Pb
open L2
theorem OB {K:PySem.W.Frag}{a b:Addr}{xs ys:List V}{g:TG}{tb:TS}{D:Ends}{σ:St}{H:Hp}(Pv:Nat->St->Hp->Prop)(el:xs.length=ys.length)(h0:Pv 0 σ H)(hl:∀i σ H,i<=xs.length->Pv i σ H->fY K H a xs/\fY K H b ys)
 (hs:∀(i:Nat) x y σ H p,xs[i]? =some x->ys[i]? =some y->Pv i σ H->H p=none->g (.ref p) σ (upd H p (.tup [x,y])) λz H2=>tb { D with nx:=Pv (i+1),ct:=Pv (i+1),bk:=D.nx } z H2) (hd:∀σ H,Pv xs.length σ H->D.nx σ H):
 ∃W:Nat->Nat->St->Hp->Prop,(∃m,W 0 m σ H)/\∀i m σ H,W i m σ H->
  ((rD K a b).stop i H/\D.nx σ H)\/((rD K a b).go i H/\∃N:St->Hp->Prop,(∀J H',N J H'->∃m',m'<m/\W (i+1) m' J H')/\∀x H',(rD K a b).mT i H x H'->g x σ H' λz H2=>tb { D with nx:=N,ct:=N,bk:=D.nx } z H2):=by
 refine⟨λi m σ H=>m=xs.length - i/\i<=xs.length/\Pv i σ H,⟨xs.length,by simp,Q0g _,h0⟩,?_⟩;rintro i m σ H ⟨rfl,hi,p⟩;obtain⟨U,Y⟩:=hl i σ H hi p;by_cases L:i<xs.length
 . refine .inr ⟨⟨xs,ys,xs[i],ys[i],U,Y,by simp[L],Q03 (by omega)⟩,Pv (i+1),λJ H' p'=>⟨xs.length - (i+1),by omega,rfl,L,p'⟩,λx H' y=>?_⟩;obtain⟨q,x1,x2,hq,rfl,e1,e2,rfl⟩:=y;exact hs i x1 x2 σ H q (e1 xs U) (e2 ys Y) p hq
 . have e:i=xs.length:=by omega
   subst e;exact .inl ⟨⟨xs,ys,U,Y,.inl (Q00 _)⟩,hd σ H p⟩
def GB:Sp:=λvs H Q _=>∃p q pl,vs=[.ref p,.ref q]/\H p=some (.lst pl)/\H q=some (.lst pl)/\(pl=[]\/∃y,pl=[.str y])/\∀H',Same H H'->Q (.bl true) H'
variable {P:Program}{w:World}{K:W.Frag}{mg:Str->Option Value}{base:Heap}
theorem OC:gM ["_law_found","_law_due","_law_a","_law_b"] Xp (gn (top 50)):=gT
theorem OD (T:Tb mg)(z:Dn K mg "_law_place" ue (top 50) J L):e_ P w K mg base fW (1) J L ue (GB):=by
 refine z.F.ok OC λvs H Q E h=>?_;obtain⟨p,q',pl,rfl,hp,hq,aa,q⟩:=h;refine⟨rfl,λac A outer s nd hr hu=>?_⟩
 refine⟨_,(fT (gp (PW.pt (iX (ia (gZ (gA iy (by rfl) T.iA boot_isinstance (a_ (pv 0) (a_ (iu (v:=.ty "list") rfl T.j_ boot_list rfl) c_))))) (i5 (gw jF (gA i9 (by rfl) T.iI PySem.boot_len (a_ (pv 0) c_)) (gA i9 (by rfl) T.iI PySem.boot_len (a_ (pv 1) c_)) (gj _))))) (fX (f6 iH)) gu)
  (fT (jt PassesOwn.never rfl (rE rfl T.rO (a_ (pv 0) (a_ (pv 1) c_))) (jE rfl (ic (gK (i:=2) nd rfl ip) (ic (gK (i:=3) nd rfl ip) jD))) (fX (gp (PW.pt (iX (gZ (gA iy (by rfl) T.iA boot_isinstance (a_ (pv 2) (a_ (iu (v:=.ty "bool") rfl T.qr boot_bool rfl) c_)))) (iX (gw jF (gA iy (by rfl) T.iA boot_isinstance (a_ (pv 2) (a_ (iu (v:=.ty "str") rfl T.nt boot_str rfl) c_))) (gA iy (by rfl) T.iA boot_isinstance (a_ (pv 3) (a_ (iu (v:=.ty "str") rfl T.nt boot_str rfl) c_))) (gj _)) (i5 (gw jF (pv 2) (pv 3) (gj _)))))) (fX (f6 iH)) gu)))
  (fX (f6 iH)))),?_⟩
 ac_rfl
 refine⟨_,rfl,_,_,_,true,rfl,.lst hp,rfl,true,rfl,gP ?_⟩;refine⟨_,rfl,p,_,rfl,.inl (fY.of hp),_,rfl,q',_,rfl,.inl (fY.of hq),rfl,_,rfl,ku rfl ?_⟩;refine⟨_,rfl,_,rfl,p,q',rfl,⟨_,fY.of hp⟩,⟨_,fY.of hq⟩,OB (xs:=pl) (ys:=pl) (λi σ H'=>Same H H'/\∃x y,σ=[some (.ref p),some (.ref q'),x,y]) rfl ⟨Same.refl _,_,_,rfl⟩ ?_ ?_ ?_⟩
 . rintro i σ H' _ ⟨U,_⟩;exact⟨fY.of (U _ _ hp),fY.of (U _ _ hq)⟩
 . rintro i x y σ H' p2 Y hy ⟨U,z1,z2,rfl⟩ ab;rw[Y] at hy
   cases hy
   obtain⟨yy,rfl⟩:∃yy,x=.str yy:=by
    rcases aa with e|⟨yy,e⟩
    . rw[e] at Y;cases Y
    . rw[e] at Y;have:=Q0s Y;exact⟨yy,List.mem_singleton.mp this⟩
   refine⟨p2,_,rfl,fU.of fZ,rfl,_,_,rfl,_,_,rfl,rfl,?_⟩;refine⟨_,rfl,_,_,_,false,rfl,.str _,rfl,false,rfl,gP ?_⟩;refine⟨_,rfl,_,_,_,true,rfl,.str _,rfl,_,rfl,_,_,_,true,rfl,.str _,rfl,rfl,_,rfl,ku rfl ?_⟩;refine⟨_,rfl,_,rfl,rfl,_,rfl,ku rfl ?_⟩;exact⟨U.trans (Same.new ab),_,_,rfl⟩
 . rintro σ H' ⟨U,_⟩;exact q _ U
end Pb
namespace Pb
open L2 PyProof.Rows
theorem uS {l m:List Str}(hl:l.Nodup)(J:m.Nodup)(h:∀x,x∈l↔x∈m):l.length=m.length:=
 Q2c (uE hl λx z=>(h x).mp z) (uE J λx z=>(h x).mpr z)
theorem xR (f:Str->V){l:List Str}(h:l.Nodup):((gq f l).map (·.1)).Nodup:=by
 unfold gq;rw[Q0z];exact List.Pairwise.map _ (λa b h z=>h (Sum.inr.inj z)) h
theorem RecAt.re {S:List Addr}{n:Nat}{H:Hp}{fs:Fs}{f f':Str->V}{l l':List Str}{U:Str->D}(h:RecAt S n H fs (gq f l) U)(hl:l.Nodup)(J:l'.Nodup)(L:∀x,x∈l'↔x∈l)(Y:∀x∈l,f' x=f x):RecAt S n H fs (gq f' l') U:=by
 refine⟨?_,xR f' J,λx k hx=>?_⟩
 . rw[<-h.len,jN,jN];exact uS J hl L
 . obtain⟨v,fp,z,g⟩:=h.get x k hx;rw[jM] at z;by_cases e:x∈l
   . rw[if_pos e] at z
     cases z;exact⟨f x,fp,by rw[jM,if_pos ((L x).mpr e),Y x e],g⟩
   . rw[if_neg e] at z;cases z
theorem RecAt.each {S:List Addr}{n:Nat}{H:Hp}{fs:Fs}{f:Str->V}{l:List Str}{J:Str->D}(h:RecAt S n H fs (gq f l) J)(x:Str)(k:Kd)(L:fs.get x=some k):x∈l/\∃fp,Own H (f x) (J x) fp/\(∀c∈fp,c ∉ S)/\ij k (J x)/\(J x).dep<=n/\(J x).Sm:=by
 obtain⟨v,fp,z,g⟩:=h.get x k L;rw[jM] at z;by_cases e:x∈l
 . rw[if_pos e] at z
   cases z;exact⟨e,fp,g⟩
 . rw[if_neg e] at z;cases z
theorem xS {f g:Str->V}{l:List Str}(h:∀x∈l,f x=g x):gq f l=gq g l:=by
 unfold gq;exact Q1i λx z=>by rw[h x z]
theorem GC {g:Str->V}:∀(B A:List Str) (f:Str->V),(∀x∈B,x ∉ A)->B.Nodup->mj (gq f A) (gq g B)=gq (λz=>if z∈B then g z else f z) (A++B)
 |[],A,f,_,_=>by
  rw[Q0v];show gq f A=_;exact xS λx _=>by rw[if_neg (λz=>nomatch z)]
 |x::r,A,f,Y,nd=>by
  obtain⟨n1,n2⟩:=List.nodup_cons.mp nd;have e:mj (gq f A) (gq g (x::r))=mj (putK (gq f A) (Sum.inr x) (g x)) (gq g r):=rfl
  rw[e,F2 f (g x) (Y x Q05),GC r (A++[x]) _ (λz U hA=>by
   rcases List.mem_append.mp hA with q|q
   . exact Y z (Q0d _ U) q
   . exact n1 (by rw[<-List.mem_singleton.mp q];exact U)) n2,Q1a]
  show gq _ (A++x::r)=_;refine xS λz U=>?_;show(if z∈r then g z else if z=x then g x else f z)=if z∈x::r then g z else f z
  by_cases L:z∈r
  . rw[if_pos L,if_pos (Q0d _ L)]
  . rw[if_neg L];by_cases J:z=x
    . rw[if_pos J,if_pos (by rw[J];exact Q05),J]
    . rw[if_neg J,if_neg (λq=>by
       rcases List.mem_cons.mp q with q|q
       . exact J q
       . exact L q)]
theorem FA.mq {H:Hp}:∀{fs:Fs}{vs:List V},FA H vs fs->vs.length=fs.names.length
 | .nil,vs,h=>by have h:vs=[]:=h;subst h;rfl
 | .cons x k r,vs,⟨c,u,z,J,h1,h2,L⟩=>by subst J;show z.length+1=_;rw[FA.mq L];rfl
theorem lW {K:W.Frag}{H:Hp}{n:Nat}{a b:Addr}{xs ys:List V}(z:H a=some (.tup xs))(J:H b=some (.tup ys))(hl:xs.length=ys.length)(L:∀(j:Nat) (x y:V),xs[j]? =some x->ys[j]? =some y->jv K H n x y true):jv K H (n+1) (.ref a) (.ref b) true:=by
 by_cases e:a=b
 . subst e;exact .ref a
 . have:=jv.tup (e:=λ_=>true) e (fU.of (K:=K) z) (fU.of (K:=K) J) L
   have U:((List.range (min xs.length ys.length)).all (λ_=>true) && xs.length == ys.length)=true:=by
    rw[hl];simp
   rw[U] at this;exact this
theorem mr {K:W.Frag}{H:Hp}{n:Nat}(x:Str):jv K H n (.str x) (.str x) true:=by
 have:=jv.str (K:=K) (H:=H) (n:=n) x x;rw[decide_eq_true rfl] at this;exact this
theorem all2 {K:W.Frag}{H:Hp}{n:Nat}{x y L U:V}(h1:jv K H n x L true)(h2:jv K H n y U true):∀(j:Nat) (a b:V),[x,y][j]? =some a->[L,U][j]? =some b->jv K H n a b true
 |0,_,_,z,J=>by cases z;cases J;exact h1
 |1,_,_,z,J=>by cases z;cases J;exact h2
 |_+2,_,_,z,_=>by cases z
mutual
theorem KA.nG {K:W.Frag}{H:Hp}:∀(k:Kd) {n:Nat}{u v:V},3 * k.dep<=n->KA H u k->KA H v k->jv K H n u v true
 | .num,n,u,v,z,h1,h2=>by
   unfold KA at h1 h2;obtain⟨a,rfl,U⟩:=h1;obtain⟨b,rfl,Y⟩:=h2;have z:3<=n:=z;obtain⟨m,rfl⟩:∃m,n=m+1:=⟨n - 1,by omega⟩
   exact lW U Y rfl λj x y J L=>by
    match j,J,L with
    |0,J,L=>cases J;cases L;exact mr _
 | .iF,n,u,v,z,h1,h2=>by
   unfold KA at h1 h2;obtain⟨a,rfl,U⟩:=h1;obtain⟨b,rfl,Y⟩:=h2;have z:3<=n:=z;obtain⟨m,rfl⟩:∃m,n=m+1:=⟨n - 1,by omega⟩
   exact lW U Y rfl λj x y J L=>by
    match j,J,L with
    |0,J,L=>cases J;cases L;exact mr _
 | .gI fs,n,u,v,z,h1,h2=>by
   unfold KA at h1 h2;obtain⟨a,a2,ws,rfl,U,aa,hF⟩:=h1;obtain⟨b,b2,zs,rfl,Y,ab,hG⟩:=h2;have z:3 * (fs.dep+1)<=n:=z;obtain⟨m,rfl⟩:∃m,n=m+1+1:=⟨n - 2,by omega⟩;exact lW U Y rfl (all2 (mr _) (lW aa ab (by rw[FA.mq hF,FA.mq hG]) (FA.nG fs (by omega) hF hG)))
 | .je fs,n,u,v,z,h1,h2=>by
   unfold KA at h1 h2;obtain⟨a,a2,ws,rfl,U,aa,hF⟩:=h1;obtain⟨b,b2,zs,rfl,Y,ab,hG⟩:=h2;have z:3 * (fs.dep+1)<=n:=z;obtain⟨m,rfl⟩:∃m,n=m+1+1:=⟨n - 2,by omega⟩;exact lW U Y rfl (all2 (mr _) (lW aa ab (by rw[FA.mq hF,FA.mq hG]) (FA.nG fs (by omega) hF hG)))
 | .rows key b_ fs,n,u,v,z,h1,h2=>by
   unfold KA at h1 h2;obtain⟨a,a2,ws,rfl,U,aa,hF⟩:=h1;obtain⟨b,b2,zs,rfl,Y,ab,hG⟩:=h2;have z:3 * (fs.dep+1)<=n:=z;obtain⟨m,rfl⟩:∃m,n=m+1+1:=⟨n - 2,by omega⟩;have hh:jv K H (m+1) (.ref a2) (.ref b2) true:=lW aa ab (by rw[FA.mq hF,FA.mq hG]) (FA.nG fs (by omega) hF hG)
   exact lW U Y rfl λj x y J L=>by
    match j,J,L with
    |0,J,L=>cases J;cases L;exact mr _
    |1,J,L=>cases J;cases L;exact mr _
    |2,J,L=>cases J;cases L;exact mr _
    |3,J,L=>cases J;cases L;exact hh
 | .tree k,n,u,v,z,h1,h2=>by
   unfold KA at h1 h2;obtain⟨a,u',rfl,U,hu⟩:=h1;obtain⟨b,v',rfl,Y,hv⟩:=h2;have z:3 * (k.dep+1)<=n:=z;obtain⟨m,rfl⟩:∃m,n=m+1:=⟨n - 1,by omega⟩;exact lW U Y rfl (all2 (mr _) (KA.nG k (by omega) hu hv))
theorem FA.nG {K:W.Frag}{H:Hp}:∀(fs:Fs) {n:Nat}{z zs:List V},3 * fs.dep+1<=n->FA H z fs->FA H zs fs->∀(j:Nat) (x y:V),z[j]? =some x->zs[j]? =some y->jv K H n x y true
 | .nil,n,z,zs,hn,h1,h2,j,x,y,J,L=>by
   unfold FA at h1;subst h1
   cases J
 | .cons nm k r,n,z,zs,hn,h1,h2,j,x,y,J,L=>by
   unfold FA at h1 h2;obtain⟨c,u,vr,rfl,hc,hk,hr⟩:=h1;obtain⟨c',u',ab,rfl,U,Y,aa⟩:=h2;have hm:3 * max k.dep r.dep+1<=n:=hn;have hx:=Q1x k.dep r.dep;have hy:=Q1y k.dep r.dep
   cases j with
   |zero=>
    cases J;cases L;obtain⟨m,rfl⟩:∃m,n=m+1:=⟨n - 1,by omega⟩;exact lW hc U rfl (all2 (mr _) (KA.nG k (by omega) hk Y))
   |succ j=>exact FA.nG r (by omega) hr aa j x y J L
end
theorem OE {kvs:List (Key × V)}{k:Key}{v:V}(h:gO kvs k=none):(putK kvs k v).length=kvs.length+1:=by
 unfold putK;rw[if_neg (by rw[mE,h];decide),Q0a];rfl
structure oo (P2 C v kk t dx sh:Addr) (y:Str) (xs:List V) (fs:Fs) (ss:List Str) (f:Str->V) (ks:List Str) (δ:Str->D) (S:List Addr) (n:Nat) (H:Hp):Prop where
 vw:kF H C v dx y
 kd:jm H kk t xs (iq fs ss y)
 ok:om fs
 hy:y ∉ gf ss fs.names
 ls:gz P2 jk jl H
 sh:H sh=some (.dK (gq f ks))
 nd:ks.Nodup
 rc:RecAt S n H fs (gq f ks) δ
 pS:P2∈S
theorem oo.kp {P2 C v L t dx U:Addr}{y:Str}{xs:List V}{fs:Fs}{ss:List Str}{f:Str->V}{ks:List Str}{Y:Str->D}{S:List Addr}{n:Nat}{H H':Hp}(W:oo P2 C v L t dx U y xs fs ss f ks Y S n H)(kp:iK P2 H H')(ls:gz P2 jk jl H'):oo P2 C v L t dx U y xs fs ss f ks Y S n H':=by
 obtain⟨ps,J⟩:=W.ls.tab;exact⟨jQ J kp W.vw (by intro ps z;cases z),W.kd.mono (kG J kp),W.ok,W.hy,ls,jQ J kp W.sh (by intro ps z;cases z),W.nd,W.rc.keep (kG J kp) λc o hc e=>kp c o (λz=>hc (by rw[z];exact W.pS)) e,W.pS⟩
theorem oo.same {P2 C v z t dx J:Addr}{y:Str}{xs:List V}{fs:Fs}{ss:List Str}{f:Str->V}{ks:List Str}{L:Str->D}{S:List Addr}{n:Nat}{H H':Hp}(W:oo P2 C v z t dx J y xs fs ss f ks L S n H)(s:Same H H'):oo P2 C v z t dx J y xs fs ss f ks L S n H':=
 W.kp (Kp.of s) (W.ls.same s)
def GD (n:Nat) (P2 C:Addr):Sp:=λvs H Q _=>∃v z t dx y xs fs src J ins ys,∃(ss:List Str) (f:Str->V) (ks:List Str) (L:Str->D) (S:List Addr),vs=[.ref v,.ref z,src,.ref J,.ref ins]/\oo P2 C v z t dx J y xs fs ss f ks L S n H/\("xyxyxy":Str) ∉ fs.names/\H ins=some (.tup ys)/\FA H ys (fs.f_ ss)/\
 ∀H',iK P2 H H'->gz P2 jk jl H'->Q (.bl true) H'
section
variable {P:Program}{w:World}{K:W.Frag}{mg:Str->Option Value}{base:Heap}
variable {C P2 iP:Addr}
theorem OF:gM ["_law_view","_law_kind_here","_law_source","_law_shown","_law_inside","_law_more","_law_told","_law_name"] XM (gn (top 53)):=gT
theorem OG (n j:Nat)(T:Tb mg)(aa:Dn K mg "_law_refused" uf (top 53) ab ac)(U:Dn K mg "_law_put" qw (top 48) ai aj)(Y:e_ P w K mg base fW (j+6) ai aj qw (xM iP C (xP iP n P2 C)))(J:Dn K mg "_law_place" ue (top 50) ae af)(L:e_ P w K mg base fW (1) ae af ue (GB))(hj:10<=j):e_ P w K mg base fW (j+7) ab ac uf (GD n P2 C):=by
 refine aa.F.ok OF λvs H Q E h=>?_;obtain⟨v,kk,t,dx,y,xs,fs,src,sh,ins,ys,ss,f,ks,δ,S,rfl,W,aT,aU,aG,q⟩:=h;refine⟨rfl,λa9 A outer s nd hr hu=>?_⟩
 refine⟨_,(fT (gv 5 nd (jZ xv (by rfl) T.nX boot_dict (a_ (pv 3) c_)))
  (fT (mF hu (pv 5) gH d_ rfl)
  (fT (gv 6 nd (f9 Y hr U (a_ (pv 0) (a_ (pv 1) (a_ (pv 2) (a_ (pv 5) c_))))))
  (fT (gp (PW.pt (iX (gw jF (f7 (pv 6) d_) gH (gj _)) (i5 (ia (gZ (f9 L hr J (a_ (f7 (pv 6) d_) (a_ (iM c_) c_)))))))) (fX (f6 iH)) gu)
  (fT (gp (gw gL (gA i9 (by rfl) T.iI PySem.boot_len (a_ (pv 4) c_)) d_ (gj _)) (fX (f6 iH)) gu)
  (fT (gv 5 nd (jZ xv (by rfl) T.nX boot_dict (a_ (pv 3) c_)))
  (fT (gv 7 nd (f7 (f7 (pv 4) (gh jh (gA i9 (by rfl) T.iI PySem.boot_len (a_ (pv 4) c_)) d_)) d_))
  (fT (mF hu (pv 5) (pv 7) iB rfl)
  (fT (gv 6 nd (f9 Y hr U (a_ (pv 0) (a_ (pv 1) (a_ (pv 2) (a_ (pv 5) c_))))))
  (fX (f6 (kH (jK gL (f7 (pv 6) d_) gH (gj _)) (lD (f9 L hr J (a_ (f7 (pv 6) d_) (a_ (iM (a_ (pv 7) c_)) c_)))))))))))))))),?_⟩
 ac_rfl
 obtain⟨ps,hP⟩:=W.ls.tab
 have a8:ks.length<=11:=by
  have:=W.rc.len;rw[jN] at this;rw[this];exact W.ok.mn
 refine⟨_,rfl,sh,_,rfl,W.sh,λmo aH=>?_⟩;refine⟨_,rfl,mo,_,rfl,kK.k (k:=Sum.inr "xyxyxy") fZ (by rw[jN];exact i2 (by omega)),?_⟩;have s7:Same H (upd (upd H mo (.dK (gq f ks))) mo (.dK (putK (gq f ks) (Sum.inr "xyxyxy") (.int 0)))):=λc o e=>by rw[fV (gc e aH),fV (gc e aH)];exact e
 have ap:upd (upd H mo (.dK (gq f ks))) mo (.dK (putK (gq f ks) (Sum.inr "xyxyxy") (.int 0))) mo=some (.dK (putK (gq f ks) (Sum.inr "xyxyxy") (.int 0))):=fZ;generalize upd (upd H mo (.dK (gq f ks))) mo (.dK (putK (gq f ks) (Sum.inr "xyxyxy") (.int 0)))=H7 at s7 ap;have W7:=W.same s7
 have aV:gO (gq f ks) (Sum.inr ("xyxyxy":Str))=none:=by
  rw[jM,if_neg (λz=>aT ((W.rc.mM W.ok.nd _).mp z))]
 have aI:Wr S n H7 fs (.ref mo) []:=⟨mo,_,rfl,ap,.inl ⟨by rw[OE aV,W.rc.len];omega,rfl⟩⟩;refine⟨_,rfl,_,rfl,_,rfl,_,rfl,v,kk,src,.ref mo,rfl,⟨dx,_,W7.vw,rfl⟩,.inr ⟨v,kk,t,dx,y,xs,fs,src,.ref mo,[],S,ss,rfl,W7.vw,W7.kd,W7.ok,W7.hy,W7.ls,aI,W7.pS,λaA p8 aW aq ar ak al=>⟨rfl,aA,p8,rfl,ak,λan H8 s8 ag=>?_⟩⟩⟩;have am:=s8 _ _ al;have aX:iK P2 H H8:=(Kp.of s7).trans (aq.trans (Kp.of s8));have aY:=ar.same s8;refine⟨_,rfl,an,_,_,_,rfl,rfl,fU.of ag,rfl,rfl,_,rfl,ku rfl ?_⟩;refine⟨_,rfl,an,_,_,_,rfl,rfl,fU.of ag,rfl,kT,λp9 aB=>?_⟩;refine⟨p8,p9,[],rfl,by rw[fV (gc am aB)];exact am,fZ,.inl rfl,λH9 s9=>⟨true,rfl,gP ?_⟩⟩;have ao:iK P2 H H9:=aX.trans (Kp.of ((Same.new aB).trans s9));have aJ:=aY.same ((Same.new aB).trans s9);clear ag am aI ap al ak W7;have W9:=W.kp ao aJ;have au:=kG hP ao _ _ aU;have aM:=FA.mono (kG hP ao) _ aG;have ba:=FA.len _ aG;refine⟨_,rfl,ins,_,rfl,.inr (fU.of au),rfl,_,rfl,iS (λc'=>q _ ao aJ) (λc'=>?_)⟩;have bb:ys.length≠0:=λz=>c' (by rw[z];rfl);refine⟨_,rfl,sh,_,rfl,W9.sh,λle aD=>?_⟩;have ax:Same H9 (upd H9 le (.dK (gq f ks))):=Same.new aD;have av:upd H9 le (.dK (gq f ks)) le=some (.dK (gq f ks)):=fZ;have hi:ys.length / 2<ys.length:=by omega
 obtain⟨c,u,nm,k,ec,aZ,hc,hk⟩:=FA.get _ (FA.mono (Tu.of ax) _ aM) (Q03 hi)
 have a1:jo ys ((ys.length:Int) / 2)=some (.ref c):=by
  have:=lF (j:=ys.length / 2) (show ys[ys.length / 2]? =some (.ref c) by rw[Q03 hi,ec]);rw[show((ys.length:Int) / 2)=((ys.length / 2:Nat):Int) by omega];exact this
 have aK:nm∈fs.names:=(jH.mp (Q0s (show(fs.f_ ss).names[ys.length / 2]? =some nm by rw[Fs.kz,aZ];rfl))).1;have a2:nm∈ks:=(W.rc.mM W.ok.nd _).mpr aK;refine⟨_,rfl,_,rfl,ins,_,rfl,.inr (fU.of (ax _ _ au)),_,_,rfl,rfl,⟨by decide,by decide⟩,ins,_,_,_,rfl,rfl,fU.of (ax _ _ au),a1,c,_,_,_,rfl,rfl,fU.of hc,rfl,?_⟩;refine⟨_,rfl,_,rfl,le,_,rfl,kK.k (k:=Sum.inr nm) av (by rw[jN];exact i2 (by omega)),?_⟩;have aE:Same H9 (upd (upd H9 le (.dK (gq f ks))) le (.dK (putK (gq f ks) (Sum.inr nm) .non))):=λc o e=>by rw[fV (gc e aD),fV (gc e aD)];exact e
 have aw:upd (upd H9 le (.dK (gq f ks))) le (.dK (putK (gq f ks) (Sum.inr nm) .non)) le=some (.dK (putK (gq f ks) (Sum.inr nm) .non)):=fZ;clear ax av hc hk;generalize upd (upd H9 le (.dK (gq f ks))) le (.dK (putK (gq f ks) (Sum.inr nm) .non))=a3 at aE aw;have ah:=W9.same aE;have a4:gO (gq f ks) (Sum.inr nm)=some (f nm):=by rw[jM,if_pos a2]
 have aF:(putK (gq f ks) (Sum.inr nm) .non).length=fs.names.length:=by
  have:=congrArg List.length (Nf (v:=.non) (show(gO (gq f ks) (Sum.inr nm)).isSome=true by rw[a4];rfl));rw[Q04,Q04] at this;rw[this];exact W.rc.len
 have aN:Wr S n a3 fs (.ref le) [.str nm]:=⟨le,_,rfl,aw,.inr ⟨nm,δ,aF,aK,by rw[Dd,if_pos rfl],rfl,λx k hx hk=>by
  obtain⟨v,fp,g1,g2,g3,g4⟩:=ah.rc.get x k hk;exact⟨v,fp,by rw[Dd,if_neg (λz=>hx (Sum.inr.inj z))];exact g1,g2,g3,g4⟩⟩⟩
 refine⟨_,rfl,_,rfl,_,rfl,_,rfl,v,kk,src,.ref le,rfl,⟨dx,_,ah.vw,rfl⟩,.inr ⟨v,kk,t,dx,y,xs,fs,src,.ref le,[.str nm],S,ss,rfl,ah.vw,ah.kd,ah.ok,ah.hy,ah.ls,aN,ah.pS,λaA p8 aW aq ar ak al=>⟨rfl,aA,p8,rfl,ak,λan a5 s8 ag=>?_⟩⟩⟩;have am:=s8 _ _ al;have aO:iK P2 H a5:=ao.trans ((Kp.of aE).trans (aq.trans (Kp.of s8)));have aP:=ar.same s8;refine⟨_,rfl,an,_,_,_,rfl,rfl,fU.of ag,rfl,rfl,_,rfl,ix ?_⟩;refine⟨_,rfl,an,_,_,_,rfl,rfl,fU.of ag,rfl,_,rfl,jV,λa6 ay=>?_⟩;refine⟨p8,a6,[.str nm],rfl,by rw[fV (gc am ay)];exact am,fZ,.inr ⟨nm,rfl⟩,λbc a7=>?_⟩;have az:=(Same.new ay).trans a7;exact q _ (aO.trans (Kp.of az)) (aP.same az)
end
theorem uT {P:Addr}{J:Pos}{L:Str}{H H':Hp}(h:gz P J L H)(U:∀ps,H P=some (.gQ ps)->H' P=some (.gQ ps))(Y:∀c o,(∀xs,o≠ .lst xs)->(∀ps,o≠ .gQ ps)->H c=some o->H' c=some o):gz P J L H':=by
 rcases h with e|⟨c,e,f⟩
 . exact .inl (U _ e)
 . exact .inr ⟨c,U _ e,Y _ _ (by intro xs z;cases z) (by intro xs z;cases z) f⟩
theorem kj {P P2:Addr}{J:Pos}{L:Str}{H H':Hp}(h:gz P J L H)(U:P≠P2)(x:iK P2 H H'){ps:Array Value}(Y:H P2=some (.gQ ps)):gz P J L H':=
 uT h (λps e=>x _ _ U e) λc o _ ho e=>x c o (λz=>by rw[z,Y] at e;cases e;exact ho _ rfl) e
theorem GF {H:Hp}{r t' c:Addr}{u:V}{y:Str}{k:Kd}{pl:Bool}{z:List Qd}{g:Fs}(h1:H r=some (.tup [.str "record",.ref t']))(h2:H t'=some (.tup (gm (iD (·.2.1) (.ref c,y,pl) z))))(J:FA H (gm z) g)(L:nms z=g.names)(hc:H c=some (.tup [.str y,u]))(hk:KA H u k)(hw:k.W)(U:g.names.Nodup)(Y:g.names.Pairwise sle)(hl:g.names.length<=11)(gW:g.W)(hy:y ∉ g.names):jm H r t' (gm (iD (·.2.1) (.ref c,y,pl) z)) (g.ins y k):=by
 refine⟨h1,h2,?_,?_,?_,Fs.uG hw gW,?_⟩
 . rw[xC,L];exact FA.ins hc hk _ J
 . rw[Fs.lV];exact sj U hy
 . rw[Fs.lV,sm];omega
 . rw[Fs.lV];exact qF y Y
abbrev sE (P2 P3:Addr) (H H':Hp):Prop:=Kp (λc=>c=P2\/c=P3) H H'
theorem Kp.l {P2 P3:Addr}{H H':Hp}(k:iK P2 H H'):sE P2 P3 H H':=λc o n e=>k c o (λz=>n (.inl z)) e
theorem Kp.r {P2 P3:Addr}{H H':Hp}(k:iK P3 H H'):sE P2 P3 H H':=λc o n e=>k c o (λz=>n (.inr z)) e
theorem xT {P2 P3:Addr}{H H':Hp}{p2 L:Array Value}(h2:H P2=some (.gQ p2))(U:H P3=some (.gQ L))(k:sE P2 P3 H H'){c:Addr}{o:HO}(e:H c=some o)(J:∀ps,o≠ .gQ ps):H' c=some o:=
 k c o (λz=>by
   rcases z with z|z
   . rw[z,h2] at e;cases e;exact J _ rfl
   . rw[z,U] at e;cases e;exact J _ rfl) e
structure oq (P2 P3 f ins:Addr) (xs ys:List V) (fs:Fs) (ss:List Str) (H:Hp):Prop where
 f:H f=some (.tup xs)
 fa:FA H xs (fs.f_ (gf ss fs.names))
 ins:H ins=some (.tup ys)
 fi:FA H ys (fs.f_ ss)
 l2:gz P2 jk jl H
 l3:gz P3 nE nF H
theorem oq.kp {P2 P3 f ins:Addr}{xs ys:List V}{fs:Fs}{ss:List Str}{H H':Hp}(W:oq P2 P3 f ins xs ys fs ss H)(u:Tu H H')(z:gz P2 jk jl H')(J:gz P3 nE nF H'):oq P2 P3 f ins xs ys fs ss H':=
 ⟨u _ _ W.f,FA.mono u _ W.fa,u _ _ W.ins,FA.mono u _ W.fi,z,J⟩
theorem oq.same {P2 P3 f ins:Addr}{xs ys:List V}{fs:Fs}{ss:List Str}{H H':Hp}(W:oq P2 P3 f ins xs ys fs ss H)(s:Same H H'):oq P2 P3 f ins xs ys fs ss H':=W.kp (Tu.of s) (W.l2.same s) (W.l3.same s)
theorem GH {H:Hp}{r t' c J ins:Addr}{y:Str}{pl:Bool}{z:List Qd}{ys:List V}{fs:Fs}{ss:List Str}(hF:om fs)(hy:y ∉ gf ss fs.names)(hf:FA H (gm z) (fs.f_ (gf ss fs.names)))(hn:nms z=gf ss fs.names)(L:H ins=some (.tup ys))(U:FA H ys (fs.f_ ss))(hc:H c=some (.tup [.str y,.ref J]))(Y:H J=some (.tup [.str "record",.ref ins]))(ht:H t'=some (.tup (gm (iD (·.2.1) (.ref c,y,pl) z))))(hr:H r=some (.tup [.str "record",.ref t'])):jm H r t' (gm (iD (·.2.1) (.ref c,y,pl) z)) (iq fs ss y):=by
 have l1:(gf ss fs.names).length<=11:=Q0b (Q0o _ _) hF.mn;refine GF hr ht hf (by rw[hn,i8]) hc ?_ ?_ (by rw[i8];exact hF.nd.filter _) (by rw[i8];exact hF.so.filter _) (by rw[i8];exact l1) (Fs.oh _ hF.W) (by rw[i8];exact hy)
 . unfold KA;exact⟨J,ins,ys,rfl,Y,L,U⟩
 . unfold Kd.W;exact⟨by rw[Fs.jx];exact hF.nd.filter _,by rw[Fs.jx];have:=Q0o (λx=>decide (x∈ss)) fs.names;have:=hF.mn;omega,Fs.oh _ hF.W⟩
def GI (P2 P3:Addr):Sp:=λvs H Q _=>∃f ins y xs ys fs ss,vs=[.ref f,.ref ins,.str y]/\oq P2 P3 f ins xs ys fs ss H/\om fs/\y ∉ gf ss fs.names/\P2≠P3/\∀H',sE P2 P3 H H'->gz P2 jk jl H'->gz P3 nE nF H'->Q (.bl true) H'
section
variable {P:Program}{w:World}{K:W.Frag}{mg:Str->Option Value}{base:Heap}
variable {C P2 P3 jn:Addr}
theorem OH:gM Xa XO (gn (top 55)):=gT
theorem OI (T:Tb mg)(UF:mL K mg C J aq az aA aB au)(aj:Dn K mg "_law_clash" lN (top 55) ak al)(Y:Dm K "__init__" "Unnest.__init__" qu (gB 34 0) J aa)(ab:e_ P w K mg base fW (1) J aa qu (xG C))(ac:Dn K mg "_law_kinds" lN (top 51) ae af)(am:e_ P w K mg base fW (8) ae af lN (uR true P3))(ag:e_ P w K mg base fW 8 ae af lN (uR false P3))(L:Dn K mg "_law_stands" uc (top 52) ah ai)(U:e_ P w K mg base fW (11) ah ai uc (Gm jn C (Gs jn P2 C))):e_ P w K mg base fW (12) ak al lN (GI P2 P3):=by
 have CT:=UF.ct;have ap:=UF.uL;have ar:=UF.m;refine aj.F.ok OH λvs H Q E h=>?_;obtain⟨f,ins,y,xs,ys,fs,ss,rfl,W,hF,hy,aJ,q⟩:=h;refine⟨rfl,λbL A outer s nd hr hu=>?_⟩;have bg:=Q1h (Q1v (by decide:2<=64) _) hr.units
 refine⟨_,(fT (gv 3 nd (vF ap ab (hr.mono (by decide)) rfl ar Y.b .nil k_ (a_ (pv 2) c_)))
  (fT (gp (PW.pt (iX (gw gL (gA i9 (by rfl) T.iI PySem.boot_len (a_ (pv 1) c_)) d_ (gj _)) (i5 (gw gL (f7 (f7 (pv 1) d_) d_) (pv 2) (gj _))))) (fX (f6 iH)) gu)
  (fT (gv 4 nd (gh pR (j9 (g:=(iY 0)) (tt:=kx) (te:=(gR 0)) (own:=["_law_pair"]) rfl (jW (N:=Xa) (sc:=gn (top 55))) (jS (pv 0)) (λ_ _ _ _ _=>(gK (i:=0) (show(["_law_pair","_law_fields_here","_law_inside","_law_into","_law_view","_law_more","_law_found"]:List Str).Nodup by decide +kernel) rfl (Or.inl rfl) (.inr rfl))) (λ_ _ _ _ _=>lb) (λ_ _ _ _ _=>(pv 0))) (iM (a_ (jd (a_ (f7 (f7 (pv 1) d_) d_) (a_ (jd (a_ gH c_)) c_))) c_))))
  (fT (gv 5 nd (f9 U hr L (a_ (pv 3) (a_ (f9 ag hr ac (a_ (pv 4) (a_ (pv 1) (a_ (pv 2) c_)))) c_))))
  (fT (gp (PW.pt (iX (ia (gZ (gA iy (by rfl) T.iA boot_isinstance (a_ (pv 5) (a_ (iu (v:=.ty "list") rfl T.j_ boot_list rfl) c_))))) (i5 (gw (v9 (n:=1) bg) (pv 5) (iM c_) (gj _))))) (fX (f6 iH)) gu)
  (fT (gv 5 nd (f9 U hr L (a_ (pv 3) (a_ (f9 am hr ac (a_ (pv 0) (a_ (pv 1) (a_ (pv 2) c_)))) c_))))
  (fX (f6 (kH (gA iy (by rfl) T.iA boot_isinstance (a_ (pv 5) (a_ (iu (v:=.ty "tuple") rfl T.lJ boot_tuple rfl) c_))) (lD (jK gL (f7 (pv 5) d_) gH (gj _)))))))))))),?_⟩
 ac_rfl
 refine⟨_,rfl,λv dx hv bh bM=>⟨v,dx,y,rfl,fZ,λH1 keep bi=>⟨rfl,?_⟩⟩⟩;have s1:Same H H1:=λc o e=>keep c o (gc e hv) (by rw[fV (gc e hv),fV (gc e bh)];exact e);have W1:=W.same s1;have aw:=q H1 (Kp.of s1) W1.l2 W1.l3;refine⟨_,rfl,ins,_,rfl,.inr (fU.of W1.ins),rfl,_,rfl,iS (λc'=>aw) (λc'=>?_)⟩;have bJ:ys.length≠0:=λz=>c' (by rw[z];rfl);have h0:0<ys.length:=by omega
 obtain⟨c0,u0,x0,k0,e0,ba,aT,bN⟩:=FA.get _ W1.fi (Q03 h0);have aU:jo ys (0:Int)=some (.ref c0):=lF (j:=0) (by rw[Q03 h0,e0]);have aD:=jH.mp (Q0s (show(fs.f_ ss).names[0]? =some x0 by rw[Fs.kz,ba];rfl));refine⟨_,rfl,ins,_,_,_,rfl,rfl,fU.of W1.ins,aU,c0,_,_,_,rfl,rfl,fU.of aT,rfl,_,rfl,rfl,_,rfl,iS (λc2=>aw) (λc2=>?_)⟩;have aV:x0≠y:=λz=>c2 (by rw[z];exact decide_eq_true rfl);clear aw c' c2 keep;have bj:=FA.len _ W1.fa;rw[i8] at bj;have bO:=hF.mn
 have bK:(gf ss fs.names).length+1<=fs.names.length:=by
  have e:(gf ss fs.names).length<fs.names.length:=Nat.lt_of_le_of_ne (Q0o _ _) λz=>by
   have:=List.length_filter_eq_length_iff.mp z x0 aD.1;exact(of_decide_eq_true this) aD.2
  omega
 refine⟨_,rfl,f,rfl,⟨_,fU.of W1.f⟩,mi (mU (fU.of W1.f)) (λi=>xs.take i) (by omega) (λp1 bm=>?_) (λi x hx bn _=>⟨rfl,yes (ix ⟨_,rfl,bn _ (take_add hx)⟩)⟩)⟩;rw[Q0w];have sP:=Same.new bm (o:=.lst xs);refine⟨_,rfl,ins,_,_,_,rfl,rfl,fU.of (sP _ _ W1.ins),aU,c0,_,_,_,rfl,rfl,fU.of (sP _ _ aT),rfl,jV,λw0 bo=>⟨jj,λc2 bp=>⟨jV,λw1 bq=>?_⟩⟩⟩;have sR:=Same.new bo (o:=.tup [.str "word"]);have sA:=Same.new bp (o:=.tup [.str x0,.ref w0]);have sB:=Same.new bq (o:=.lst [.ref c2]);refine⟨p1,w1,_,_,rfl,rfl,sB _ _ (sA _ _ (sR _ _ fZ)),fZ,Q0k (i2 (by show _+1<=_;omega)),λmo br=>?_⟩;have sD:=Same.new br (o:=.lst (xs++[.ref c2]));have s2:=((sP.trans sR).trans (sA.trans sB)).trans sD;have aG:=sD _ _ (sB _ _ (sA _ _ (fZ (H:=upd H1 p1 (.lst xs)) (a:=w0) (o:=.tup [.str "word"]))));have ax:=sD _ _ (sB _ _ (fZ (H:=upd (upd H1 p1 (.lst xs)) w0 (.tup [.str "word"])) (a:=c2) (o:=.tup [.str x0,.ref w0])));have aH:=fZ (H:=upd (upd (upd (upd H1 p1 (.lst xs)) w0 (.tup [.str "word"])) c2 (.tup [.str x0,.ref w0])) w1 (.lst [.ref c2])) (a:=mo) (o:=.lst (xs++[.ref c2]));clear sR sA sB sD sP;generalize upd (upd (upd (upd (upd H1 p1 (.lst xs)) w0 (.tup [.str "word"])) c2 (.tup [.str x0,.ref w0])) w1 (.lst [.ref c2])) mo (.lst (xs++[.ref c2]))=H2 at s2 aG ax aH;have W2:=W1.same s2;have aW:KA H2 (.ref w0) .iF:=by unfold KA;exact⟨w0,rfl,aG⟩
 obtain⟨q1,e1,en,bb⟩:=jf.of W2.fa;rw[i8] at en;obtain⟨ao,bt⟩:=ll.of aW;have bP:q1.length=xs.length:=by rw[<-e1,kE]
 have aX:(nms (iD (λq:Qd=>q.2.1) (.ref c2,x0,ao) q1)).Nodup:=by rw[ml,en];exact sj (hF.nd.filter _) λz=>(iL.mp z).2 aD.2
 have aY:(nms (iD (λq:Qd=>q.2.1) (.ref c2,x0,ao) q1)).Pairwise sle:=by rw[ml,en];exact qF x0 (hF.so.filter _)
 have aK:y ∉ nms (iD (λq:Qd=>q.2.1) (.ref c2,x0,ao) q1):=λz=>by
  rw[ml,en] at z;rcases qG.mp z with z|z
  . exact aV z.symm
  . exact hy z
 have bu:kF H2 C v dx y:=s2 _ _ bi;refine⟨_,rfl,_,rfl,_,rfl,_,rfl,mo,ins,y,q1++[(.ref c2,x0,ao)],iD (·.2.1) (.ref c2,x0,ao) q1,ys,fs.f_ ss,rfl,?_,λz hz=>?_,by rw[Q0a];show q1.length+1<=11;omega,W2.ins,W2.fi,W2.l3,(oj _ _ _).trans (Q2v _ q1).symm,aX,aY,aK,λr t' c r1 pl H3 aE bv hc aZ ht a1=>?_⟩
 . have e:gm (q1++[(.ref c2,x0,ao)])=xs++[.ref c2]:=by unfold gm at e1 ⊢;rw[Q0i,e1];rfl
   rw[e];exact aH
 . rcases List.mem_append.mp hz with h|h
   . exact bb z h
   . rw[List.mem_singleton.mp h];exact⟨c2,.ref w0,rfl,ax,bt⟩
 obtain⟨p3,aM⟩:=W2.l3.tab;have aN:=kG aM aE;have W3:=W2.kp aN (kj W2.l2 aJ aE aM) bv;have aO:kF H3 C v dx y:=jQ aM aE bu (by intro ps z;cases z)
 have aI:FA H3 (gm (iD (λq:Qd=>q.2.1) (.ref c2,x0,ao) q1)) ((fs.f_ (gf ss fs.names)).ins x0 .iF):=by
  have h:=FA.ins (aN _ _ ax) (aW.mono aN) _ W3.fa;rw[i8] at h;rw[xC,en,e1];exact h
 have an:((fs.f_ (gf ss fs.names)).ins x0 .iF).names=iD id x0 (gf ss fs.names):=by rw[Fs.lV,i8]
 have a2:y ∉ ((fs.f_ (gf ss fs.names)).ins x0 .iF).names:=by
  rw[an];rw[ml,en] at aK;exact aK
 have a3:jm H3 r t' (gm (iD (·.2.1) (.ref c,y,pl) (iD (·.2.1) (.ref c2,x0,ao) q1))) (((fs.f_ (gf ss fs.names)).ins x0 .iF).ins y (.gI (fs.f_ ss))):=by
  refine GF a1 ht aI (by rw[ml,en,an]) hc ?_ ?_ (by rw[an,<-en,<-ml];exact aX) (by rw[an,<-en,<-ml];exact aY) (by rw[an,sm];omega) (Fs.uG (by unfold Kd.W;trivial) (Fs.oh _ hF.W)) a2
  . unfold KA;exact⟨r1,ins,ys,rfl,aZ,W3.ins,W3.fi⟩
  . unfold Kd.W;exact⟨by rw[Fs.jx];exact hF.nd.filter _,by rw[Fs.jx];have:=Q0o (λx=>decide (x∈ss)) fs.names;omega,Fs.oh _ hF.W⟩
 have bw:(fs.f_ ss).names.length<=12:=by rw[Fs.jx];have:=Q0o (λx=>decide (x∈ss)) fs.names;omega
 refine⟨v,r,rfl,⟨dx,_,aO,rfl⟩,.inr ⟨v,r,t',dx,y,_,_,fs.f_ ss,rfl,aO,a3,by rw[Fs.l7 _ _ _ a2,if_pos rfl],bw,⟨x0,jH.mpr aD,by rw[Fs.lV];exact qG.mpr (.inr (by rw[an];exact qG.mpr (.inl rfl))),aV⟩,λbx p' H4 s4 bc bz=>⟨rfl,bx,p',rfl,bc,λH5 s5=>?_⟩⟩⟩;have aP:=s4.trans s5;have W5:=W3.same aP;have a4:=s5 _ _ bz;have bA:sE P2 P3 H H5:=(Kp.of (s1.trans s2)).trans ((Kp.r aE).trans (Kp.of aP));refine⟨_,rfl,_,_,_,true,rfl,.lst a4,rfl,true,rfl,gP ?_⟩;refine⟨_,rfl,kT,λp6 bB=>?_⟩;have s6:Same H5 (upd H5 p6 (.lst [])):=Same.new bB;refine⟨p',p6,[],[],λ_=>true,rfl,rfl,(λj x y hx=>nomatch hx),.inl ⟨fY.of (s6 _ _ a4),fY.of fZ,.inl ⟨rfl,?_⟩⟩⟩;refine⟨_,rfl,gP ?_⟩;have W6:=W5.same s6;have a5:kF _ C v dx y:=s6 _ _ (aP _ _ aO);have a6:=bA.trans (Kp.of s6);generalize upd H5 p6 (.lst [])=H6 at W6 a5 a6;clear a3 aI hc aZ ht a1;obtain⟨q2,e2,av,bd⟩:=jf.of W6.fa;rw[i8] at av;have bQ:q2.length=xs.length:=by rw[<-e2,kE]
 refine⟨_,rfl,_,rfl,_,rfl,_,rfl,f,ins,y,q2,q2,ys,fs.f_ ss,rfl,by rw[e2];exact W6.f,bd,by omega,W6.ins,W6.fi,W6.l3,.refl _,by rw[av];exact hF.nd.filter _,by rw[av];exact hF.so.filter _,by rw[av];exact hy,λr2 t2 c3 r3 bR H7 aF bC bD bE bF be=>?_⟩;obtain⟨bS,ay⟩:=W6.l3.tab;have bG:=kG ay aF;have W7:=W6.kp bG (kj W6.l2 aJ aF ay) bC;have a7:kF H7 C v dx y:=jQ ay aF a5 (by intro ps z;cases z);have bH:=GH hF hy (by rw[e2];exact W7.fa) av W7.ins W7.fi bD bE bF be;refine⟨v,r2,rfl,⟨dx,_,a7,rfl⟩,.inl ⟨v,r2,t2,dx,y,_,fs,ss,rfl,a7,bH,hF,hy,W7.l2,λr9 t9 bT H8 a8 bI a9=>?_⟩⟩;obtain⟨bU,bf⟩:=W7.l2.tab;refine⟨_,rfl,_,_,_,true,rfl,.tup a9.at_,rfl,_,rfl,ix ?_⟩;refine⟨_,rfl,r9,_,_,_,rfl,rfl,fU.of a9.at_,rfl,rfl,?_⟩;have:=q H8 (a6.trans ((Kp.r aF).trans (Kp.l a8))) bI (kj W7.l3 (Ne.symm aJ) a8 bf);rw[show decide (V.str "record"=V.str "record")=true from decide_eq_true rfl];exact this
end
theorem Fs.GJ {A B:List Str}:∀{fs:Fs},(∀x∈fs.names,x∈A↔x∈B)->fs.f_ A=fs.f_ B
 | .nil,_=>rfl
 | .cons x k r,h=>by
   have J:=Fs.GJ (fs:=r) λz L=>h z (Q0d _ L);show(if x∈A then Fs.cons x k (r.f_ A) else r.f_ A)=if x∈B then Fs.cons x k (r.f_ B) else r.f_ B
   rw[J];by_cases e:x∈A
   . rw[if_pos e,if_pos ((h x Q05).mp e)]
   . rw[if_neg e,if_neg (λz=>e ((h x Q05).mpr z))]
theorem Fs.xU (ss:List Str):∀fs:Fs,(fs.f_ ss).dep<=fs.dep
 | .nil=>Q00 _
 | .cons x k r=>by
   have z:=Fs.xU ss r;show(if x∈ss then Fs.cons x k (r.f_ ss) else r.f_ ss).dep<=_;split
   . simp only[Fs.dep];omega
   . simp only[Fs.dep];omega
theorem OJ (fs:Fs)(ss:List Str)(y:Str):iq fs (fs.f_ ss).names y=iq fs ss y:=by
 have L:fs.f_ (fs.f_ ss).names=fs.f_ ss:=Fs.GJ λx J=>⟨λz=>(jH.mp z).2,λz=>jH.mpr ⟨J,z⟩⟩
 have U:gf (fs.f_ ss).names fs.names=gf ss fs.names:=by
  unfold gf;refine Q2u λx J=>decide_eq_decide.mpr ?_;exact⟨λz w=>z (jH.mpr ⟨J,w⟩),λz w=>z (jH.mp w).2⟩
 show(fs.f_ (gf (fs.f_ ss).names fs.names)).ins y (.gI (fs.f_ (fs.f_ ss).names))=_;rw[L,U]
theorem RecAt.drawn {S:List Addr}{n:Nat}{H:Hp}{fs:Fs}{v:V}{m:Ds}{fp:List Addr}(Y:Own H v (.dct m) fp)(hF:ja fs m)(hd:m.dep<=n)(hs:(D.dct m).Sm)(hn:fs.names.Nodup)(hp:∀c∈fp,c ∉ S):∃a kvs,v=.ref a/\H a=some (.dK kvs)/\a ∉ S/\RecAt S n H fs kvs (λx=>(m.get x).getD (.int 0)):=by
 unfold Own at Y;obtain⟨a,kvs,fq,rfl,ha,rfl,U⟩:=Y;unfold D.Sm at hs;have hl:kvs.length=fs.names.length:=by rw[U.len,hF.names]
 refine⟨a,kvs,rfl,ha,hp a Q05,hl,?_,λx k hx=>?_⟩
 . rw[gF.keys m U,hF.names];exact List.Pairwise.map _ (λa b h z=>h (Sum.inr.inj z)) hn
 . obtain⟨d,J,L⟩:=hF.get hx;obtain⟨u,f,h1,h2,h3⟩:=gF.val m U J;have e:(m.get x).getD (.int 0)=d:=by rw[J];rfl
   exact⟨u,f,h1,by rw[e];exact h2,λc hc=>hp c (Q0d _ (h3 c hc)),by rw[e];exact L,by rw[e];exact Q0b (Ds.tV J) hd,by rw[e];exact Ds.um hs.2 J⟩
noncomputable def nH (d:D):Str->D:=match d with
 | .dct m=>λx=>(m.get x).getD (.int 0)
 |_=>λ_=>.int 0
theorem RecAt.inner {S:List Addr}{n:Nat}{H:Hp}{fs J:Fs}{kvs:List (Key × V)}{δ:Str->D}{y:Str}(h:RecAt S n H fs kvs δ)(hy:fs.get y=some (.gI J))(Y:J.names.Nodup):∃b g z,gO kvs (Sum.inr y)=some (.ref b)/\H b=some (.dK (gq g z))/\z.Nodup/\b ∉ S/\RecAt S n H J (gq g z) (nH (δ y)):=by
 obtain⟨v,fp,hv,hO,hS,hF,hd,hs⟩:=h.get y _ hy;unfold ij at hF;obtain⟨m,e,hF⟩:=hF;rw[e] at hO hd hs;obtain⟨a,kv,rfl,ha,L,hR⟩:=RecAt.drawn (S:=S) (n:=n) hO hF (by simp only[D.dep] at hd;omega) hs Y hS
 obtain⟨g,z,rfl,U⟩:=xD hR.nd λk hk=>by
  obtain⟨x,_,e⟩:=hR.keys Y k hk;exact⟨x,e⟩
 refine⟨a,g,z,hv,ha,U,L,?_⟩;rw[e];exact hR
noncomputable def lX (J L:Str->V) (U:List Str):Str->V:=λz=>if z∈U then L z else J z
noncomputable def ou (J:Str->D) (y:Str) (ss:List Str):Str->D:=λz=>if z∈ss then nH (J y) z else J z
theorem RecAt.unnest {S:List Addr}{n:Nat}{H:Hp}{fs:Fs}{Y gi:Str->V}{L J:List Str}{δ:Str->D}{ss:List Str}{y:Str}(h:RecAt S n H (iq fs ss y) (gq Y L) δ)(hk:L.Nodup)(hi:RecAt S n H (fs.f_ ss) (gq gi J) (nH (δ y)))(hm:J.Nodup)(hn:fs.names.Nodup)(ab:(iq fs ss y).names.Nodup)(hy:y ∉ gf ss fs.names):
 RecAt S n H fs (gq (lX Y gi J) (gf [y] L++J)) (ou δ y ss):=by
 have k1:∀z,z∈L↔z=y\/z∈gf ss fs.names:=λz=>by
  rw[h.mM ab z,Fs.lV,i8];exact qG
 have k2:∀z,z∈J↔z∈fs.names/\z∈ss:=λz=>by
  rw[hi.mM (by rw[Fs.jx];exact hn.filter _) z];exact jH
 have kA:∀z,z∈gf [y] L↔z∈fs.names/\z ∉ ss:=λz=>by
  rw[iL,k1,iL,Q20];constructor
  . rintro⟨a|a,c⟩
    . exact absurd a c
    . exact a
  . exact λa=>⟨.inr a,λe=>hy (by rw[<-e];exact iL.mpr a)⟩
 have nd:(gf [y] L++J).Nodup:=List.nodup_append.mpr ⟨hk.filter _,hm,λa ha b hb e=>((kA a).mp ha).2 (by rw[e];exact((k2 b).mp hb).2)⟩
 have U:∀z,z∈gf [y] L++J↔z∈fs.names:=λz=>by
  rw[Q2o,kA,k2];constructor
  . rintro(a|a) <;> exact a.1
  . intro a;by_cases e:z∈ss
    . exact .inr ⟨a,e⟩
    . exact .inl ⟨a,e⟩
 refine⟨by rw[jN];exact uS nd hn U,xR _ nd,λx k hx=>?_⟩;have aa:=Fs.get_mem hx;have hv:gO (gq (lX Y gi J) (gf [y] L++J)) (Sum.inr x)=some (lX Y gi J x):=by rw[jM,if_pos ((U x).mpr aa)]
 by_cases e:x∈ss
 . obtain⟨_,fp,g⟩:=hi.each x k (by rw[Fs.sg,if_pos e];exact hx);have e1:lX Y gi J x=gi x:=if_pos ((k2 x).mpr ⟨aa,e⟩);have e2:ou δ y ss x=nH (δ y) x:=if_pos e;exact⟨_,fp,hv,by rw[e1,e2];exact g⟩
 . have hb:x∈gf ss fs.names:=iL.mpr ⟨aa,e⟩
   obtain⟨_,fp,g⟩:=h.each x k (by
    rw[Fs.l7 _ _ _ (by rw[i8];exact hy),if_neg (λz=>hy (by rw[<-z];exact hb)),Fs.sg,if_pos hb];exact hx)
   have e1:lX Y gi J x=Y x:=if_neg (λz=>e ((k2 x).mp z).2);have e2:ou δ y ss x=δ x:=if_neg e;exact⟨_,fp,hv,by rw[e1,e2];exact g⟩
def sF (n:Nat) (H:Hp) (fs:Fs) (U Y:List (Key × V)):Prop:=∀x k,fs.get x=some k->∃z J,gO U (Sum.inr x)=some z/\gO Y (Sum.inr x)=some J/\
    ((∃d f1 f2,Own H z d f1/\Own H J d f2/\ij k d/\d.dep<=n/\d.Sm)\/
     ∃L b1 b2 m1 m2 δ S1 S2,k=.gI L/\z=.ref b1/\J=.ref b2/\H b1=some (.dK m1)/\H b2=some (.dK m2)/\RecAt S1 n H L m1 δ/\RecAt S2 n H L m2 δ)
theorem sF.of {Y S2:List Addr}{n:Nat}{H:Hp}{fs:Fs}{z J:List (Key × V)}{L:Str->D}(h1:RecAt Y n H fs z L)(h2:RecAt S2 n H fs J L):sF n H fs z J:=λx k U=>by
 obtain⟨e1,f1,a1,a2,_,a4,a5,a6⟩:=h1.get x k U;obtain⟨e2,f2,b1,b2,_⟩:=h2.get x k U;exact⟨e1,e2,a1,b1,.inl ⟨L x,f1,f2,a2,b2,a4,a5,a6⟩⟩
theorem GK {S S2:List Addr}{n:Nat}{H:Hp}{fs:Fs}{g:Str->V}{ks:List Str}{U m2:List (Key × V)}{L:Str->D}{ss:List Str}{y:Str}{c b2:Addr}(hs:RecAt S n H fs (gq g ks) (ou L y ss))(hn:fs.names.Nodup)(hy:y ∉ gf ss fs.names)(h2:RecAt S2 n H (iq fs ss y) U L)(hv:gO U (Sum.inr y)=some (.ref b2))(aa:H b2=some (.dK m2))(hi:RecAt S2 n H (fs.f_ ss) m2 (nH (L y)))(hc:H c=some (.dK (gq g (fs.f_ ss).names))):
 sF n H (iq fs ss y) (gq (nz g y (.ref c)) (gf (fs.f_ ss).names ks++[y])) U:=by
 have hm:∀z,z∈ks↔z∈fs.names:=hs.mM hn;have ab:y ∉ (fs.f_ (gf ss fs.names)).names:=by rw[i8];exact hy
 intro z q J;have ac:=J;rw[Fs.l7 _ _ _ ab] at J;by_cases e:z=y
 . subst e;rw[if_pos rfl] at J
   cases J;refine⟨.ref c,.ref b2,?_,hv,.inr ⟨_,c,b2,_,_,nH (L z),S,S2,rfl,rfl,rfl,hc,aa,⟨jN _ _,xR _ (by rw[Fs.jx];exact hn.filter _),λx k Y=>?_⟩,hi⟩⟩
   . rw[jM,if_pos (Q09 _ Q05)];show some (if z=z then V.ref c else g z)=_;rw[if_pos rfl]
   . have ae:=Y;rw[Fs.sg] at Y;by_cases ex:x∈ss
     . rw[if_pos ex] at Y;obtain⟨_,fp,gg⟩:=hs.each x k Y;have e2:ou L z ss x=nH (L z) x:=if_pos ex;rw[e2] at gg;exact⟨g x,fp,by rw[jM,if_pos (Fs.get_mem ae)],gg⟩
     . rw[if_neg ex] at Y;cases Y
 . rw[if_neg e,Fs.sg] at J;by_cases eb:z∈gf ss fs.names
   . rw[if_pos eb] at J;obtain⟨h1,h3⟩:=iL.mp eb;obtain⟨_,fp,g1,_,g3,g4,g5⟩:=hs.each z q J;have e2:ou L y ss z=L z:=if_neg h3;rw[e2] at g1 g3 g4 g5;obtain⟨v2,f2,af,o2,_⟩:=h2.get z q ac;refine⟨g z,v2,?_,af,.inl ⟨L z,fp,f2,g1,o2,g3,g4,g5⟩⟩;rw[jM,if_pos (Q0t _ (iL.mpr ⟨(hm z).mpr h1,λw=>h3 (jH.mp w).2⟩))];show some (if z=y then _ else g z)=_;rw[if_neg e]
   . rw[if_neg eb] at J;cases J
theorem GL {fs:Fs}{ks ss:List Str}{y:Str}(hk:ks.Nodup)(J:fs.names.Nodup)(L:∀z,z∈ks↔z∈fs.names):(gf (fs.f_ ss).names ks++[y]).length=(iq fs ss y).names.length:=by
 rw[Q0a,Fs.lV,sm,i8,uS (l:=gf (fs.f_ ss).names ks) (m:=gf ss fs.names) (hk.filter _) (J.filter _) (λz=>by
  rw[iL,iL,L z,jH];exact⟨λa=>⟨a.1,λb=>a.2 ⟨a.1,b⟩⟩,λa=>⟨a.1,λb=>a.2 b.2⟩⟩)]
 rfl
theorem GN {K:W.Frag}{a b:Addr}{xs ys:List V}{H:Hp}{Q:VK}(z:H a=some (.tup xs))(J:H b=some (.tup ys))(L:xs≠[])(hl:xs.length+ys.length<=sizeLine)(q:∀p H',Same H H'->H' p=some (.tup (xs++ys))->Q (.ref p) H'):C3 K (.ref a) (.ref b) H Q:=
 ⟨a,b,xs,ys,rfl,rfl,fU.of z,fU.of J,L,hl,λe=>q a H (Same.refl _) (by rw[e,Q0v];exact z),λ_ p hp=>q p _ (Same.new hp) fZ⟩
noncomputable def OK (st:Stmt):Pos:=match(i3 st).tail.head? with
 |some (.Assign _ (.Tuple [_,.Call _ [.Call _ _ [⟨_,.Lambda _ _ _ z,_⟩] _] _ _] _ _) _)=>z
 |_=>⟨0,0,0,0⟩
noncomputable abbrev uU:Pos:=OK (top 54)
noncomputable abbrev uV:Str:=("_law_case":Str)++".<locals>."++"<lambda>"
theorem uW {b P:Addr}{H H':Hp}(x:gY b P H H'){ps:Array Value}(J:H P=some (.gQ ps)):∀c o,c≠b->(∀ps,o≠ .gQ ps)->H c=some o->H' c=some o:=λc o hc L e=>x c o (λz=>z.elim hc λz=>by rw[z,J] at e;cases e;exact L _ rfl) e
theorem xV {P b P2:Addr}{J:Pos}{L:Str}{H H':Hp}{l:List V}(h:gz P J L H)(Y:P≠P2)(x:gY b P2 H H'){ps:Array Value}(hP:H P2=some (.gQ ps))(U:H b=some (.lst l)):gz P J L H':=
 uT h (λps e=>x _ _ (λz=>z.elim (λz=>by rw[z,U] at e;cases e) Y) e) λc o h1 h2 e=>x _ _ (λz=>z.elim (λz=>by rw[z,U] at e;cases e;exact h1 _ rfl) λz=>by rw[z,hP] at e;cases e;exact h2 _ rfl) e
theorem RecAt.iJ {S:List Addr}{n:Nat}{fs:Fs}{H H':Hp}{b Pt:Addr}{ks:List (Key × V)}{J:Str->D}(h:RecAt S n H fs ks J)(x:gY b Pt H H')(u:Tu H H')(L:b∈S)(U:Pt∈S):RecAt S n H' fs ks J:=
 h.keep u λc o hc e=>x c o (λz=>hc (z.elim (λz=>by rw[z];exact L) λz=>by rw[z];exact U)) e
theorem jP.oi {K:W.Frag}{H H':Hp}{a:Addr}{ns:List Int}(h:jP K H a ns)(s:Same H H'):jP K H' a ns:=by
 rcases h with⟨o,h⟩|h
 . exact .inl ⟨o,s _ _ h⟩
 . exact .inr h
theorem jP.uX {K:W.Frag}{P:Addr}{H H':Hp}{a:Addr}{ns:List Int}(h:jP K H a ns)(x:iK P H H'){ps:Array Value}(J:H P=some (.gQ ps)):jP K H' a ns:=by
 rcases h with⟨o,h⟩|h
 . exact .inl ⟨o,jQ J x h (by intro ps z;cases z)⟩
 . exact .inr h
structure Four (Pt P2 P3 P4:Addr):Prop where
 t2:P2≠Pt
 t3:P3≠Pt
 t4:P4≠Pt
 h23:P2≠P3
 xW:P2≠P4
 xX:P3≠P4
structure jR (K:W.Frag) (Pt P2 P3 P4 a f ins:Addr) (ns:List Int) (xs ys:List V) (fs:Fs) (ss:List Str) (H:Hp):Prop where
 jw:jP K H a ns
 cl:oq P2 P3 f ins xs ys fs ss H
 lv:gz Pt lO lP H
 l4:gz P4 uU uV H
section
variable {K:W.Frag}{Pt P2 P3 P4 a b f ins:Addr}{ns:List Int}{xs ys:List V}{fs:Fs}{ss:List Str}{H H':Hp}
theorem jR.same (W:jR K Pt P2 P3 P4 a f ins ns xs ys fs ss H)(s:Same H H'):jR K Pt P2 P3 P4 a f ins ns xs ys fs ss H':=⟨W.jw.oi s,W.cl.same s,W.lv.same s,W.l4.same s⟩
theorem jR.t2 (W:jR K Pt P2 P3 P4 a f ins ns xs ys fs ss H)(F:Four Pt P2 P3 P4)(k:iK P2 H H')(l:gz P2 jk jl H'):jR K Pt P2 P3 P4 a f ins ns xs ys fs ss H':=by
 obtain⟨ps,z⟩:=W.cl.l2.tab;exact⟨W.jw.uX k z,W.cl.kp (kG z k) l (kj W.cl.l3 (Ne.symm F.h23) k z),kj W.lv (Ne.symm F.t2) k z,kj W.l4 (Ne.symm F.xW) k z⟩
theorem jR.t3 (W:jR K Pt P2 P3 P4 a f ins ns xs ys fs ss H)(F:Four Pt P2 P3 P4)(k:iK P3 H H')(l:gz P3 nE nF H'):jR K Pt P2 P3 P4 a f ins ns xs ys fs ss H':=by
 obtain⟨ps,z⟩:=W.cl.l3.tab;exact⟨W.jw.uX k z,W.cl.kp (kG z k) (kj W.cl.l2 F.h23 k z) l,kj W.lv (Ne.symm F.t3) k z,kj W.l4 (Ne.symm F.xX) k z⟩
theorem jR.t4 (W:jR K Pt P2 P3 P4 a f ins ns xs ys fs ss H)(F:Four Pt P2 P3 P4)(k:iK P4 H H')(l:gz P4 uU uV H'):jR K Pt P2 P3 P4 a f ins ns xs ys fs ss H':=by
 obtain⟨ps,z⟩:=W.l4.tab;exact⟨W.jw.uX k z,W.cl.kp (kG z k) (kj W.cl.l2 F.xW k z) (kj W.cl.l3 F.xX k z),kj W.lv (Ne.symm F.t4) k z,l⟩
theorem jR.tv (W:jR K Pt P2 P3 P4 a f ins ns xs ys fs ss H)(F:Four Pt P2 P3 P4)(k:gY b Pt H H'){n:Int}(J:H b=some (.lst [.int n]))(l:gz Pt lO lP H'):jR K Pt P2 P3 P4 a f ins ns xs ys fs ss H':=by
 obtain⟨ps,L⟩:=W.lv.tab;refine⟨?_,W.cl.kp (gY.tu k J W.lv) (xV W.cl.l2 F.t2 k L J) (xV W.cl.l3 F.t3 k L J),l,xV W.l4 F.t4 k L J⟩;rcases W.jw with⟨o,e⟩|e
 . exact .inl ⟨o,uW k L _ _ (jz e J (by intro z;cases z)) (by intro ps z;cases z) e⟩
 . exact .inr e
end
structure Bg (K:W.Frag) (Pt P2 P3 P4 C a b f ins v kk t dx sh fl tf oth kp inn uY:Addr) (ns:List Int) (n3:Int) (y:Str) (xs ys xk xf:List V) (fs:Fs) (ss:List Str) (fo gi g2:Str->V) (ko ms ms2 ks:List Str) (GO:List (Key × V)) (δ:Str->D) (S:List Addr) (H:Hp):Prop where
 w:jR K Pt P2 P3 P4 a f ins ns xs ys fs ss H
 u:oo P2 C v kk t dx sh y xk fs ss (lX fo gi ms) ks (ou δ y ss) S 22 H
 fk:jm H fl tf xf fs
 b:H b=some (.lst [.int n3])
 oth:H oth=some (.dK (gq fo ko))
 kp:H kp=some (.dK GO)
 inn:H inn=some (.dK (gq gi ms))
 uY:H uY=some (.dK (gq g2 ms2))
 ro:RecAt S 22 H (iq fs ss y) (gq fo ko) δ
 rk:RecAt S 22 H (iq fs ss y) GO δ
 ri:RecAt S 22 H (fs.f_ ss) (gq gi ms) (nH (δ y))
 GP:RecAt S 22 H (fs.f_ ss) (gq g2 ms2) (nH (δ y))
theorem Bg.t2 {K:PySem.W.Frag}{Pt P2 P3 P4 C a b f ins v kk t dx sh fl tf L kp U Y:Addr}{ns:List Int}{n3:Int}{y:Str}{xs ys xk xf:List V}{fs:Fs}{ss:List Str}{fo gi g2:Str->V}{ko ms aa ks:List Str}{ab:List (Key × V)}{δ:Str->D}{S:List Addr}{H H':Hp}(W:Bg K Pt P2 P3 P4 C a b f ins v kk t dx sh fl tf L kp U Y ns n3 y xs ys xk xf fs ss fo gi g2 ko ms aa ks ab δ S H)(F:Four Pt P2 P3 P4)(k:iK P2 H H')(l:gz P2 jk jl H'):Bg K Pt P2 P3 P4 C a b f ins v kk t dx sh fl tf L kp U Y ns n3 y xs ys xk xf fs ss fo gi g2 ko ms aa ks ab δ S H':=by
 obtain⟨ps,J⟩:=W.u.ls.tab;have tu:=kG J k;have ke:∀c o,c ∉ S->H c=some o->H' c=some o:=λc o hc e=>k c o (λz=>hc (by rw[z];exact W.u.pS)) e;exact⟨W.w.t2 F k l,W.u.kp k l,W.fk.mono tu,jQ J k W.b (by intro ps z;cases z),jQ J k W.oth (by intro ps z;cases z),jQ J k W.kp (by intro ps z;cases z),jQ J k W.inn (by intro ps z;cases z),jQ J k W.uY (by intro ps z;cases z),W.ro.keep tu ke,W.rk.keep tu ke,W.ri.keep tu ke,W.GP.keep tu ke⟩
theorem Bg.same {K:PySem.W.Frag}{Pt P2 P3 P4 C a b f ins v kk t dx sh fl tf z kp J L:Addr}{ns:List Int}{n3:Int}{y:Str}{xs ys xk xf:List V}{fs:Fs}{ss:List Str}{fo gi g2:Str->V}{ko ms U ks:List Str}{Y:List (Key × V)}{δ:Str->D}{S:List Addr}{H H':Hp}(W:Bg K Pt P2 P3 P4 C a b f ins v kk t dx sh fl tf z kp J L ns n3 y xs ys xk xf fs ss fo gi g2 ko ms U ks Y δ S H)(F:Four Pt P2 P3 P4)(s:Same H H'):Bg K Pt P2 P3 P4 C a b f ins v kk t dx sh fl tf z kp J L ns n3 y xs ys xk xf fs ss fo gi g2 ko ms U ks Y δ S H':=W.t2 F (Kp.of s) (W.u.ls.same s)
theorem fresh_at {l:List Str}{i:Nat}{nm:Str}(U:l.Nodup)(h:l[i]? =some nm):nm ∉ l.take i:=λz=>by
 obtain⟨hi,Y⟩:=List.getElem?_eq_some_iff.mp h;obtain⟨j',J,L⟩:=Q10 z;rw[Q0r] at J;rw[Q22] at L;exact absurd (L.trans Y.symm) (List.pairwise_iff_getElem.mp U j' i (by omega) hi (by omega))
abbrev pI (b Pt P2 P3 P4:Addr) (H H':Hp):Prop:=Kp (λc=>c=b\/c=Pt\/c=P2\/c=P3\/c=P4) H H'
def GQ (K:W.Frag) (Pt P2 P3 P4:Addr):Sp:=λvs H Q _=>∃a b f ins y ns n xs ys fs ss,vs=[.ref a,.ref b,.ref f,.ref ins,.str y]/\G0 K H a b ns n/\jR K Pt P2 P3 P4 a f ins ns xs ys fs ss H/\om fs/\fs.dep<=2/\(∀x∈fs.names,rM x)/\y ∉ gf ss fs.names/\y≠"xyxyxy"/\n+3456000100<=1000000000000/\
 ∀z H',pI b Pt P2 P3 P4 H H'->G0 K H' a b ns z->n<=z->z<=n+3456000100->jR K Pt P2 P3 P4 a f ins ns xs ys fs ss H'->Q (.bl true) H'
section
variable {P:Program}{w:World}{K:W.Frag}{mg:Str->Option Value}{base:Heap}
variable {C CN Pt P2 P3 P4 c0 iP:Addr}
theorem GS:gM XB Xg (gn (top 54)):=gT
theorem OL (F4:Four Pt P2 P3 P4)(T:Tb mg)(UF:mL K mg C U Y ag b7 ah ae)(NF:su K mg CN aa af al)(a8:Dn K mg "_law_case" rS (top 54) a9 am)(di:am.code=.ref c0)(ep:PySem.W.CodeHd base c0 P4)(eq:BM mg base)(aV:Dn K mg "_law_kinds" lN (top 51) aW aX)(aY:e_ P w K mg base fW (8) aW aX lN (uR true P3))(ai:Dm K "__init__" "Unnest.__init__" qu (gB 34 0) U aj)(ak:e_ P w K mg base fW (1) U aj qu (xG C))(ab:Dn K mg "_law_value" j1 (top 46) aZ a2)(ac:e_ P w K mg base fW (2 * 67+5) aZ a2 j1 (qB K Pt 67))(an:Dm K "behind" "Unnest.behind" kB (gB 34 1) Y ao)(ap:e_ P w K mg base fW (10) Y ao kB (sr P2 C))(aK:Dm K "grade" "View.grade" ["self"] (gB 21 3) ah aM)(aN:e_ P w K mg base fW (1) ah aM ["self"] (Ga))(aO:Dm K "see" "Unnest.see" n0 (gB 34 2) ag aP)(aT:e_ P w K mg base fW (4) ag aP n0 (F_ C))(av:Dm K "keeps" "Unnest.keeps" ua (gB 34 4) ae aw)(ax:e_ P w K mg base fW (1) ae aw ua (Gb C))(J:Dn K mg "_law_alike" kg (top 47) a3 a4)(L:e_ P w K mg base fW ((22+2)+1) a3 a4 kg (Gw 22))(bh:Dn K mg "_law_put" qw (top 48) bi bj)(bm:e_ P w K mg base fW (96) bi bj qw (xM iP C (xP iP 22 P2 C)))(aq:Dm K "__init__" "Nest.__init__" ub (gB 33 0) aa ar)(au:e_ P w K mg base fW (1) aa ar ub (Gc K CN))(az:Dm K "behind" "Nest.behind" kB (gB 33 1) af aA)(aB:e_ P w K mg base fW (10) af aA kB (Gd P2 CN))(ba:Dm K "see" "Nest.see" n0 (gB 33 2) al bb)(bc:e_ P w K mg base fW (4) al bb n0 (Ge CN))(aD:Dn K mg "_law_refused" uf (top 53) aE aF)(aG:e_ P w K mg base fW (97) aE aF uf (GD 22 P2 C)):e_ P w K mg base fW (140) a9 am rS (GQ K Pt P2 P3 P4):=by
 have CT:=UF.ct;have bA:=UF.uL;have bO:=UF.m;have bB:=UF.b;have cm:=UF.s;have bP:=UF.g;have bQ:=UF.k;have bg:=NF.ct;have b6:=NF.uL;have cn:=NF.m;have aH:=NF.b;have bd:=NF.s;refine a8.F.rF di GS (λvs H Q E h=>?_) (λA outer s H vs Q E hr h=>?_)
 . obtain⟨a,b,f,ins,y,ns,n,xs,ys,fs,ss,rfl,_⟩:=h;rfl
 obtain⟨a,b,f,ins,y,ns,n,xs,ys,fs,ss,rfl,g,W,hF,e4,er,hy,fb,hn,q⟩:=h;have nd:=GS.nd;have hu:=tH hr;have co:=Q1h (Q1v (by decide:16<=64) _) hr.units
 refine⟨_,(fT (gv 5 nd (f9 aY hr aV (a_ (pv 2) (a_ (pv 3) (a_ (pv 4) c_)))))
  (fT (gv 6 nd (jd (a_ gH (a_ (jZ o6 (by rfl) T.lJ boot_tuple (a_ (uP (te:=(iC (jq K) (gR 0) (tC (.int 0)))) (x:="_law_pair") (N':=["","","","","","","","","","","","","","","","",""]) rfl T.px boot_sorted hr rfl rfl ep eq (lg.of (N:=XB) (sc:=gn (top 54)) rfl rfl rfl rfl rfl (by decide +kernel)) rfl (λ_ _ _ _ _=>rfl) (gh pR (jZ pQ (by rfl) T.j_ boot_list (a_ (pv 2) c_)) (jZ pQ (by rfl) T.j_ boot_list (a_ (pv 3) c_))) (λ_ _ _ _ _=>(f7 (pv 0) d_))) c_)) c_))))
  (fT (gv 7 nd (vF bA ak (hr.mono (by decide)) rfl bO ai.b .nil k_ (a_ (pv 4) c_)))
  (fT (gv 8 nd (f9 ac hr ab (a_ (pv 0) (a_ (pv 1) (a_ (pv 5) (a_ d_ c_))))))
  (fT (gv 9 nd (ka (pv 1) d_))
  (fT (gv 10 nd (f9 ac hr ab (a_ (pv 0) (a_ (pv 1) (a_ (pv 5) (a_ d_ c_))))))
  (fT (gv 11 nd (f9 ac hr ab (a_ (pv 0) (a_ (iM (a_ (pv 9) c_)) (a_ (pv 5) (a_ d_ c_))))))
  (fT (gv 12 nd pU)
  (fT (jt PassesOwn.never rfl (jS (pv 2)) (jE rfl (ic (gK (i:=13) nd rfl ip) (ic (gK (i:=14) nd rfl ip) jD))) (fX (mF hu (pv 12) (pv 13) (jr hu (pv 10) (pv 13) (λ_ _=>rfl)) rfl)))
  (fT (jt PassesOwn.never rfl (jS (pv 3)) (jE rfl (ic (gK (i:=13) nd rfl ip) (ic (gK (i:=14) nd rfl ip) jD))) (fX (mF hu (pv 12) (pv 13) (jr hu (jr hu (pv 10) (pv 4) (λ_ _=>rfl)) (pv 13) (λ_ _=>rfl)) rfl)))
  (fT (gp (PW.pt (iX (gw (v9 (n:=15) co) (oX (pv 7) CT bB ap (hr.mono (by decide)) an.b .nil k_ (a_ (pv 5) c_)) (pv 6) (gj _)) (i5 (gw jF (I_ (pv 7) CT bP aN (hr.mono (by decide)) aK.b .nil k_) gH (gj _))))) (fX (f6 iH)) gu)
  (fT (gp (ia (gZ (f9 L hr J (a_ (pv 6) (a_ (oX (pv 7) CT cm aT (hr.mono (by decide)) aO.b .nil k_ (a_ (pv 5) (a_ (pv 10) c_))) (a_ (pv 12) c_)))))) (fX (f6 iH)) gu)
  (fT (gv 15 nd (f9 bm hr bh (a_ (pv 7) (a_ (pv 5) (a_ (pv 8) (a_ (pv 12) c_))))))
  (fT (gp (PW.pt (iX (gw jF (f7 (pv 15) d_) gH (gj _)) (iX (ia (gZ (f9 L hr J (a_ (pv 5) (a_ (f7 (pv 15) d_) (a_ (pv 10) c_)))))) (i5 (ia (gZ (f9 L hr J (a_ (pv 5) (a_ (pv 10) (a_ (pv 11) c_)))))))))) (fX (f6 iH)) gu)
  (fT (gv 16 nd (vF b6 au (hr.mono (by decide)) rfl cn aq.b .nil k_ (a_ (j9 (g:=(iY 0)) (tt:=kx) (te:=(iC (jq K) (gR 0) (tC (.int 0)))) (own:=["_law_pair"]) rfl (jW (N:=XB) (sc:=gn (top 54))) (jS (pv 3)) (λ_ _ _ _ _=>(gK (i:=0) (show(["_law_pair","_law_script","_law_at","_law_fields_here","_law_inside","_law_into","_law_kind_here","_law_flat","_law_view","_law_source","_law_begin","_law_other","_law_kept","_law_shown","_law_name","_law_inner","_law_told","_law_back"]:List Str).Nodup by decide +kernel) rfl (Or.inl rfl) (.inr rfl))) (λ_ _ _ _ _=>lb) (λ_ _ _ _ _=>(f7 (pv 0) d_))) (a_ (pv 4) c_))))
  (fT (gp (PW.pt (iX (gw (v9 (n:=15) co) (oX (pv 16) bg aH aB (hr.mono (by decide)) az.b .nil k_ (a_ (pv 6) c_)) (pv 5) (gj _)) (i5 (ia (gZ (f9 L hr J (a_ (pv 5) (a_ (oX (pv 16) bg bd bc (hr.mono (by decide)) ba.b .nil k_ (a_ (pv 6) (a_ (pv 12) c_))) (a_ (pv 11) c_))))))))) (fX (f6 iH)) gu)
  (fT (gp (ia (gZ (f9 aG hr aD (a_ (pv 7) (a_ (pv 5) (a_ (pv 8) (a_ (pv 12) (a_ (pv 3) c_)))))))) (fX (f6 iH)) gu)
  (fT (jt PassesOwn.never rfl (jS (gh C4 (f7 (pv 5) d_) (pv 3))) (jE rfl (ic (gK (i:=13) nd rfl ip) (ic (gK (i:=14) nd rfl ip) jD))) (fX (gp (gw jF (oX (pv 7) CT bQ ax (hr.mono (by decide)) av.b .nil k_ (a_ (pv 13) c_)) (jK jF (pv 13) (pv 4) (gj _)) (gj _)) (fX (f6 iH)) gu)))
  (fX (f6 iH)))))))))))))))))))),?_⟩
 ac_rfl
 have et:=hF.mn;have l1:(gf ss fs.names).length<=11:=Q0b (Q0o _ _) hF.mn;have l2:(fs.f_ ss).names.length<=11:=by rw[Fs.jx];exact Q0b (Q0o _ _) hF.mn
 have cI:(gf ss fs.names).Nodup:=hF.nd.filter _;have bH:(fs.f_ ss).names.Nodup:=by rw[Fs.jx];exact hF.nd.filter _
 have dq:=FA.len _ W.cl.fa;rw[i8] at dq;have eu:=FA.len _ W.cl.fi;obtain⟨q1,e1,en,cp⟩:=jf.of W.cl.fa;rw[i8] at en;have fc:q1.length=xs.length:=by rw[<-e1,kE]
 refine⟨_,rfl,_,rfl,_,rfl,f,ins,y,q1,q1,ys,fs.f_ ss,rfl,by rw[e1];exact W.cl.f,cp,by omega,W.cl.ins,W.cl.fi,W.cl.l3,.refl _,by rw[en];exact cI,by rw[en];exact hF.so.filter _,by rw[en];exact hy,λkk t c r1 pl H1 bn ev hc dt ht du=>?_⟩;obtain⟨p3,ew⟩:=W.cl.l3.tab;have W1:=W.t3 F4 bn ev;have g1:G0 K H1 a b ns n:=⟨W1.jw,g.len,jQ ew bn g.at_ (by intro ps z;cases z),g.pos⟩;have cJ:=GH hF hy (by rw[e1];exact W1.cl.fa) en W1.cl.ins W1.cl.fi hc dt ht du;generalize gm (iD (λq:Qd=>q.2.1) (.ref c,y,pl) q1)=xk at cJ;have dv:pI b Pt P2 P3 P4 H H1:=λc o hc e=>bn c o (λz=>hc (.inr (.inr (.inr (.inl z))))) e;clear hc dt ht du cp bn;refine⟨_,rfl,f,_,rfl,.inr (fU.of W1.cl.f),λw1 ey=>?_⟩;have sA:=Same.new ey (o:=.lst xs);refine⟨_,rfl,ins,_,rfl,.inr (fU.of (sA _ _ W1.cl.ins)),λw2 ez=>?_⟩;have sB:=Same.new ez (o:=.lst ys);refine⟨w1,w2,_,_,rfl,rfl,sB _ _ fZ,fZ,Q0k (i2 (by omega)),λw3 eA=>?_⟩;have sC:=Same.new eA (o:=.lst (xs++ys));have s2:=(sA.trans sB).trans sC;have bW:=fZ (H:=upd (upd H1 w1 (.lst xs)) w2 (.lst ys)) (a:=w3) (o:=.lst (xs++ys));clear sA sB sC;generalize upd (upd (upd H1 w1 (.lst xs)) w2 (.lst ys)) w3 (.lst (xs++ys))=H2 at s2 bW;have W2:=W1.same s2;obtain⟨qa,qb,rs,ea,eb,dw,dy,pm,cK,dz⟩:=uK fs (A:=gf ss fs.names) (λx hx=>⟨λz=>(iL.mp z).2,λz=>iL.mpr ⟨hx,z⟩⟩) W2.cl.fa W2.cl.fi
 have lr:(qa++qb).length<=13:=by
  rw[<-pm.length_eq];have a1:(nms rs).length=rs.length:=Q04 _;rw[cK] at a1;omega
 refine Gy (.inl (fY.of (by
  have e:gm (qa++qb)=xs++ys:=by unfold gm at ea eb ⊢;rw[Q0i,ea,eb]
  rw[e];exact bW))) (λz hz=>(List.mem_append.mp hz).elim (dw z) (dy z)) lr W2.l4 pm (by rw[cK];exact hF.nd) (by rw[cK];exact hF.so) λsd H3 bI eB hD=>?_
 have W3:=W2.t4 F4 bI eB;obtain⟨p4,cL⟩:=W2.l4.tab;refine⟨sd,gm rs,rfl,.inl ⟨fY.of hD,λtf eC=>⟨jj,λfl dA=>?_⟩⟩⟩;have s4:=(Same.new eC (o:=.tup (gm rs))).trans (Same.new dA (o:=.tup [.str "record",.ref tf]));have bX:=fZ (H:=upd H3 tf (.tup (gm rs))) (a:=fl) (o:=.tup [.str "record",.ref tf]);have bY:=(Same.new dA (o:=.tup [.str "record",.ref tf])) _ _ (fZ (H:=H3) (a:=tf) (o:=.tup (gm rs)));generalize upd (upd H3 tf (.tup (gm rs))) fl (.tup [.str "record",.ref tf])=H4 at s4 bX bY;have W4:=W3.same s4;have cq:Tu H1 H4:=((Tu.of s2).trans (kG cL bI)).trans (Tu.of s4);have dC:=cJ.mono cq;have dD:jm H4 fl tf (gm rs) fs:=⟨bX,bY,FA.mono ((kG cL bI).trans (Tu.of s4)) _ dz,hF.nd,by omega,hF.W,hF.so⟩;have eD:H4 b=some (.lst [.int n]):=s4 _ _ (jQ cL bI (s2 _ _ g1.at_) (by intro ps z;cases z));have cr:pI b Pt P2 P3 P4 H H4:=dv.trans ((Kp.of s2).trans (Kp.trans (λc o hc e=>bI c o (λz=>hc (.inr (.inr (.inr (.inr z))))) e) (Kp.of s4)));clear bW hD bX bY s2 s4 dz pm dw dy cJ dv bI g1 W1 W2 W3 cq;refine⟨_,rfl,λv dx hv dE fe=>⟨v,dx,y,rfl,fZ,λH5 keep cM=>⟨rfl,?_⟩⟩⟩;have s5:Same H4 H5:=λc o e=>keep c o (gc e hv) (by rw[fV (gc e hv),fV (gc e dE)];exact e);have W5:=W4.same s5;have bJ:=dC.mono (Tu.of s5);have dF:=dD.mono (Tu.of s5);have g5:G0 K H5 a b ns n:=⟨W5.jw,g.len,s5 _ _ eD,g.pos⟩;have b8:=cr.trans (Kp.of s5);clear keep dC dD W4 hv dE s5 cr;have kW:(Kd.gI (iq fs ss y)).W:=by unfold Kd.W;exact⟨bJ.nd,bJ.jG,bJ.W⟩
 have ff:(iq fs ss y).dep<=3:=by
  have z1:=Fs.FX y (.gI (fs.f_ ss)) (fs.f_ (gf ss fs.names));have z2:=Fs.xU (gf ss fs.names) fs;have z3:=Fs.xU ss fs;have z4:(Kd.gI (fs.f_ ss)).dep=(fs.f_ ss).dep+1:=by simp only[Kd.dep]
  show((fs.f_ (gf ss fs.names)).ins y (.gI (fs.f_ ss))).dep<=3;omega
 have kA:∀{H':Hp},jm H' kk t xk (iq fs ss y)->KA H' (.ref kk) (.gI (iq fs ss y)):=λk=>by unfold KA;exact⟨kk,t,xk,rfl,k.at_,k.tu,k.fa⟩
 have cN:mu (.gI (iq fs ss y)) 3<=67:=by simp only[mu,Kd.dep];omega
 have cb:((CB 3:Nat):Int)=1728000000:=rfl;have eE:=wA (.gI (iq fs ss y)) 3 kW (by simp only[Kd.dep];omega);have eF:=uj (.gI (iq fs ss y)) 3;refine⟨_,rfl,_,rfl,_,rfl,a,b,ns,n,.ref kk,.gI (iq fs ss y),3,rfl,g5,W5.lv,kA bJ,kW,by decide,cN,by omega,λv1 H6 fg bK cO dG cP _ eG=>?_⟩;obtain⟨c1,c2⟩:=pq ns (.gI (iq fs ss y)) 3 n (by decide);have W6:=W5.tv F4 bK g5.at_ dG;have g6:=gY.g0 bK g5 W5.lv cO c1;have cQ:=gY.tu bK g5.at_ W5.lv;have cR:=bJ.mono cQ;have dH:=dF.mono cQ;obtain⟨fh,d9⟩:=W5.lv.tab;have cS:kF H6 C v dx y:=uW bK d9 _ _ (jz cM g5.at_ (by intro z;cases z)) (by intro ps z;cases z) cM;have dI:∀{Ha Hb:Hp},gY b Pt Ha Hb->pI b Pt P2 P3 P4 Ha Hb:=λk c o hc e=>k c o (λz=>hc (z.elim .inl λz=>.inr (.inl z))) e;have cs:=b8.trans (dI bK);have bu:=rH ns (.gI (iq fs ss y)) kW 3 n (by decide);generalize (val ns (.gI (iq fs ss y)) 3 n).2=n2 at c1 c2 cO g6;generalize (val ns (.gI (iq fs ss y)) 3 n).1=d1 at bu cP;unfold ij at bu;obtain⟨m1,rfl,_⟩:=bu;unfold Own at cP;obtain⟨src,fj,fm,rfl,_,_⟩:=cP;clear eG bK b8 bJ dF W5 cM;refine⟨_,rfl,b,_,_,_,rfl,rfl,fY.of g6.at_,rfl,?_⟩;refine⟨_,rfl,_,rfl,_,rfl,a,b,ns,n2,.ref kk,.gI (iq fs ss y),3,rfl,g6,W6.lv,kA cR,kW,by decide,cN,by omega,λv2 H7 fq be bR dJ cT _ dL=>?_⟩;obtain⟨c3,c4⟩:=pq ns (.gI (iq fs ss y)) 3 n2 (by decide);have W7:=W6.tv F4 be g6.at_ dJ;have g7:=gY.g0 be g6 W6.lv bR c3;have cU:=gY.tu be g6.at_ W6.lv;have cV:=cR.mono cU;have dM:=dH.mono cU;obtain⟨fr,cu⟩:=W6.lv.tab;have cW:kF H7 C v dx y:=uW be cu _ _ (jz cS g6.at_ (by intro z;cases z)) (by intro ps z;cases z) cS;have cw:=cs.trans (dI be);have bv:=rH ns (.gI (iq fs ss y)) kW 3 n2 (by decide);have bw:=tR ns (.gI (iq fs ss y)) 3 n2;have bC:=uo ns (.gI (iq fs ss y)) kW 3 n2 (by decide);generalize (val ns (.gI (iq fs ss y)) 3 n2).2=n3 at c3 c4 bR g7;obtain⟨d2,cX⟩:∃d2,(val ns (.gI (iq fs ss y)) 3 n2).1=d2:=⟨_,rfl⟩;rw[cX] at bv bw bC cT;unfold ij at bv;obtain⟨m2,rfl,cY⟩:=bv
 have cZ:m2.dep<=22:=by
  have:=rL (iq fs ss y);simp only[D.dep,Kd.dB] at bw;omega
 obtain⟨ft,ec⟩:=W6.cl.l2.tab;obtain⟨fv,ed⟩:=W6.cl.l3.tab;obtain⟨fw,ee⟩:=W6.l4.tab
 obtain⟨aU,fx,rfl,bx,fy,R7⟩:=RecAt.drawn (S:=[b,Pt,P2,P3,P4]) cT cY cZ bC cV.nd λc hc z=>by
  have e0:=dL c hc;simp only[Q0x,Q2,or_false] at z;rcases z with rfl|rfl|rfl|rfl|rfl
  . rw[g6.at_] at e0;cases e0
  . rw[cu] at e0;cases e0
  . rw[ec] at e0;cases e0
  . rw[ed] at e0;cases e0
  . rw[ee] at e0;cases e0
 refine⟨_,rfl,_,rfl,jV,λb2 bo=>?_⟩;have s8:Same H7 (upd H7 b2 (.lst [.int n2])):=Same.new bo;have a5:upd H7 b2 (.lst [.int n2]) b2=some (.lst [.int n2]):=fZ;have R8:=(R7.grow (p:=b2) (by intro xs z;rw[bo] at z;cases z) (by intro xs z;rw[bo] at z;cases z)).same s8;generalize upd H7 b2 (.lst [.int n2])=H8 at s8 a5 R8;have W8:=W7.same s8;have c6:=cV.mono (Tu.of s8);have dN:=dM.mono (Tu.of s8);have g8:G0 K H8 a b2 ns n2:=⟨W8.jw,g7.len,a5,g6.pos⟩;have ef:b≠b2:=gc g7.at_ bo;refine⟨_,rfl,a,b2,ns,n2,.ref kk,.gI (iq fs ss y),3,rfl,g8,W8.lv,kA c6,kW,by decide,cN,by omega,λv3 H9 fz aI eH b9 c7 _ dO=>?_⟩;rw[cX] at c7;have W9:=W8.tv F4 aI a5 b9;have ca:=gY.tu aI a5 W8.lv;have bp:=c6.mono ca;have dP:=dN.mono ca;obtain⟨fA,cx⟩:=W8.lv.tab;obtain⟨fB,eh⟩:=W8.cl.l2.tab;obtain⟨fC,ei⟩:=W8.cl.l3.tab;obtain⟨fD,ej⟩:=W8.l4.tab;have k9:=uW aI cx;have cy:=k9 b _ ef (by intro ps z;cases z) (s8 _ _ bR);have a7:=k9 aU _ (gc bx bo) (by intro ps z;cases z) (s8 _ _ bx);have dQ:kF H9 C v dx y:=k9 v _ (gc cW bo) (by intro ps z;cases z) (s8 _ _ cW);have R9:=R8.iJ aI ca (by simp) (by simp)
 have cz:pI b Pt P2 P3 P4 H H9:=λc o hc e=>by
  have e7:=cw c o hc e;exact aI c o (λz=>z.elim (λz=>by rw[z,bo] at e7;cases e7) λz=>hc (.inr (.inl z))) (s8 _ _ e7)
 obtain⟨kp,eI,rfl,cA,fE,bS⟩:=RecAt.drawn (S:=[b2,b,Pt,P2,P3,P4]) c7 cY cZ bC bp.nd λc hc z=>by
  have e0:=dO c hc;simp only[Q0x,Q2,or_false] at z;rcases z with rfl|rfl|rfl|rfl|rfl|rfl
  . rw[a5] at e0;cases e0
  . rw[s8 _ _ bR] at e0;cases e0
  . rw[cx] at e0;cases e0
  . rw[eh] at e0;cases e0
  . rw[ei] at e0;cases e0
  . rw[ej] at e0;cases e0
 generalize (λx=>(m2.get x).getD (.int 0))=δ at R9 bS;have dR:P2∈[b2,b,Pt,P2,P3,P4]:=by simp
 generalize [b2,b,Pt,P2,P3,P4]=S at R9 bS dR;have g9:G0 K H9 a b ns n3:=⟨W9.jw,g7.len,cy,g7.pos⟩;have dS:n<=n3/\n3<=n+3456000100:=by omega
 obtain⟨fo,ko,rfl,cd⟩:=xD R9.nd λk hk=>by
  obtain⟨x,_,e⟩:=R9.keys bp.nd k hk;exact⟨x,e⟩
 have dU:=Gr hy (fs:=fs);obtain⟨bL,gi,ms,dV,bz,ce,fF,bT⟩:=R9.inner dU bH;obtain⟨eJ,g2,eK,ek,b4,e5,e6,cC⟩:=bS.inner dU bH;clear cT c7 dL dO R7 R8 be aI cs cw W6 W7 W8 cR cV c6 dH dM dN g5 g6 g7 g8 cX bw bC cY cZ eE eF cb c1 c2 c3 c4 k9 dG dJ b9 cQ cU ca cO bR eH cy a5 s8 bx cS cW
 have cf:∀z,z∈ko↔z=y\/z∈gf ss fs.names:=λz=>by
  rw[R9.mM bp.nd z,Fs.lV,i8];exact qG
 have cg:∀z,z∈ms↔z∈(fs.f_ ss).names:=bT.mM bH;have ci:y∈ko:=(cf y).mpr (.inl rfl)
 have c8:fo y=.ref bL:=by
  rw[jM,if_pos ci] at dV;exact Option.some.inj dV
 have dj:ko.length<=12:=by
  have:=R9.len;rw[jN] at this;rw[this];exact bp.jG
 have dk:ms.length<=12:=by
  have:=bT.len;rw[jN] at this;omega
 intro sh da;have cj:Same H9 (upd H9 sh (.dK [])):=Same.new da;have bZ:upd H9 sh (.dK []) sh=some (.dK []):=fZ;have db:∀c o,H9 c=some o->c≠sh:=λc o e=>gc e da;generalize upd H9 sh (.dK [])=HA at cj bZ;refine⟨_,rfl,f,rfl,⟨_,fU.of (cj _ _ W9.cl.f)⟩,nN (xs:=xs) (λi σ H'=>(∃z1 z2,σ=[some (.ref a),some (.ref b),some (.ref f),some (.ref ins),some (.str y),some (.ref kk),some (.ref fl),some (.ref v),some (.ref src),some (.int n2),some (.ref aU),some (.ref kp),some (.ref sh),z1,z2,none,none])/\Same H9 H'/\H' sh=some (.dK (gq fo ((gf ss fs.names).take i)))) ⟨⟨_,_,rfl⟩,cj,bZ⟩ ?_ ?_ ?_⟩
 . rintro i σ H' _ ⟨_,s',_⟩;exact fU.of (s' _ _ W9.cl.f)
 . rintro i w σ H' hw ⟨⟨z1,z2,rfl⟩,s',b1⟩;obtain⟨cc,u,nm,k,rfl,dc,hc,hk⟩:=FA.get _ W9.cl.fa hw;have aJ:(gf ss fs.names)[i]? =some nm:=by rw[<-i8,Fs.kz,dc];rfl
   have bD:nm∈ko:=(cf nm).mpr (.inr (Q0s aJ));refine⟨cc,_,rfl,fU.of (s' _ _ hc),rfl,_,_,rfl,_,_,rfl,rfl,?_⟩;refine⟨_,rfl,_,rfl,aU,fo nm,rfl,(by have:=ig.k (k:=Sum.inr nm) (s' _ _ a7);rw[jM,if_pos bD] at this;exact this),_,rfl,_,rfl,sh,_,rfl,kK.k (k:=Sum.inr nm) b1 (by rw[jN];exact i2 (by rw[Q0r];omega)),?_⟩;refine⟨⟨_,_,rfl⟩,λc o e=>by rw[fV (db c o e)];exact s' c o e,?_⟩;rw[fZ,uB _ (fresh_at cI aJ),Q0y,aJ];rfl
 rintro σ HB ⟨⟨z1,z2,rfl⟩,sB,bE⟩;rw[dq,Q0w] at bE;clear cj bZ
 have eg:gq fo (gf ss fs.names)=gq (lX fo gi ms) (gf ss fs.names):=xS λx hx=>by
  show fo x=if x∈ms then gi x else fo x
  rw[if_neg (λz=>(iL.mp hx).2 (jH.mp ((cg x).mp z)).2)]
 rw[eg] at bE;refine⟨_,rfl,ins,rfl,⟨_,fU.of (sB _ _ W9.cl.ins)⟩,nN (xs:=ys) (λi σ H'=>(∃z1 z2,σ=[some (.ref a),some (.ref b),some (.ref f),some (.ref ins),some (.str y),some (.ref kk),some (.ref fl),some (.ref v),some (.ref src),some (.int n2),some (.ref aU),some (.ref kp),some (.ref sh),z1,z2,none,none])/\Same H9 H'/\H' sh=some (.dK (gq (lX fo gi ms) (gf ss fs.names++(fs.f_ ss).names.take i)))) ⟨⟨_,_,rfl⟩,sB,by rw[List.take_zero,Q0v];exact bE⟩ ?_ ?_ ?_⟩
 . rintro i σ H' _ ⟨_,s',_⟩;exact fU.of (s' _ _ W9.cl.ins)
 . rintro i w σ H' hw ⟨⟨z1,z2,rfl⟩,s',b1⟩;obtain⟨cc,u,nm,k,rfl,dc,hc,hk⟩:=FA.get _ W9.cl.fi hw;have aJ:(fs.f_ ss).names[i]? =some nm:=by rw[Fs.kz,dc];rfl
   have dW:=Q0s aJ;have bD:nm∈ms:=(cg nm).mpr dW;have eL:lX fo gi ms nm=gi nm:=if_pos bD;refine⟨cc,_,rfl,fU.of (s' _ _ hc),rfl,_,_,rfl,_,_,rfl,rfl,?_⟩;refine⟨_,rfl,_,rfl,aU,.ref bL,rfl,(by have:=ig.k (k:=Sum.inr y) (s' _ _ a7);rw[jM,if_pos ci,c8] at this;exact this),_,rfl,bL,gi nm,rfl,(by have:=ig.k (k:=Sum.inr nm) (s' _ _ bz);rw[jM,if_pos bD] at this;exact this),_,rfl,_,rfl,sh,_,rfl,kK.k (k:=Sum.inr nm) b1 (by rw[jN,Q0a];exact i2 (by rw[Q0r];omega)),?_⟩;refine⟨⟨_,_,rfl⟩,λc o e=>by rw[fV (db c o e)];exact s' c o e,?_⟩
   have eM:nm ∉ gf ss fs.names++(fs.f_ ss).names.take i:=λz=>by
    rcases List.mem_append.mp z with z|z
    . exact(iL.mp z).2 (jH.mp dW).2
    . exact fresh_at bH aJ z
   rw[fZ,<-eL,uB _ eM,Q1a,Q0y,aJ];rfl
 rintro σ HC ⟨⟨fG,fH,rfl⟩,sC,b3⟩;rw[eu,Q0w] at b3;have bf:(gf ss fs.names++(fs.f_ ss).names).Nodup:=List.nodup_append.mpr ⟨cI,bH,λa ha b hb e=>(iL.mp ha).2 (by rw[e];exact(jH.mp hb).2)⟩;have dX:=R9.unnest cd bT ce hF.nd bp.nd hy
 have a6:∀z,z∈gf ss fs.names++(fs.f_ ss).names↔z∈fs.names:=λz=>by
  rw[Q2o,iL,jH];constructor
  . rintro(a|a) <;> exact a.1
  . intro a;by_cases e:z∈ss
    . exact .inr ⟨a,e⟩
    . exact .inl ⟨a,e⟩
 have eO:(gf [y] ko++ms).Nodup:=List.nodup_append.mpr ⟨cd.filter _,ce,λa ha b hb e=>by
  have z1:=iL.mp ha;rcases(cf a).mp z1.1 with z|z
  . exact z1.2 (by rw[z];exact Q05)
  . exact(iL.mp z).2 (by rw[e];exact(jH.mp ((cg b).mp hb)).2)⟩
 have dY:=dX.re (f':=lX fo gi ms) (l':=gf ss fs.names++(fs.f_ ss).names) eO bf (λz=>(a6 z).trans (dX.mM hF.nd z).symm) λ_ _=>rfl
 have B0:Bg K Pt P2 P3 P4 C a b f ins v kk t dx sh fl tf aU kp bL eJ ns n3 y xs ys xk (gm rs) fs ss fo gi g2 ko ms eK (gf ss fs.names++(fs.f_ ss).names) eI δ S HC:=
  ⟨W9.same sC,⟨sC _ _ dQ,bp.mono (Tu.of sC),hF,hy,W9.cl.l2.same sC,b3,bf,dY.same sC,dR⟩,dP.mono (Tu.of sC),sC _ _ g9.at_,sC _ _ a7,sC _ _ cA,sC _ _ bz,sC _ _ b4,R9.same sC,bS.same sC,bT.same sC,cC.same sC⟩
 have eP:pI b Pt P2 P3 P4 H HC:=cz.trans (Kp.of sC)
 have eQ:=GC (g:=gi) ms (gf [y] ko) fo (λx hx z=>by
  have z1:=iL.mp z;rcases(cf x).mp z1.1 with w|w
  . exact z1.2 (by rw[w];exact Q05)
  . exact(iL.mp w).2 (jH.mp ((cg x).mp hx)).2) ce
 have el:=g9.pos;have dm:=g9.len;have eR:(gf ss fs.names++(fs.f_ ss).names).length=fs.names.length:=uS bf hF.nd a6;have bF:∀{Ha Hb:Hp},iK P2 Ha Hb->pI b Pt P2 P3 P4 Ha Hb:=λk c o hc e=>k c o (λz=>hc (.inr (.inr (.inl z)))) e;clear R9 bS bT cC W9 g9 cz sC b3 bE sB a7 cA bz b4 dQ bp dP dY eg da db;generalize gf ss fs.names++(fs.f_ ss).names=ks at B0 bf a6 eR;refine⟨_,rfl,v,dx,_,rfl,B0.u.vw,rfl,_,rfl,v,kk,t,dx,y,xk,fs,ss,rfl,B0.u.vw,B0.u.kd,hF,hy,B0.u.ls,λr1 t1 fJ H1 bn eS bU=>?_⟩;have B1:=B0.t2 F4 bn eS;refine⟨_,rfl,r1,fl,_,_,λ_=>true,rfl,rfl,all2 (mr _) (lW bU.tu B1.fk.tu (by rw[FA.mq bU.fa,FA.mq B1.fk.fa]) (FA.nG fs (by omega) bU.fa B1.fk.fa)),.inr ⟨fU.of bU.at_,fU.of B1.fk.at_,?_⟩⟩;refine⟨_,rfl,gP ?_⟩;refine⟨_,rfl,v,dx,_,rfl,B1.u.vw,rfl,_,rfl,rfl,_,rfl,ku rfl ?_⟩;refine⟨_,rfl,_,rfl,v,dx,_,rfl,B1.u.vw,rfl,_,rfl,_,rfl,v,.ref kk,aU,dx,bL,y,fo,gi,ko,ms,rfl,B1.u.vw,B1.oth,cd,dj,ci,c8,B1.inn,dk,λp2 H2 s2 dd _=>?_⟩;have B2:=B1.same F4 s2;rw[eQ] at dd;have de:RecAt S 22 H2 fs (gq (lX fo gi ms) (gf [y] ko++ms)) (ou δ y ss):=B2.ro.unnest cd B2.ri ce hF.nd B2.u.kd.nd hy;refine⟨_,rfl,fl,tf,_,fs,p2,sh,_,_,rfl,B2.fk.at_,B2.fk.tu,B2.fk.fa,B2.fk.nd,B2.fk.W,dd,B2.u.sh,de.len,sF.of de B2.u.rc,λH3 s3=>⟨true,rfl,gP ?_⟩⟩;have B3:=B2.same F4 s3;refine⟨_,rfl,_,rfl,_,rfl,_,rfl,v,kk,.ref src,.ref sh,rfl,⟨dx,_,B3.u.vw,rfl⟩,.inl ⟨v,kk,t,dx,y,xk,fs,.ref src,sh,ss,_,ks,_,S,rfl,B3.u.vw,B3.u.kd,hF,hy,B3.u.ls,B3.u.sh,bf,B3.u.rc,B3.u.pS,λp4 c4 H4 dZ eT _ _ d0 d3 tq H5 s5 df=>?_⟩⟩;have B5:=(B3.t2 F4 dZ eT).same F4 s5;have b8:=(eP.trans (bF bn)).trans ((Kp.of (s2.trans s3)).trans ((bF dZ).trans (Kp.of s5)));have eU:=B5.u.rc.mM hF.nd;have vo:gO (gq fo ko) (Sum.inr y)=some (.ref bL):=by rw[jM,if_pos ci,c8]
 refine⟨_,rfl,tq,_,_,_,rfl,rfl,fU.of df,rfl,rfl,_,rfl,ku rfl ?_⟩;refine⟨_,rfl,_,rfl,tq,_,_,_,rfl,rfl,fU.of df,rfl,_,rfl,kk,t,xk,_,p4,aU,_,_,rfl,B5.u.kd.at_,B5.u.kd.tu,B5.u.kd.fa,B5.u.kd.nd,B5.u.kd.W,s5 _ _ d0,B5.oth,by rw[jN];exact GL bf hF.nd eU,GK B5.u.rc hF.nd hy B5.ro vo B5.inn B5.ri (s5 _ _ d3),λH6 s6=>⟨true,rfl,gP ?_⟩⟩;have B6:=B5.same F4 s6;refine⟨_,rfl,_,rfl,_,rfl,kk,t,xk,_,aU,kp,_,_,rfl,B6.u.kd.at_,B6.u.kd.tu,B6.u.kd.fa,B6.u.kd.nd,B6.u.kd.W,B6.oth,B6.kp,B6.ro.len,sF.of B6.ro B6.rk,λH7 s7=>⟨true,rfl,gP ?_⟩⟩;have B7:=B6.same F4 s7;have be:=b8.trans (Kp.of (s6.trans s7));clear B0 B1 B2 B3 B5 B6 de dd d0 d3 df bU;refine⟨_,rfl,ins,rfl,⟨_,fU.of B7.w.cl.ins⟩,mi (mU (fU.of B7.w.cl.ins)) (λi=>((fs.f_ ss).names.take i).map V.str) (by omega) (λln eV=>?_) (λi x hx eW _=>?_)⟩
 case refine_2=>
  obtain⟨c,u,nm,rfl,hc,hz⟩:=xA B7.w.cl.fi hx;exact⟨rfl,yes (ix ⟨_,rfl,c,_,_,_,rfl,rfl,fU.of hc,rfl,eW _ hz⟩)⟩
 rw[FA.len _ B7.w.cl.fi,Q0w];have sL:=Same.new eV (o:=.lst ((fs.f_ ss).names.map V.str));have bG:=fZ (H:=H7) (a:=ln) (o:=.lst ((fs.f_ ss).names.map V.str));generalize upd H7 ln (.lst ((fs.f_ ss).names.map V.str))=fK at sL bG;refine⟨_,rfl,λv2 bM dg cD e8=>⟨v2,ln,bM,y,(fs.f_ ss).names,rfl,fZ,fY.of (by rw[fV (gc bG dg),fV (gc bG cD)];exact bG),bH,by omega,λnl H8 fL keep bq=>⟨rfl,?_⟩⟩⟩
 have s8:Same H7 H8:=λc o e=>by
  have e1:=sL c o e;exact keep c o (gc e1 dg) (by rw[fV (gc e1 dg),fV (gc e1 cD)];exact e1)
 have B8:=B7.same F4 s8;have cE:∀x∈(fs.f_ ss).names,x∈fs.names:=λx hx=>(jH.mp hx).1
 have d4:y ∉ gf (fs.f_ ss).names fs.names:=λz=>by
  obtain⟨z1,z2⟩:=iL.mp z;exact hy (iL.mpr ⟨z1,λw=>z2 (jH.mpr ⟨z1,w⟩)⟩)
 refine⟨_,rfl,v2,bM,_,rfl,bq.ob,rfl,_,rfl,v2,fl,tf,bM,nl,y,_,fs,(fs.f_ ss).names,rfl,bq,B8.fk,et,cE,d4,B8.u.ls,λr9 t9 c9 q9 w9 eX aI b9 _ _ _ _ bN=>?_⟩;have eN:(fs.f_ (gf (fs.f_ ss).names fs.names)).ins y (.gI (fs.f_ (fs.f_ ss).names))=iq fs ss y:=OJ fs ss y;rw[eN] at bN;have B9:=B8.t2 F4 aI b9;obtain⟨e9,b5⟩:=B8.u.ls.tab;have dh:pG eX CN v2 bM nl (fs.f_ ss).names y:=⟨jQ b5 aI bq.ob (by intro ps z;cases z),jQ b5 aI bq.nl (by intro ps z;cases z),bq.nd,bq.jG⟩;refine⟨_,rfl,r9,kk,_,_,λ_=>true,rfl,rfl,all2 (mr _) (lW bN.tu B9.u.kd.tu (by rw[FA.mq bN.fa,FA.mq B9.u.kd.fa]) (FA.nG _ (by omega) bN.fa B9.u.kd.fa)),.inr ⟨fU.of bN.at_,fU.of B9.u.kd.at_,?_⟩⟩;refine⟨_,rfl,gP ?_⟩;have dn:ks.length<=12:=by omega
 refine⟨_,rfl,_,rfl,v2,bM,_,rfl,dh.ob,rfl,_,rfl,_,rfl,v2,.ref fl,sh,bM,nl,y,lX fo gi ms,ks,(fs.f_ ss).names,rfl,dh,B9.u.sh,bf,dn,λx hx=>(a6 x).mpr (cE x hx),λz=>d4 (iL.mpr ⟨(a6 y).mp (iL.mp z).1,(iL.mp z).2⟩),λeY fM fN d5 cF cG _ _ _=>?_⟩;have ay:=B9.same F4 d5;refine⟨_,rfl,kk,t,xk,_,eY,kp,_,_,rfl,ay.u.kd.at_,ay.u.kd.tu,ay.u.kd.fa,ay.u.kd.nd,ay.u.kd.W,cF,ay.kp,by rw[jN];exact GL bf hF.nd a6,GK ay.u.rc hF.nd hy ay.rk ek ay.uY ay.GP cG,λfO d6=>⟨true,rfl,gP ?_⟩⟩;have bV:=ay.same F4 d6;have em:=(be.trans (Kp.of s8)).trans ((bF aI).trans (Kp.of (d5.trans d6)));have eZ:("xyxyxy":Str) ∉ fs.names:=λz=>(er _ z).2.2.2.2 rfl;refine⟨_,rfl,_,rfl,_,rfl,_,rfl,_,rfl,v,kk,t,dx,y,xk,fs,.ref src,sh,ins,ys,ss,_,ks,_,S,rfl,bV.u,eZ,bV.w.cl.ins,bV.w.cl.fi,λfP cH eo=>⟨true,rfl,gP ?_⟩⟩;have br:=bV.t2 F4 cH eo;have dp:=em.trans (bF cH);clear B7 B8 B9 ay bV cF cG bN bq dh s8 sL keep
 have e2:xk≠[]:=λz=>by
  have:=FA.len _ br.u.kd.fa;rw[z,Fs.lV,sm] at this
  cases this
 have fQ:xk.length<=12:=by rw[FA.len _ br.u.kd.fa];exact br.u.kd.jG
 refine⟨_,rfl,kk,_,_,_,rfl,rfl,fU.of br.u.kd.at_,rfl,_,rfl,?_⟩;refine GN br.u.kd.tu br.w.cl.ins e2 (Q0k (i2 (by omega))) λtt e3 d7 d8=>?_;have bt:=br.same F4 d7;refine⟨tt,rfl,⟨_,fU.of d8⟩,nN (xs:=xk++ys) (λi σ H'=>H'=e3/\∃z1 z2 z3,σ=[some (.ref a),some (.ref b),some (.ref f),some (.ref ins),some (.str y),some (.ref kk),some (.ref fl),some (.ref v),some (.ref src),some (.int n2),some (.ref aU),some (.ref kp),some (.ref sh),z1,z2,z3,some (.ref v2)]) ⟨rfl,_,_,_,rfl⟩ ?_ ?_ ?_⟩
 . rintro i σ H' _ ⟨rfl,_⟩;exact fU.of d8
 . rintro i w σ H' hw ⟨rfl,z1,z2,z3,rfl⟩
   obtain⟨cc,u,nm,rfl,hc⟩:∃cc u nm,w=.ref cc/\H' cc=some (.tup [.str nm,u]):=by
    rcases Nat.lt_or_ge i xk.length with h|h
    . rw[Q2d h] at hw;obtain⟨cc,u,nm,k,e,_,hc,_⟩:=FA.get _ bt.u.kd.fa hw;exact⟨cc,u,nm,e,hc⟩
    . rw[Q1t h] at hw;obtain⟨cc,u,nm,k,e,_,hc,_⟩:=FA.get _ bt.w.cl.fi hw;exact⟨cc,u,nm,e,hc⟩
   refine⟨cc,_,rfl,fU.of hc,rfl,_,_,rfl,_,_,rfl,rfl,?_⟩;refine⟨_,rfl,v,dx,_,rfl,bt.u.vw,rfl,_,rfl,v,dx,y,nm,rfl,bt.u.vw,?_⟩;refine⟨_,rfl,_,rfl,rfl,rfl,_,rfl,ku ?_ ⟨rfl,_,_,_,rfl⟩⟩;by_cases e:nm=y
   . rw[decide_eq_false (λh=>h e),decide_eq_true (show V.str nm=V.str y by rw[e])];rfl
   . rw[decide_eq_true (show nm≠y from e),decide_eq_false (show ¬V.str nm=V.str y from λh=>e (V.str.inj h))];rfl
 . rintro σ H' ⟨rfl,z1,z2,z3,rfl⟩;exact q n3 H' (dp.trans (Kp.of d7)) ⟨bt.w.jw,dm,bt.b,el⟩ dS.1 dS.2 bt.w
end
noncomputable abbrev js (p:Pos) (k:Addr):Array Value:=#[rawInt p.line,rawInt p.col,.ref k]
abbrev Ext (k:Addr) (z:Str) (H:Hp):Prop:=H k=some (.ext (nQ k z))
def mP (P:Addr) (J p2:Pos) (z:Str) (H:Hp):Prop:=(∃k,H P=some (.gQ (js J k))/\Ext k z H)\/∃k j,H P=some (.gQ (js J k++js p2 j))/\Ext k z H/\Ext j z H
def mw (P:Addr) (z p2:Pos) (J:Str) (H:Hp):Prop:=H P=some (.gQ #[])\/mP P z p2 J H
theorem mP.keep {P:Addr}{L p2:Pos}{U:Str}{H H':Hp}(h:mP P L p2 U H)(Y:∀ps,H P=some (.gQ ps)->H' P=some (.gQ ps))(J:∀c o,(∀xs,o≠ .lst xs)->(∀ps,o≠ .gQ ps)->H c=some o->H' c=some o):mP P L p2 U H':=by
 rcases h with⟨k,e,f⟩|⟨k,j,e,f,g⟩
 . exact .inl ⟨k,Y _ e,J _ _ (by intro xs z;cases z) (by intro xs z;cases z) f⟩
 . exact .inr ⟨k,j,Y _ e,J _ _ (by intro xs z;cases z) (by intro xs z;cases z) f,J _ _ (by intro xs z;cases z) (by intro xs z;cases z) g⟩
theorem mw.keep {P:Addr}{z p2:Pos}{J:Str}{H H':Hp}(h:mw P z p2 J H)(L:∀ps,H P=some (.gQ ps)->H' P=some (.gQ ps))(U:∀c o,(∀xs,o≠ .lst xs)->(∀ps,o≠ .gQ ps)->H c=some o->H' c=some o):mw P z p2 J H':=
 h.elim (λe=>.inl (L _ e)) λm=>.inr (m.keep L U)
theorem mw.same {P:Addr}{z p2:Pos}{J:Str}{H H':Hp}(h:mw P z p2 J H)(s:Same H H'):mw P z p2 J H':=h.keep (λ_ e=>s _ _ e) λc o _ _ e=>s c o e
theorem mP.same {P:Addr}{z p2:Pos}{J:Str}{H H':Hp}(h:mP P z p2 J H)(s:Same H H'):mP P z p2 J H':=h.keep (λ_ e=>s _ _ e) λc o _ _ e=>s c o e
theorem OM (p:Pos)(k:Addr)(r:Array Value):codeAmong p (js p k++r).toList=some (.ref k):=by simp[codeAmong,rawInt,js]
theorem mw.one {P:Addr}{L p2:Pos}{Y:Str}{H:Hp}(h:mw P L p2 Y H):∃ps,pZ P L Y ps H/\∀c' H',iK P H H'->nR P L Y ps c' H'->mP P L p2 Y H':=by
 rcases h with e|⟨k,e,f⟩|⟨k,j,e,f,g⟩
 . refine⟨#[],⟨e,trivial,.inl rfl⟩,λc' H' _ h=>?_⟩;obtain⟨⟨_,h1⟩|⟨J,_⟩,h2⟩:=h
   . exact .inl ⟨c',by simpa using h1,h2⟩
   . cases J
 . have U:codeAmong L (js L k).toList=some (.ref k):=by simp[codeAmong,rawInt,js]
   refine⟨js L k,⟨e,by simp[TriplesOk,rawInt,js],.inr ⟨k,U,f⟩⟩,λc' H' _ h=>?_⟩;obtain⟨⟨J,_⟩|⟨J,h1⟩,h2⟩:=h
   . rw[U] at J;cases J
   . rw[U] at J;cases J;exact .inl ⟨_,h1,h2⟩
 . have U:=OM L k (js p2 j);refine⟨js L k++js p2 j,⟨e,by simp[TriplesOk,rawInt,js],.inr ⟨k,U,f⟩⟩,λc' H' kp h=>?_⟩;obtain⟨⟨J,_⟩|⟨J,h1⟩,h2⟩:=h
   . rw[U] at J;cases J
   . rw[U] at J;cases J;exact .inr ⟨_,j,h1,h2,jQ e kp g (by intro ps z;cases z)⟩
theorem mP.two {P:Addr}{J p2:Pos}{Y:Str}{H:Hp}(aa:(J.line == p2.line && J.col == p2.col)=false)(h:mP P J p2 Y H):∃ps,pZ P p2 Y ps H/\∀c' H',iK P H H'->nR P p2 Y ps c' H'->mw P J p2 Y H':=by
 have am:∀(k:Addr) (r:Array Value),codeAmong p2 (js J k++r).toList=codeAmong p2 r.toList:=λk r=>by
  have:(((J.line:Nat):Int) == ((p2.line:Nat):Int) && ((J.col:Nat):Int) == ((p2.col:Nat):Int))=false:=by
   rw[<-aa];congr 1
   . exact Bool.eq_iff_iff.mpr (by rw[beq_iff_eq,beq_iff_eq];omega)
   . exact Bool.eq_iff_iff.mpr (by rw[beq_iff_eq,beq_iff_eq];omega)
  simp only[js,Q3f,Q31,Q3t,codeAmong,rawInt];rw[this];simp
 rcases h with⟨k,e,f⟩|⟨k,j,e,f,g⟩
 . have U:codeAmong p2 (js J k).toList=none:=by have:=am k #[];simpa[codeAmong] using this
   refine⟨js J k,⟨e,by simp[TriplesOk,rawInt,js],.inl U⟩,λc' H' kp h=>?_⟩;obtain⟨⟨_,h1⟩|⟨L,_⟩,h2⟩:=h
   . exact .inr (.inr ⟨k,c',h1,jQ e kp f (by intro ps z;cases z),h2⟩)
   . rw[U] at L;cases L
 . have U:codeAmong p2 (js J k++js p2 j).toList=some (.ref j):=by rw[am];simp[codeAmong,rawInt,js]
   refine⟨js J k++js p2 j,⟨e,by simp[TriplesOk,rawInt,js],.inr ⟨j,U,g⟩⟩,λc' H' kp h=>?_⟩;obtain⟨⟨L,_⟩|⟨L,h1⟩,h2⟩:=h
   . rw[U] at L;cases L
   . rw[U] at L;cases L;exact .inr (.inr ⟨k,_,h1,jQ e kp f (by intro ps z;cases z),h2⟩)
theorem GU (f:Str->Bool)(z:List Qd):nms (z.filter λq=>f q.2.1)=(nms z).filter f:=by
 unfold nms;rw[Q2w];rfl
theorem ON (ss:List Str)(z:List Qd):gm (z.filter λq=>decide (q.2.1∈ss))=iZ ss (gm z) (nms z):=by
 unfold iZ;rw[uF,Q2w,Q0z];rfl
theorem OO (ss:List Str)(z:List Qd):gm (z.filter λq=>decide (q.2.1 ∉ ss))=iZ (gf ss (nms z)) (gm z) (nms z):=by
 rw[FY,uF,Q2w,Q0z];rfl
theorem OP {α:Type}(l:List α)(c:Nat):l.Perm (l.drop c++l.take c):=by
 have:=List.perm_append_comm (l₁:=l.take c) (l₂:=l.drop c);rw[Q2x] at this;exact this
theorem OQ {Y A B:List Qd}(hn:(nms Y).Nodup)(hp:Y.Perm (A++B)):(Y.filter λq=>decide (q.2.1∈nms A)).Perm A/\(Y.filter λq=>decide (q.2.1 ∉ nms A)).Perm B:=by
 have L:(nms (A++B)).Nodup:=(hp.map (λq:Qd=>q.2.1)).nodup_iff.mp hn
 have U:∀q∈B,q.2.1 ∉ nms A:=λq J z=>by
  unfold nms at L;rw[Q0i] at L;exact(List.nodup_append.mp L).2.2 _ z _ (List.mem_map.mpr ⟨q,J,rfl⟩) rfl
 have hA:∀q∈A,q.2.1∈nms A:=λq J=>List.mem_map.mpr ⟨q,J,rfl⟩;constructor
 . have:=hp.filter λq=>decide (q.2.1∈nms A);rw[Q23,List.filter_eq_self.mpr λq J=>decide_eq_true (hA q J),List.filter_eq_nil_iff.mpr λq J z=>U q J (of_decide_eq_true z),Q0v] at this;exact this
 . have:=hp.filter λq=>decide (q.2.1 ∉ nms A);rw[Q23,(List.filter_eq_nil_iff (l:=A)).mpr λq J z=>(of_decide_eq_true z) (hA q J),List.filter_eq_self.mpr λq J=>decide_eq_true (U q J),Q3t] at this;exact this
theorem uZ {K:W.Frag}{t:Addr}{xs:List V}{lo hi:Option Int}{H:Hp}{Q:VK}(ht:H t=some (.tup xs))(q:∀p H',Same H H'->H' p=some (.tup (j8 xs lo hi))->Q (.ref p) H'):Gu K (.ref t) lo hi H Q:=by
 refine⟨t,xs,rfl,fU.of ht,λhw=>q t H (Same.refl _) ?_,λ_ p hp=>q p _ (Same.new hp) fZ⟩;unfold j8;rw[hw.1,hw.2,Q3u,Nat.sub_zero,Q0w];exact ht
theorem GV {xs:List V}{c:Nat}(h:c<=xs.length):j8 xs (some (c:Int)) none=xs.drop c:=by
 unfold j8;rw[HT.CY,HT.CV,Q3v h,Q1b (by rw[Q13];exact Q00 _)]
theorem GW {xs:List V}{c:Nat}(h:c<=xs.length):j8 xs none (some (c:Int))=xs.take c:=by
 unfold j8;rw[HT.CY,HT.CV,Q3v h,Q3u,Nat.sub_zero]
theorem OR {A B:TS}{D:Ends}{σ:L2.St}{H:Hp}(Pv:L2.St->Hp->Prop)(J:∀z H',Pv z H'->B D z H')(L:(∀z H',Pv z H'->B D z H')->A { D with nx:=B D } σ H):Co A B D σ H:=L J
theorem OS {v:V}{σ:L2.St}{H:Hp}{k:List V->Hp->Prop}(h:k [v] H):iO (tC v) jT σ H k:=h
theorem GX {σ:L2.St}{H:Hp}{k:Option Int->Hp->Prop}(h:k none H):C2 σ H k:=h
noncomputable abbrev GY:Pos:=⟨418,70,418,100⟩
noncomputable abbrev GZ:Pos:=⟨419,75,419,105⟩
noncomputable abbrev G3:Str:=("law":Str)++".<locals>."++"<lambda>"
def xY (K:W.Frag) (Pt P2 P3 P4 P5:Addr):Sp:=λvs H Q _=>∃(a:Addr) (ns:List Int),vs=[.ref a]/\jP K H a ns/\ns.length<=63/\gz Pt lO lP H/\gz P2 jk jl H/\gz P3 nE nF H/\gz P4 uU uV H/\mw P5 GY GZ G3 H/\∀H',Q (.bl true) H'
structure Five (Pt P2 P3 P4 P5:Addr):Prop where
 f:Four Pt P2 P3 P4
 t:P5≠Pt
 t2:P5≠P2
 t3:P5≠P3
 t4:P5≠P4
structure mQ (K:W.Frag) (Pt P2 P3 P4 P5 a b:Addr) (ns:List Int) (n:Int) (H:Hp):Prop where
 g:G0 K H a b ns n
 lv:gz Pt lO lP H
 l2:gz P2 jk jl H
 l3:gz P3 nE nF H
 l4:gz P4 uU uV H
theorem mQ.same {K:PySem.W.Frag}{Pt P2 P3 P4 P5 a b:Addr}{ns:List Int}{n:Int}{H H':Hp}(W:mQ K Pt P2 P3 P4 P5 a b ns n H)(s:Same H H'):mQ K Pt P2 P3 P4 P5 a b ns n H':=
 ⟨W.g.go (SB.of s) (s _ _ W.g.at_) (Int.le_refl _),W.lv.same s,W.l2.same s,W.l3.same s,W.l4.same s⟩
theorem mQ.sb {K:PySem.W.Frag}{Pt P2 P3 P4 P5 a b:Addr}{ns:List Int}{n L:Int}{H H':Hp}(W:mQ K Pt P2 P3 P4 P5 a b ns n H)(s:SB b H H')(U:H' b=some (.lst [.int L]))(Y:n<=L):mQ K Pt P2 P3 P4 P5 a b ns L H':=by
 have J:∀c o,(∀xs,o≠ .lst xs)->H c=some o->H' c=some o:=λc o ol e=>s c o (λz=>by rw[z,W.g.at_] at e;cases e;exact ol _ rfl) e;exact⟨W.g.go s U Y,W.lv.keep J,W.l2.keep J,W.l3.keep J,W.l4.keep J⟩
theorem mQ.t5 {K:PySem.W.Frag}{Pt P2 P3 P4 P5 a b:Addr}{ns:List Int}{n:Int}{H H':Hp}(W:mQ K Pt P2 P3 P4 P5 a b ns n H)(F:Five Pt P2 P3 P4 P5)(k:iK P5 H H'){ps:Array Value}(J:H P5=some (.gQ ps)):mQ K Pt P2 P3 P4 P5 a b ns n H':=
 ⟨⟨W.g.jw.uX k J,W.g.len,jQ J k W.g.at_ (by intro ps z;cases z),W.g.pos⟩,kj W.lv (Ne.symm F.t) k J,kj W.l2 (Ne.symm F.t2) k J,kj W.l3 (Ne.symm F.t3) k J,kj W.l4 (Ne.symm F.t4) k J⟩
section
variable {P:Program}{w:World}{K:W.Frag}{mg:Str->Option Value}{base:Heap}
variable {Pt P2 P3 P4 P5 c5:Addr}
theorem G4:gM XD ["_law_script"] (gn (top 56)):=gT
theorem OT (F5:Five Pt P2 P3 P4 P5)(T:Tb mg)(bu:Dn K mg "law" ["_law_script"] (top 56) bv aT)(bw:aT.code=.ref c5)(bz:PySem.W.CodeHd base c5 P5)(bA:BM mg base)(ao:Dn K mg "_law_next" ib (top 36) ap aq)(ar:e_ P w K mg base fW (1) ap aq ib (pB K))(Y:Dn K mg "_law_fields" lK (top 41) aa ab)(ac:e_ P w K mg base fW (7) aa ab lK (ui K 1))(ae:Dn K mg "_law_fresh" ud (top 49) af ag)(ah:e_ P w K mg base fW (1) af ag ud (Gx))(au:Dn K mg "_law_case" rS (top 54) av aw)(ax:e_ P w K mg base fW (140) av aw rS (GQ K Pt P2 P3 P4))(ai:Dn K mg "_law_clash" lN (top 55) aj ak)(al:e_ P w K mg base fW (12) aj ak lN (GI P2 P3)):e_ P w K mg base fW (141) bv aT ["_law_script"] (xY K Pt P2 P3 P4 P5):=by
 refine bu.F.rF bw G4 (λvs H Q E h=>?_) (λA outer s H vs Q E hr h=>?_)
 . obtain⟨a,ns,rfl,_⟩:=h;rfl
 obtain⟨a,ns,rfl,hS,co,hT,bB,bC,bD,bE,q⟩:=h;have nd:=G4.nd
 refine⟨_,(fT (gv 1 nd (iM (a_ d_ c_)))
  (fT (jt PassesOwn.never rfl (oR rfl T.nW (a_ (gh j5 d_ (gh jh (gA i9 (by rfl) T.iI PySem.boot_len (a_ (o4 Jw (pv 0) oY (oZ d_)) c_)) d_)) c_)) (gK (i:=2) nd rfl ip) (fT (gv 3 nd (f9 ar hr ao (a_ (pv 0) (a_ (pv 1) c_))))
  (fT (gv 4 nd (gh iw (pv 3) d_))
  (fT (gv 5 nd (f9 ac hr Y (a_ (pv 0) (a_ (pv 1) (a_ (gh j5 (gh j5 d_ (pv 4)) (gh iw (gh jh (pv 3) d_) d_)) (a_ d_ c_))))))
  (fT (gv 6 nd (gh iw (gh jh (pv 3) d_) (gA i9 (by rfl) T.iI PySem.boot_len (a_ (pv 5) c_))))
  (fT (gv 7 nd (gh C4 (o4 uQ (pv 5) (oZ (pv 6)) oY) (o4 uQ (pv 5) oY (oZ (pv 6)))))
  (fT (gv 8 nd (jZ o6 (by rfl) T.lJ boot_tuple (a_ (uP (te:=(iC (jq K) (gR 0) (tC (.int 0)))) (x:="_law_pair") (N':=["","","","","","","","","","",""]) rfl T.px boot_sorted hr rfl rfl bz bA (lg.of (N:=XD) (sc:=gn (top 56)) rfl rfl rfl rfl rfl (by decide +kernel)) rfl (λ_ _ _ _ _=>rfl) (o4 uQ (pv 7) oY (oZ (pv 4))) (λ_ _ _ _ _=>(f7 (pv 0) d_))) c_)))
  (fT (gv 9 nd (jZ o6 (by rfl) T.lJ boot_tuple (a_ (uP (te:=(iC (jq K) (gR 0) (tC (.int 0)))) (x:="_law_pair") (N':=["","","","","","","","","","",""]) rfl T.px boot_sorted hr rfl rfl bz bA (lg.of (N:=XD) (sc:=gn (top 56)) rfl rfl rfl rfl rfl (by decide +kernel)) rfl (λ_ _ _ _ _=>rfl) (o4 uQ (pv 7) (oZ (pv 4)) oY) (λ_ _ _ _ _=>(f7 (pv 0) d_))) c_)))
  (fT (gv 10 nd (f9 ah hr ae (a_ (j9 (g:=(iY 0)) (tt:=kx) (te:=(iC (jq K) (gR 0) (tC (.int 0)))) (own:=["_law_pair"]) rfl (jW (N:=XD) (sc:=gn (top 56))) (jS (pv 5)) (λ_ _ _ _ _=>(gK (i:=0) (show(["_law_pair","_law_script","_law_at","_law_k","_law_m","_law_many","_law_both","_law_cut","_law_turned_round","_law_inside","_law_fields_here","_law_into"]:List Str).Nodup by decide +kernel) rfl (Or.inl rfl) (.inr rfl))) (λ_ _ _ _ _=>lb) (λ_ _ _ _ _=>(f7 (pv 0) d_))) (a_ (gh jh (pv 3) d_) c_))))
  (fT (gp (PW.pt (oM (gw qX (pv 4) d_ (gj _)) (oK (gw gL (gh iw (gh jh (pv 3) d_) d_) d_ (gj _))))) (fX (gv 10 nd (f7 (f7 (pv 8) (gh iw (gh jh (pv 3) d_) (pv 4))) d_))) gu)
  (fX (gp (PW.pt (iX (ia (gZ (f9 ax hr au (a_ (pv 0) (a_ (pv 1) (a_ (pv 9) (a_ (pv 8) (a_ (pv 10) c_)))))))) (i5 (ia (gZ (f9 al hr ai (a_ (pv 9) (a_ (pv 8) (a_ (pv 10) c_))))))))) (fX (f6 iH)) gu))))))))))))
  (fX (f6 iH)))),?_⟩
 ac_rfl
 refine⟨jV,λb hb=>?_⟩;have s0:Same H (upd H b (.lst [.int 0])):=Same.new hb;have a5:=jP.oi hS s0;refine⟨_,rfl,_,rfl,a,_,rfl,a5.sq,λp hp=>?_⟩;have a6:=vH (ns.map V.int) none (some 60);rw[Q04] at a6;refine⟨p,_,rfl,.inl (fY.of fZ),_,_,rfl,rfl,⟨by decide,by decide⟩,_,_,rfl,rfl,_,rfl,?_,?_,?_⟩
 . omega
 . omega
 have s1:=s0.trans (Same.new hp (o:=.lst (j8 (ns.map V.int) none (some 60))));have bF:=(Same.new hp (o:=.lst (j8 (ns.map V.int) none (some 60)))) b _ (fZ (H:=H) (a:=b) (o:=.lst [.int 0]));generalize hc:(1+((j8 (ns.map V.int) none (some 60)).length:Int) / 20).toNat=cnt;have cP:cnt<=4:=by omega
 refine nO (n:=cnt) (λi σ H'=>∃(x2 x3 x4 x5 x6 x7 x8 x9 bG:Option V) (n:Int),σ=[some (.ref a),some (.ref b),x2,x3,x4,x5,x6,x7,x8,x9,bG]/\mQ K Pt P2 P3 P4 P5 a b ns n H'/\mw P5 GY GZ G3 H'/\n<=3456000700 * i) ?_ ?_ ?_
 . exact⟨_,_,_,_,_,_,_,_,_,0,rfl,⟨⟨jP.oi hS s1,co,bF,by omega⟩,hT.same s1,bB.same s1,bC.same s1,bD.same s1⟩,bE.same s1,by omega⟩
 . intro i σ H0 hi zq;obtain⟨x2,x3,x4,x5,x6,x7,x8,x9,bG,n,rfl,W,hL,hn⟩:=zq;have cS:(i:Int)<=3:=by omega
   clear hb s0 a5 s1 bF hp hS hT bB bC bD bE a6;refine⟨_,rfl,_,rfl,a,b,ns,n,rfl,W.g,by omega,λr H1 r0 r1 aV aW=>?_⟩;have W1:=W.sb aV aW (by omega);have L1:=hL.keep (λ_ e=>aV _ _ (λz=>by rw[z,W.g.at_] at e;cases e) e) λc o ol _ e=>aV c o (λz=>by rw[z,W.g.at_] at e;cases e;exact ol _ rfl) e;clear W hL aV;obtain⟨J,em⟩:∃m:Nat,r % 4=(m:Int):=⟨(r % 4).toNat,by omega⟩;obtain⟨len,el⟩:∃m:Nat,1+r % 4+r / 4 % 4=(m:Int):=⟨(1+r % 4+r / 4 % 4).toNat,by omega⟩;have cT:J+1<=len:=by omega
   have cU:len<=7:=by omega
   refine⟨_,rfl,_,_,rfl,rfl,(by show(0:Int)<_;decide),?_⟩;refine⟨_,rfl,_,rfl,_,rfl,_,_,rfl,rfl,_,rfl,_,_,rfl,rfl,⟨by decide,by decide⟩,_,_,rfl,rfl,(by show(0:Int)<_;decide),_,_,rfl,rfl,?_⟩;refine OS ?_;have bH:(ck 1:Int)=12:=rfl
   have key:∀{Q':VK},(∀(t:Addr) (xs:List V) (fs:Fs) (n':Int) (H':Hp),SB b H1 H'->H' b=some (.lst [.int n'])->n+1<=n'->n'<=n+1+85->H' t=some (.tup xs)->FA H' xs fs->fs.names.Nodup->fs.names.length=len->fs.dep<=2->fs.W->fs.names.Pairwise sle->(∀x∈fs.names,rM x)->Q' (.ref t) H')->ui K 1 [.ref a,.ref b,.int (1+r % 4+r / 4 % 4),.int 1] H1 Q' E0:=by
    rw[el];exact λq'=>⟨a,b,ns,n+1,len,rfl,by omega,W1.g,by rw[bH];omega,λt xs fs n' H' b1 b2 b3 b4 b5 b6 b7 b8 b9 cp cq cr=>q' t xs fs n' H' b1 b2 b3 (by rw[bH] at b4;omega) b5 b6 b7 b8 b9 cp cq cr⟩
   refine key λt xs fs n1 H2 aX cs w1 w2 ht bf aY cQ cb hW bg bI=>?_;clear key;have W2:=W1.sb aX cs w1;have bJ:=L1.keep (λ_ e=>aX _ _ (λz=>by rw[z,aW] at e;cases e) e) λc o ol _ e=>aX c o (λz=>by rw[z,aW] at e;cases e;exact ol _ rfl) e;clear W1 L1 aW aX;have cV:=FA.len fs bf;have hF:om fs:=⟨aY,by omega,hW,bg⟩;have a7:(0:Int)<(xs.length:Int):=by omega
   obtain⟨c,ec⟩:∃c:Nat,r / 16 % (xs.length:Int)=(c:Int):=⟨(r / 16 % (xs.length:Int)).toNat,by have:=Q0m (r / 16) (show(xs.length:Int)≠0 by omega);omega⟩;have bK:c<xs.length:=by have:=Q0n (r / 16) a7;omega
   refine⟨_,rfl,_,_,rfl,rfl,⟨by decide,by decide⟩,_,rfl,t,_,rfl,.inr (fU.of ht),_,_,rfl,rfl,a7,?_⟩;refine⟨_,rfl,_,rfl,_,rfl,?_⟩;refine GX ?_;refine uZ ht λp1 H3 s3 bh=>?_;refine⟨_,rfl,_,rfl,_,rfl,?_⟩;refine uZ (s3 _ _ ht) λp2 H4 s4 bi=>?_;rw[ec,GV (Q0k bK)] at bh;rw[ec,GW (Q0k bK)] at bi;refine GN (s4 _ _ bh) bi (λz=>by have:=congrArg List.length z;rw[Q13] at this;have e0:([]:List V).length=0:=rfl;omega) (Q0k (i2 (by rw[Q13,Q0r];omega))) λtr H5 s5 bL=>?_;have aJ:=(s3.trans s4).trans s5;have W5:=W2.same aJ;have L5:=bJ.same aJ;obtain⟨qs,aZ,a1,bj⟩:=jf.of (FA.mono (Tu.of aJ) fs bf);have cW:qs.length=xs.length:=by rw[<-aZ,kE]
   have aG:H5 tr=some (.tup (gm (qs.drop c++qs.take c))):=by
    rw[bL];unfold gm at aZ ⊢;rw[Q0i,Q3w,Q3x,aZ]
   have cu:(qs.drop c++qs.take c).length=xs.length:=by rw[Q0a,Q13,Q0r];omega
   have aK:=OP qs c;generalize qs.drop c++qs.take c=L at aG cu aK;have bM:L.take J++L.drop J=L:=Q2x _ _;have cX:(gm L).length=L.length:=kE _;obtain⟨a2,bm⟩:=OQ (A:=L.take J) (B:=L.drop J) (by rw[a1];exact aY) (by rw[bM];exact aK)
   have cd:∀z∈nms (L.take J),z∈fs.names:=λz hz=>by
    obtain⟨q0,cw,e⟩:=List.mem_map.mp hz;rw[<-a1];exact List.mem_map.mpr ⟨q0,aK.mem_iff.mpr (Q3y cw),e⟩
   have eA:=ON (nms (L.take J)) qs;have eB:=OO (nms (L.take J)) qs;have nA:=GU (λx=>decide (x∈nms (L.take J))) qs;have nB:=GU (λx=>decide (x ∉ nms (L.take J))) qs;rw[aZ,a1] at eA eB;rw[a1] at nA nB;have lA:(gm (qs.filter λq=>decide (q.2.1∈nms (L.take J)))).length=J:=by rw[kE,a2.length_eq,Q0r];omega
   have a8:∀{H':Hp},Tu H5 H'->jf H' (L.take J):=λu z hz=>(bj z (aK.mem_iff.mpr (Q3y hz))).mono u;have a9:∀{H':Hp},Tu H5 H'->jf H' (L.drop J):=λu z hz=>(bj z (aK.mem_iff.mpr (List.mem_of_mem_drop hz))).mono u;have bN:gm (L.take J)=(gm L).take J:=by unfold gm;rw[Q3x]
   have bO:gm (L.drop J)=(gm L).drop J:=by unfold gm;rw[Q3w]
   generalize nms (L.take J)=ss at a2 bm cd eA eB nA nB lA;refine⟨_,rfl,_,rfl,_,rfl,?_⟩;refine uZ aG λp3 H6 s6 bn=>?_;rw[em,GW (by omega),<-bN] at bn;obtain⟨cY,X6,Y6⟩:=(L5.same s6).one;refine xQ (.inr (fU.of bn)) (a8 (Tu.of s6)) (by rw[Q0r];omega) X6 a2 (by rw[nA];exact aY.filter _) (by rw[nA];exact bg.filter _) λd1 c1 H7 a3 y7 bP=>?_;have M7:=Y6 c1 H7 a3 y7;have W7:=(W5.same s6).t5 F5 a3 X6.1;refine⟨d1,_,rfl,.inl ⟨fY.of bP,λit cx=>?_⟩⟩;have s8:=Same.new cx (o:=.tup (gm (qs.filter λq=>decide (q.2.1∈ss))));have aO:=fZ (H:=H7) (a:=it) (o:=.tup (gm (qs.filter λq=>decide (q.2.1∈ss))));generalize upd H7 it (.tup (gm (qs.filter λq=>decide (q.2.1∈ss))))=H8 at s8 aO;have aH:Tu H5 H8:=((Tu.of s6).trans (kG X6.1 a3)).trans (Tu.of s8);refine⟨_,rfl,_,rfl,_,rfl,?_⟩;refine GX ?_;refine uZ (aH _ _ aG) λp4 H9 s9 bo=>?_;rw[em,GV (by omega),<-bO] at bo;obtain⟨cZ,X9,Y9⟩:=((M7.same s8).same s9).two (by decide +kernel);have ba:=aH.trans (Tu.of s9);refine xQ (.inr (fU.of bo)) (a9 ba) (by rw[Q13];omega) X9 bm (by rw[nB];exact aY.filter _) (by rw[nB];exact bg.filter _) λd2 c2 bp aI bQ bR=>?_;have bS:=Y9 c2 bp aI bQ;have bT:=((W7.same s8).same s9).t5 F5 aI X9.1;refine⟨d2,_,rfl,.inl ⟨fY.of bR,λft cy=>?_⟩⟩;have aM:=Same.new cy (o:=.tup (gm (qs.filter λq=>decide (q.2.1 ∉ ss))));have an:=fZ (H:=bp) (a:=ft) (o:=.tup (gm (qs.filter λq=>decide (q.2.1 ∉ ss))));generalize upd bp ft (.tup (gm (qs.filter λq=>decide (q.2.1 ∉ ss))))=bq at aM an;have az:Tu H8 bq:=((Tu.of s9).trans (kG X9.1 aI)).trans (Tu.of aM);have aA:=aH.trans az;have aB:=az _ _ aO;have bU:=bT.same aM;have bV:=bS.same aM;have aD:=FA.mono ((Tu.of aJ).trans aA) fs bf;have bb:=aA _ _ (aJ _ _ ht);rw[eA] at aB lA;rw[eB] at an;clear bP bR bn bo bh bi a3 aI y7 bQ X6 X9 Y6 Y9 s3 s4 s5 s6 s8 s9 aM W2 W5 W7 bT bJ L5 bS M7 bL aG a8 a9 bN bO eA eB nA nB a2 bm bM aK aH ba aA az aJ aO bj;refine⟨_,rfl,t,rfl,⟨_,fU.of bb⟩,mi (mU (fU.of bb)) (λi=>(fs.names.take i).map V.str) (by omega) (λln cz=>?_) (λi x hx cA _=>?_)⟩
   case refine_2=>
    obtain⟨c,u,nm,rfl,hc,hz⟩:=xA aD hx;exact⟨rfl,yes (ix ⟨_,rfl,c,_,_,_,rfl,rfl,fU.of hc,rfl,cA _ hz⟩)⟩
   rw[Q1b (show fs.names.length<=xs.length by omega)];have ay:=Same.new cz (o:=.lst (fs.names.map V.str));have aE:=fZ (H:=bq) (a:=ln) (o:=.lst (fs.names.map V.str));generalize upd bq ln (.lst (fs.names.map V.str))=bW at ay aE;refine⟨_,rfl,_,_,rfl,rfl,⟨by decide,by decide⟩,ln,r / 64,fs.names,rfl,aE,by omega,by omega,by omega,λy0 cC ce cR=>?_⟩;have U:=bU.same ay;have cD:=bV.same ay;have aU:=ay _ _ aB;have bx:=ay _ _ an;have aF:=FA.mono (Tu.of ay) fs aD;clear bU bV aB an aD ay aE;dsimp only[iY];refine OR (A:=pM _ _ _) (λbX H'=>∃y:Str,bX=[some (.ref a),some (.ref b),some (.int (0+i)),some (.int r),some (.int (r % 4)),some (.ref t),some (.int (r / 16 % (xs.length:Int))),some (.ref tr),some (.ref it),some (.ref ft),some (.str y)]/\H'=bW/\y ∉ gf ss fs.names/\y≠"xyxyxy") ?_ (λhB=>?_);rotate_left
   . have bc:=hB [some (.ref a),some (.ref b),some (.int (0+i)),some (.int r),some (.int (r % 4)),some (.ref t),some (.int (r / 16 % (xs.length:Int))),some (.ref tr),some (.ref it),some (.ref ft),some (.str y0)] bW ⟨y0,rfl,rfl,(λz=>cC (iL.mp z).1),ce⟩;refine⟨_,rfl,_,_,rfl,rfl,_,rfl,iS (λb1=>?_) (λb1=>gP bc)⟩;refine⟨_,rfl,_,_,rfl,rfl,⟨by decide,by decide⟩,_,_,rfl,rfl,(by show(0:Int)<2;decide),rfl,_,rfl,iS (λb3=>?_) (λb3=>bc)⟩;have bY:0<r % 4:=of_decide_eq_true b1;have cE:0<=r / 128 % (r % 4):=Q0m _ (by omega);have c3:=Q0n (r / 128) bY;obtain⟨iz,cF⟩:∃iz:Nat,r / 128 % (r % 4)=(iz:Int):=⟨_,(Q3k cE).symm⟩;have bd:iz<(iZ ss xs fs.names).length:=by omega
     obtain⟨cc,u,nm,k,cG,cH,hc,hk⟩:=FA.get _ (FA.few (ss:=ss) fs aF) (Q03 bd);have cf:(fs.f_ ss).names[iz]? =some nm:=by rw[Fs.kz,cH];rfl
     have bZ:=jH.mp (Q0s cf)
     have cI:jo (iZ ss xs fs.names) (r / 128 % (r % 4))=some (.ref cc):=by
      rw[cF];exact lF (j:=iz) (by rw[Q03 bd,cG])
     refine⟨_,rfl,_,rfl,_,_,rfl,rfl,⟨by decide,by decide⟩,_,rfl,_,_,rfl,rfl,bY,it,_,_,_,rfl,rfl,fU.of aU,cI,cc,_,_,_,rfl,rfl,fU.of hc,rfl,?_⟩;exact hB _ _ ⟨nm,rfl,rfl,(λz=>(iL.mp z).2 bZ.2),(bI nm bZ.1).2.2.2.2⟩
   rintro bX cJ ⟨y,rfl,rfl,hy,cK⟩
   have CW:jR K Pt P2 P3 P4 a ft it ns (iZ (gf ss fs.names) xs fs.names) (iZ ss xs fs.names) fs ss cJ:=
    ⟨U.g.jw,⟨bx,FA.few fs aF,aU,FA.few fs aF,U.l2,U.l3⟩,U.lv,U.l4⟩
   refine⟨_,rfl,_,rfl,_,rfl,_,rfl,_,rfl,a,b,ft,it,y,ns,n1,_,_,fs,ss,rfl,U.g,CW,hF,cb,bI,hy,cK,by omega,λn2 cL be a4 z1 z2 aN=>⟨true,rfl,gP ?_⟩⟩;obtain⟨pv,cM⟩:=U.lv.tab;obtain⟨c4,cg⟩:=U.l2.tab;obtain⟨c6,ci⟩:=U.l3.tab;obtain⟨c7,cj⟩:=U.l4.tab
   have cN:=cD.keep (λ_ e=>be _ _ (λz=>by
    rcases z with z|z|z|z|z
    . rw[z,U.g.at_] at e;cases e
    . exact F5.t z
    . exact F5.t2 z
    . exact F5.t3 z
    . exact F5.t4 z) e) λc o ol ot e=>be c o (λz=>by
    rcases z with z|z|z|z|z
    . rw[z,U.g.at_] at e;cases e;exact ol _ rfl
    . rw[z,cM] at e;cases e;exact ot _ rfl
    . rw[z,cg] at e;cases e;exact ot _ rfl
    . rw[z,ci] at e;cases e;exact ot _ rfl
    . rw[z,cj] at e;cases e;exact ot _ rfl) e
   refine⟨_,rfl,_,rfl,_,rfl,ft,it,y,_,_,fs,ss,rfl,aN.cl,hF,hy,F5.f.h23,λca am cm cn=>⟨true,rfl,gP ?_⟩⟩;obtain⟨q2,br⟩:=aN.cl.l2.tab;obtain⟨q3,bt⟩:=aN.cl.l3.tab;have aP:∀c o,(∀xs,o≠ .lst xs)->(∀ps,o≠ .gQ ps)->cL c=some o->ca c=some o:=λc o _ ot e=>xT br bt am e ot
   have cO:G0 K ca a b ns n2:=by
    refine⟨?_,a4.len,xT br bt am a4.at_ (by intro ps z;cases z),a4.pos⟩;rcases a4.jw with⟨o,e⟩|e
    . exact .inl ⟨o,xT br bt am e (by intro ps z;cases z)⟩
    . exact .inr e
   exact⟨_,_,_,_,_,_,_,_,_,n2,rfl,⟨cO,uT aN.lv (λ_ e=>am _ _ (λz=>z.elim (λz=>F5.f.t2 z.symm) λz=>F5.f.t3 z.symm) e) aP,cm,cn,uT aN.l4 (λ_ e=>am _ _ (λz=>z.elim (λz=>F5.f.xW z.symm) λz=>F5.f.xX z.symm) e) aP⟩,cN.keep (λ_ e=>am _ _ (λz=>z.elim F5.t2 F5.t3) e) aP,by omega⟩
 . rintro σ H0 _;exact q H0
end
end Pb
namespace Pb
open L2
abbrev G5 (K:W.Frag) (x U:Str) (st:Stmt) (f:Addr):Prop:=∃(Y:Value) (od:Option Addr) (kV J pm:Value) (an:Option Addr) (z ct:Value) (L:Array (Option Value)),K.lookup f=some ⟨Y,od,.func (W.fnOf x U (jy st) (i3 st) (gn st) .none kV J pm an z ct),L⟩/\W.codeIn K z U=true/\W.keepIn K (.ref f)=true
abbrev ir (K:W.Frag) (x:Str) (st:Stmt):Prop:=∃f,W.nsIn K mainGlobals x=some (some (.ref f))/\G5 K x x st f
abbrev HB (x L:Str) (ps:List Str) (st:Stmt):Prop:=∀(kV z U:Value) (Y:Option Addr) (J ct:Value) (us:List Value),us.length=ps.length->bindArgs (W.fnOf x L (jy st) (i3 st) (gn st) .none kV z U Y J ct) ⟨us,[]⟩=pure (ps.zip us)
theorem iE {K:W.Frag}{mg:Str->Option Value}{h:Heap}{x:Str}{ps:List Str}{st:Stmt}(X:K.In h)(G:h.Ns mainGlobals mg)(a:ir K x st)(L:HB x x ps st):∃f d,Dn K mg x ps st f d/\∀us:List Value,us.length=ps.length->bindArgs d ⟨us,[]⟩=pure (ps.zip us):=by
 obtain⟨f,a,oc,od,kV,z,U,Y,J,ct,aa,l,c,k⟩:=a;have F:=pV (st:=st) l c k;exact⟨f,_,⟨F,F.binds L,W.mg_of X G a⟩,L kV z U Y J ct⟩
abbrev jI (K:W.Frag) (C ns:Addr) (x z:Str) (st:Stmt) (f:Addr):Prop:=W.nsIn K ns x=some (some (.ref f))/\G5 K x z st f/\W.isFn K (.ref f)=true/\W.findIn K (.ref C) x=some (some (.ref f))
theorem mx {K:W.Frag}{C ns:Addr}{x z:Str}{ps:List Str}{st:Stmt}{f:Addr}(a:jI K C ns x z st f)(Y:HB x z ps st):∃d,Dm K x z ps st f d:=by
 obtain⟨_,⟨oc,od,kV,J,pm,an,L,ct,U,l,c,k⟩,_,_⟩:=a;have F:l8 K x z st f _:=⟨⟨oc,od,kV,J,pm,an,L,ct,U,rfl,l,c⟩,k⟩;exact⟨_,F,F.binds Y⟩
theorem OU {K:W.Frag}{x:Str}{st:Stmt}{f:Addr}{U:Value}{Y an:Option Addr}{kV J pm z ct:Value}{L:Array (Option Value)}(a:W.nsIn K mainGlobals x=some (some (.ref f)))(l:K.lookup f=some ⟨U,Y,.func (W.fnOf x x (jy st) (i3 st) (gn st) .none kV J pm an z ct),L⟩)(c:W.codeIn K z x=true)(k:W.keepIn K (.ref f)=true):ir K x st:=⟨f,a,U,Y,kV,J,pm,an,z,ct,L,l,c,k⟩
theorem OV {K:W.Frag}{C ns:Addr}{x U:Str}{st:Stmt}{f:Addr}{Y:Value}{od an:Option Addr}{kV J pm z ct:Value}{L:Array (Option Value)}(a:W.nsIn K ns x=some (some (.ref f)))(l:K.lookup f=some ⟨Y,od,.func (W.fnOf x U (jy st) (i3 st) (gn st) .none kV J pm an z ct),L⟩)(c:W.codeIn K z U=true)(k:W.keepIn K (.ref f)=true)(h:W.isFn K (.ref f)=true)(g:W.findIn K (.ref C) x=some (some (.ref f))):jI K C ns x U st f:=⟨a,⟨Y,od,kV,J,pm,an,z,ct,L,l,c,k⟩,h,g⟩
theorem jI.meth {K:W.Frag}{C ns:Addr}{x z:Str}{st:Stmt}{f:Addr}(a:jI K C ns x z st f):Meth K C x f:=by
 obtain⟨_,⟨_,_,_,_,_,_,_,_,_,_,_,k⟩,h1,h2⟩:=a;exact⟨h2,h1,k⟩
abbrev G6 (K:W.Frag) (C:Addr):Prop:=W.plainGet K C Str.empty=true/\W.hasDictIn K C=true/\W.plainOver K C=true/\W.findIn K (.ref C) "__setattr__"=some (some (.builtin "object.__setattr__"))/\W.makesIn K C=true/\W.keepIn K (.ref C)=true
theorem len1 {α:Type}{l:List α}(h:l.length=1):∃a,l=[a]:=match l,h with|[a],_=>⟨a,rfl⟩
theorem len2 {α:Type}{l:List α}(h:l.length=2):∃a b,l=[a,b]:=match l,h with|[a,b],_=>⟨a,b,rfl⟩
theorem mR {α:Type}{l:List α}(h:l.length=3):∃a b c,l=[a,b,c]:=match l,h with|[a,b,c],_=>⟨a,b,c,rfl⟩
theorem qI {α:Type}{l:List α}(h:l.length=4):∃a b c d,l=[a,b,c,d]:=match l,h with|[a,b,c,d],_=>⟨a,b,c,d,rfl⟩
theorem G7 {α:Type}{l:List α}(h:l.length=5):∃a b c d e,l=[a,b,c,d,e]:=match l,h with|[a,b,c,d,e],_=>⟨a,b,c,d,e,rfl⟩
theorem OW {K:W.Frag}{h:Heap}{f:Addr}(X:K.In h)(e:W.isFn K (.ref f)=true):∃o,h.get? f=some o/\o.cls=.type "function":=by
 have e:W.typeIn K (.ref f)=some (.type "function"):=beq_iff_eq.mp e;obtain⟨o,z,hc⟩:=Option.map_eq_some_iff.mp (show(K.lookup f).map (·.cls)=_ from e);exact⟨o,X _ _ z,hc⟩
open W in
theorem OX {K:Frag}{h:Heap}{N:Addr}{n:Str}{v:Value}(X:K.In h)(ok:nsOkIn K N=true)(e:nsIn K N n=some (some v)):h.nsMap N n=some v:=by
 obtain⟨o,es,ep,z,J,_,L⟩:h.Ns N (h.nsMap N):=.of_isNs (isNs_of_in X ok);unfold nsIn at e;split at e
 . rename_i c d Y n' sl q;have:=X _ _ q;rw[z] at this
   cases this
   cases J;split at e
   . rename_i e' U
     cases e;rw[<-L];unfold nsFind findBy;rw[<-Q2z,U];rfl
   . split at e <;> cases e
 . cases e
open W in
noncomputable def xZ (K:Frag) (C fI:Addr) (L:List Value) (z:String):Bool:=match K.lookup C with
 |some ⟨.type "type",_,.cls J,U⟩=>(match J.mro,U.toList with
  | .ref Y::bm,[_,_,_,_,some (.builtin n),_]=>Y == C && n == z && !J.hasDel && tailIn K L bm && nsOkIn K J.ns && nsIn K J.ns "__init__" == some (some (.ref fI))
  |_,_=>false)
 |_=>false
theorem OY {K:W.Frag}{h:Heap}{C fI:Addr}{kD:List Value}{nid:String}(X:K.In h)(q:xZ K C fI kD nid=true)(hf:W.isFn K (.ref fI)=true):n_ h C fI kD nid:=by
 unfold xZ at q;split at q
 next dct U ae look=>
  split at q
  next D tl s0 s1 s2 s3 nm s5 L Y=>
   obtain⟨q,J⟩:=Bool.and_eq_true_iff.mp q;obtain⟨q,ac⟩:=Bool.and_eq_true_iff.mp q;obtain⟨q,ab⟩:=Bool.and_eq_true_iff.mp q;obtain⟨q,z⟩:=Bool.and_eq_true_iff.mp q;obtain⟨hC,aa⟩:=Bool.and_eq_true_iff.mp q;have hC:=beq_iff_eq.mp hC;have aa:=beq_iff_eq.mp aa;have J:=beq_iff_eq.mp J
   have z:U.hasDel=false:=by
    cases e:U.hasDel with
    |false=>rfl
    |true=>rw[e] at z;cases z
   subst hC;subst aa;obtain⟨c1,c2,c3,c4,c5,c6,c7,c8,c9,af,ag⟩:=U;have L:c3=_:=L;have z:ag=false:=z;subst L;subst z;obtain⟨sl⟩:=ae;have Y:sl=_:=Y;subst Y;obtain⟨oI,hI,ah⟩:=OW X hf;exact⟨tl,c4,c1,c5,c2,c6,c7,c8,c9,af,dct,s0,s1,s2,s3,s5,_,oI,X _ _ look,.of_isNs (W.isNs_of_in X ac),OX X ac J,W.tail_of_in X ab,hI,ah⟩
  next=>cases q
 next=>cases q
abbrev x_ (K:W.Frag) (C f:Addr) (J:Str):Prop:=xZ K C f Gg "ValueError.__new__"=true/\W.keepIn K (.ref C)=true/\W.findIn K (.ref C) "__setattr__"=some (some (.builtin "object.__setattr__"))/\W.findIn K (.ref C) J=some none/\W.mroIn K C (.type "object")=some true/\((W.clsIn K C).any λz=>ux z.mro && z.hasDict)=true/\W.findIn K (.ref C) "__getattribute__"=some (some (.builtin "BaseException.__getattribute__"))/\W.findIn K (.ref C) "__getattr__"=some none/\W.findIn K (.ref C) "__class__"=some (some (.builtin "object.__class__"))/\W.mroIn K C (.type "BaseException")=some true/\(W.clsIn K C).isSome=true/\W.typeIn K (.ref C)=some (.type "type")/\W.subIn K (.ref C) (.type "BaseException")=some true/\W.subIn K (.ref C) (.ref C)=some true
theorem G8 {K:W.Frag}{mg:Str->Option Value}{h base:Heap}{x:Str}{C f:Addr}(X:K.In h)(G:h.Ns mainGlobals mg)(X1:K.In base)(a:W.nsIn K mainGlobals x=some (some (.ref C)))(hf:W.isFn K (.ref f)=true)(e:x_ K C f "way"):xI K mg base x C f:=by
 obtain⟨e1,e2,e3,e4,e5,e6,e7,e8,e9,J,z,L,U,Y⟩:=e;exact⟨OY X1 e1 hf,e2,W.mg_of X G a,⟨e3,e4,e5,e6⟩,⟨e7,e8,e9,e5,J,z⟩,L,z,U,Y⟩
theorem all_mk {l:W.OpenLaw}{w:World}{K:W.Frag}{h:Heap}{mg:Str->Option Value}{fa:Addr}(X:K.In h)(G:h.Ns mainGlobals mg)(cZ:mg "law"=some (.ref fa))
 (ya:ir K "kind_at" (top 6))
 (yb:ir K "record_of" (top 8))
 (yc:ir K "misfit" (top 10))
 (yd:ir K "record_misfit" (top 11))
 (ye:ir K "has_just" (top 12))
 (yf:ir K "rows_misfit" (top 13))
 (yg:ir K "is_pair" (top 14))
 (yh:ir K "tree_misfit" (top 15))
 (yi:ir K "either_misfit" (top 16))
 (yj:ir K "rank" (top 17))
 (yk:ir K "ask_fit" (top 19))
 (yl:ir K "ask_stands" (top 20))
 (ym:ir K "field_kind" (top 23))
 (yn:ir K "has_each_once" (top 24))
 (yo:ir K "fields_among" (top 25))
 (yp:ir K "fields_but" (top 26))
 (yq:ir K "names_of" (top 27))
 (yr:ir K "part_of" (top 28))
 (yt:ir K "rest_of" (top 29))
 (yu:ir K "with_field" (top 30))
 (yw:ir K "nested" (top 31))
 (yx:ir K "unnested" (top 32))
 (yz:ir K "_law_next" (top 36))
 (yA:ir K "_law_number" (top 37))
 (yB:ir K "_law_word" (top 38))
 (yC:ir K "_law_names" (top 39))
 (yD:ir K "_law_plain" (top 40))
 (yE:ir K "_law_fields" (top 41))
 (yF:ir K "_law_rows_kind" (top 42))
 (yG:ir K "_law_kind" (top 43))
 (yH:ir K "_law_rank" (top 44))
 (yI:ir K "_law_value" (top 46))
 (yJ:ir K "_law_alike" (top 47))
 (yK:ir K "_law_put" (top 48))
 (yL:ir K "_law_fresh" (top 49))
 (yM:ir K "_law_place" (top 50))
 (yN:ir K "_law_stands" (top 52))
 (yO:ir K "_law_refused" (top 53))
 (yP:ir K "_law_clash" (top 55))
 {fR:Addr} {c1:Value} {c2 b9:Option Addr} {ca cb cc bY cd:Value} {c3:Array (Option Value)} (aR:W.nsIn K mainGlobals "_law_rows"=some (some (.ref fR))) (lR:K.lookup fR=some ⟨c1,c2,.func (W.fnOf "_law_rows" "_law_rows" (jy (top 45)) (i3 (top 45)) (gn (top 45)) .none ca cb cc b9 bY cd),c3⟩) (yQ:W.codeIn K bY "_law_rows"=true) (kR:W.keepIn K (.ref fR)=true)
 {fS:Addr} {c4:Value} {c6 ce:Option Addr} {cf cg ci bZ cj:Value} {c7:Array (Option Value)} (aS:W.nsIn K mainGlobals "sorted_fields"=some (some (.ref fS))) (lS:K.lookup fS=some ⟨c4,c6,.func (W.fnOf "sorted_fields" "sorted_fields" (jy (top 7)) (i3 (top 7)) (gn (top 7)) .none cf cg ci ce bZ cj),c7⟩) (yR:W.codeIn K bZ "sorted_fields"=true) (kS:W.keepIn K (.ref fS)=true)
 {fQ:Addr} {c8:Value} {c9 cm:Option Addr} {cn co cp b1 cq:Value} {da:Array (Option Value)} (aQ:W.nsIn K mainGlobals "_law_kinds"=some (some (.ref fQ))) (lQ:K.lookup fQ=some ⟨c8,c9,.func (W.fnOf "_law_kinds" "_law_kinds" (jy (top 51)) (i3 (top 51)) (gn (top 51)) .none cn co cp cm b1 cq),da⟩) (yS:W.codeIn K b1 "_law_kinds"=true) (kQ:W.keepIn K (.ref fQ)=true)
 {fC:Addr} {db:Value} {dc cr:Option Addr} {cs cu cw b2 cx:Value} {dd:Array (Option Value)} (aC:W.nsIn K mainGlobals "_law_case"=some (some (.ref fC))) (lC:K.lookup fC=some ⟨db,dc,.func (W.fnOf "_law_case" "_law_case" (jy (top 54)) (i3 (top 54)) (gn (top 54)) .none cs cu cw cr b2 cx),dd⟩) (yT:W.codeIn K b2 "_law_case"=true) (kC:W.keepIn K (.ref fC)=true)
 {fL:Addr} {de:Value} {df b3:Option Addr} {b4 b5 b6 b7 b8:Value} {dg:Array (Option Value)} (aL:W.nsIn K mainGlobals "law"=some (some (.ref fL))) (lL:K.lookup fL=some ⟨de,df,.func (W.fnOf "law" "law" (jy (top 56)) (i3 (top 56)) (gn (top 56)) .none b4 b5 b6 b3 b7 b8),dg⟩) (yU:W.codeIn K b7 "law"=true) (kL:W.keepIn K (.ref fL)=true)
 (zz:∀x∈(["len","isinstance","sorted","all","range","enumerate","zip","int","bool","str","list","tuple","dict","set"]:List Str),W.nsIn K mainGlobals x=some none)
 {U aj:Addr} {bE:Value} {bF:Option Addr} {bG:Array (Option Value)} {bm:ClassData}
 (yV:W.nsIn K mainGlobals "Unnest"=some (some (.ref U))) (G9:K.lookup U=some ⟨bE,bF,.cls bm,bG⟩) (G_:bm.ns=aj)
 {au ba:Addr} {bM:Value} {bN:Option Addr} {bO:Array (Option Value)} {bx:ClassData}
 (yW:W.nsIn K mainGlobals "Nest"=some (some (.ref au))) (Hc:K.lookup au=some ⟨bM,bN,.cls bx,bO⟩) (Hd:bx.ns=ba)
 {br bz:Addr} {bP:Value} {bQ:Option Addr} {bR:Array (Option Value)} {bA:ClassData}
 (He:W.nsIn K mainGlobals "View"=some (some (.ref br))) (Hf:K.lookup br=some ⟨bP,bQ,.cls bA,bR⟩) (Hg:bA.ns=bz)
 {aJ bg:Addr} {bB:Value} {bC:Option Addr} {bD:Array (Option Value)} {bh:ClassData}
 (yX:W.nsIn K mainGlobals "CantPut"=some (some (.ref aJ))) (Hh:K.lookup aJ=some ⟨bB,bC,.cls bh,bD⟩) (Hi:bh.ns=bg)
 {aZ bn:Addr} {bH:Value} {bI:Option Addr} {bJ:Array (Option Value)} {bo:ClassData}
 (yY:W.nsIn K mainGlobals "NoView"=some (some (.ref aZ))) (Hj:K.lookup aZ=some ⟨bH,bI,.cls bo,bJ⟩) (Hk:bo.ns=bn)
 {ax:Addr} (sG:jI K U aj "__init__" "Unnest.__init__" (gB 34 0) ax)
 {aE:Addr} (u3:jI K U aj "behind" "Unnest.behind" (gB 34 1) aE)
 {a1:Addr} (u4:jI K U aj "see" "Unnest.see" (gB 34 2) a1)
 {a2:Addr} (u5:jI K U aj "put" "Unnest.put" (gB 34 3) a2)
 {aO:Addr} (u6:jI K U aj "keeps" "Unnest.keeps" (gB 34 4) aO)
 {aF:Addr} (sH:jI K au ba "__init__" "Nest.__init__" (gB 33 0) aF)
 {aV:Addr} (u7:jI K au ba "behind" "Nest.behind" (gB 33 1) aV)
 {bi:Addr} (u9:jI K au ba "see" "Nest.see" (gB 33 2) bi)
 {ak:Addr} (u_:jI K br bz "grade" "View.grade" (gB 21 3) ak)
 {aq:Addr} (va:jI K aJ bg "__init__" "CantPut.__init__" (gB 4 0) aq)
 {ay:Addr} (vb:jI K aZ bn "__init__" "NoView.__init__" (gB 3 0) ay)
 (yZ:W.findIn K (.ref U) "field"=some none)
 (y8:W.findIn K (.ref au) "names"=some none)
 (y9:W.findIn K (.ref au) "into"=some none)
 (y_:W.findIn K (.ref U) "grade"=some (some (.ref ak)))
 (za:G6 K U) (zb:G6 K au) (zc:x_ K aJ aq "way") (zd:x_ K aZ ay "way")
 {cR PR:Addr} {cA:Value} {cD:Option Addr} {bS:Array Value} {cE:Array (Option Value)} (ze:bY=.ref cR) (Hl:K.lookup cR=some ⟨cA,cD,.fields bS,cE⟩) (Hm:bS[11]? =some (.ref PR)) (zf:W.codeHdIn K cR PR=true)
 {cS PS:Addr} {cF:Value} {cG:Option Addr} {bT:Array Value} {cH:Array (Option Value)} (zg:bZ=.ref cS) (Hn:K.lookup cS=some ⟨cF,cG,.fields bT,cH⟩) (qH:bT[11]? =some (.ref PS)) (zh:W.codeHdIn K cS PS=true)
 {cQ PQ:Addr} {cI:Value} {cJ:Option Addr} {bU:Array Value} {cK:Array (Option Value)} (zi:b1=.ref cQ) (Ho:K.lookup cQ=some ⟨cI,cJ,.fields bU,cK⟩) (hPQ:bU[11]? =some (.ref PQ)) (zj:W.codeHdIn K cQ PQ=true)
 {cC PC:Addr} {cM:Value} {cN:Option Addr} {bV:Array Value} {cO:Array (Option Value)} (zk:b2=.ref cC) (Hq:K.lookup cC=some ⟨cM,cN,.fields bV,cO⟩) (Hr:bV[11]? =some (.ref PC)) (zl:W.codeHdIn K cC PC=true)
 {cL PL:Addr} {cP:Value} {cT:Option Addr} {bW:Array Value} {cU:Array (Option Value)} (zm:b7=.ref cL) (Hs:K.lookup cL=some ⟨cP,cT,.fields bW,cU⟩) (Hu:bW[11]? =some (.ref PL)) (zo:W.codeHdIn K cL PL=true)
 (vc:Five PR PS PQ PC PL)
 :∃fd:FuncData,(∀(s:Shared) (v:Value),BindsTo s fd ⟨[v],[]⟩ [("_law_script",v)])/\∀base:Heap,K.In base->base.Ns mainGlobals mg->BM mg base->e_ l.prog w K mg base fW 141 fa fd ["_law_script"] (xY K PR PS PQ PC PL):=by
 have zz:=λx hx=>W.mg_none_of X G (zz x hx);have T:Tb mg:=⟨zz _ (by simp),zz _ (by simp),zz _ (by simp),zz _ (by simp),zz _ (by simp),zz _ (by simp),zz _ (by simp),zz _ (by simp),zz _ (by simp),zz _ (by simp),zz _ (by simp),zz _ (by simp),zz _ (by simp),zz _ (by simp)⟩;obtain⟨_,_,af,_⟩:=iE (ps:=["fields","name"]) X G ya (λ_ _ _ _ _ _ _ h=>by obtain⟨_,_,rfl⟩:=len2 h;rfl);obtain⟨_,_,aN,_⟩:=iE (ps:=["pairs"]) X G yb (λ_ _ _ _ _ _ _ h=>by obtain⟨_,rfl⟩:=len1 h;rfl);obtain⟨_,_,aa,_⟩:=iE (ps:=["kind","value"]) X G yc (λ_ _ _ _ _ _ _ h=>by obtain⟨_,_,rfl⟩:=len2 h;rfl);obtain⟨_,_,L,_⟩:=iE (ps:=XS) X G yd (λ_ _ _ _ _ _ _ h=>by obtain⟨_,_,rfl⟩:=len2 h;rfl);obtain⟨_,_,az,_⟩:=iE (ps:=XS) X G ye (λ_ _ _ _ _ _ _ h=>by obtain⟨_,_,rfl⟩:=len2 h;rfl);obtain⟨_,_,ah,_⟩:=iE (ps:=["kind","rows"]) X G yf (λ_ _ _ _ _ _ _ h=>by obtain⟨_,_,rfl⟩:=len2 h;rfl);obtain⟨_,_,aK,_⟩:=iE (ps:=["value"]) X G yg (λ_ _ _ _ _ _ _ h=>by obtain⟨_,rfl⟩:=len1 h;rfl);obtain⟨_,_,ai,_⟩:=iE (ps:=["kind","tree"]) X G yh (λ_ _ _ _ _ _ _ h=>by obtain⟨_,_,rfl⟩:=len2 h;rfl);obtain⟨_,_,ab,_⟩:=iE (ps:=["fields","value"]) X G yi (λ_ _ _ _ _ _ _ h=>by obtain⟨_,_,rfl⟩:=len2 h;rfl);obtain⟨_,_,bt,_⟩:=iE (ps:=["kind","row"]) X G yj (λ_ _ _ _ _ _ _ h=>by obtain⟨_,_,rfl⟩:=len2 h;rfl);obtain⟨_,_,aM,_⟩:=iE (ps:=["kind","seen"]) X G yk (λ_ _ _ _ _ _ _ h=>by obtain⟨_,_,rfl⟩:=len2 h;rfl);obtain⟨_,_,ae,_⟩:=iE (ps:=["stands"]) X G yl (λ_ _ _ _ _ _ _ h=>by obtain⟨_,rfl⟩:=len1 h;rfl);obtain⟨_,_,al,_⟩:=iE (ps:=Xr) X G ym (λ_ _ _ _ _ _ _ h=>by obtain⟨_,_,rfl⟩:=len2 h;rfl);obtain⟨_,_,aG,_⟩:=iE (ps:=Xj) X G yn (λ_ _ _ _ _ _ _ h=>by obtain⟨_,_,rfl⟩:=len2 h;rfl);obtain⟨_,_,Y,_⟩:=iE (ps:=XI) X G yo (λ_ _ _ _ _ _ _ h=>by obtain⟨_,_,rfl⟩:=len2 h;rfl);obtain⟨_,_,am,_⟩:=iE (ps:=XI) X G yp (λ_ _ _ _ _ _ _ h=>by obtain⟨_,_,rfl⟩:=len2 h;rfl);obtain⟨_,_,aA,_⟩:=iE (ps:=["fields"]) X G yq (λ_ _ _ _ _ _ _ h=>by obtain⟨_,rfl⟩:=len1 h;rfl);obtain⟨_,_,a8,_⟩:=iE (ps:=XV) X G yr (λ_ _ _ _ _ _ _ h=>by obtain⟨_,_,rfl⟩:=len2 h;rfl);obtain⟨_,_,a9,_⟩:=iE (ps:=XV) X G yt (λ_ _ _ _ _ _ _ h=>by obtain⟨_,_,rfl⟩:=len2 h;rfl);obtain⟨_,_,a3,_⟩:=iE (ps:=Xo) X G yu (λ_ _ _ _ _ _ _ h=>by obtain⟨_,_,_,rfl⟩:=mR h;rfl);obtain⟨_,_,bf,_⟩:=iE (ps:=Xd) X G yw (λ_ _ _ _ _ _ _ h=>by obtain⟨_,_,_,rfl⟩:=mR h;rfl);obtain⟨_,_,bj,_⟩:=iE (ps:=["record","field"]) X G yx (λ_ _ _ _ _ _ _ h=>by obtain⟨_,_,rfl⟩:=len2 h;rfl);obtain⟨_,_,ag,_⟩:=iE (ps:=XF) X G yz (λ_ _ _ _ _ _ _ h=>by obtain⟨_,_,rfl⟩:=len2 h;rfl);obtain⟨_,_,bp,_⟩:=iE (ps:=XF) X G yA (λ_ _ _ _ _ _ _ h=>by obtain⟨_,_,rfl⟩:=len2 h;rfl);obtain⟨_,_,bu,_⟩:=iE (ps:=XF) X G yB (λ_ _ _ _ _ _ _ h=>by obtain⟨_,_,rfl⟩:=len2 h;rfl);obtain⟨_,_,aD,_⟩:=iE (ps:=Xf) X G yC (λ_ _ _ _ _ _ _ h=>by obtain⟨_,_,_,rfl⟩:=mR h;rfl);obtain⟨_,_,bq,_⟩:=iE (ps:=XF) X G yD (λ_ _ _ _ _ _ _ h=>by obtain⟨_,_,rfl⟩:=len2 h;rfl);obtain⟨_,_,av,_⟩:=iE (ps:=XG) X G yE (λ_ _ _ _ _ _ _ h=>by obtain⟨_,_,_,_,rfl⟩:=qI h;rfl);obtain⟨_,_,be,_⟩:=iE (ps:=XG) X G yF (λ_ _ _ _ _ _ _ h=>by obtain⟨_,_,_,_,rfl⟩:=qI h;rfl);obtain⟨_,_,bb,_⟩:=iE (ps:=Xe) X G yG (λ_ _ _ _ _ _ _ h=>by obtain⟨_,_,_,rfl⟩:=mR h;rfl);obtain⟨_,_,bv,_⟩:=iE (ps:=XX) X G yH (λ_ _ _ _ _ _ _ h=>by obtain⟨_,_,rfl⟩:=len2 h;rfl);obtain⟨_,_,a4,_⟩:=iE (ps:=XH) X G yI (λ_ _ _ _ _ _ _ h=>by obtain⟨_,_,_,_,rfl⟩:=qI h;rfl);obtain⟨_,_,an,_⟩:=iE (ps:=XY) X G yJ (λ_ _ _ _ _ _ _ h=>by obtain⟨_,_,_,rfl⟩:=mR h;rfl);obtain⟨_,_,aU,_⟩:=iE (ps:=XU) X G yK (λ_ _ _ _ _ _ _ h=>by obtain⟨_,_,_,_,rfl⟩:=qI h;rfl);obtain⟨_,_,a5,_⟩:=iE (ps:=Xn) X G yL (λ_ _ _ _ _ _ _ h=>by obtain⟨_,_,rfl⟩:=len2 h;rfl);obtain⟨_,_,a6,_⟩:=iE (ps:=Xp) X G yM (λ_ _ _ _ _ _ _ h=>by obtain⟨_,_,rfl⟩:=len2 h;rfl);obtain⟨_,_,aW,_⟩:=iE (ps:=Xk) X G yN (λ_ _ _ _ _ _ _ h=>by obtain⟨_,_,rfl⟩:=len2 h;rfl);obtain⟨_,_,aP,_⟩:=iE (ps:=XM) X G yO (λ_ _ _ _ _ _ _ h=>by obtain⟨_,_,_,_,_,rfl⟩:=G7 h;rfl);obtain⟨_,_,a7,_⟩:=iE (ps:=XO) X G yP (λ_ _ _ _ _ _ _ h=>by obtain⟨_,_,_,rfl⟩:=mR h;rfl);subst ze
 have bw:Dn K mg "_law_rows" j1 (top 45) fR (W.fnOf "_law_rows" "_law_rows" (jy (top 45)) (i3 (top 45)) (gn (top 45)) .none ca cb cc b9 (.ref cR) cd):=by
  have F:=pV (st:=(top 45)) lR yQ kR;exact⟨F,F.binds (λ_ _ _ _ _ _ _ h=>by obtain⟨_,_,_,_,rfl⟩:=qI h;rfl),W.mg_of X G aR⟩
 subst zg
 have aH:Dn K mg "sorted_fields" mh (top 7) fS (W.fnOf "sorted_fields" "sorted_fields" (jy (top 7)) (i3 (top 7)) (gn (top 7)) .none cf cg ci ce (.ref cS) cj):=by
  have F:=pV (st:=(top 7)) lS yR kS;exact⟨F,F.binds (λ_ _ _ _ _ _ _ h=>by obtain⟨_,rfl⟩:=len1 h;rfl),W.mg_of X G aS⟩
 subst zi
 have ao:Dn K mg "_law_kinds" lN (top 51) fQ (W.fnOf "_law_kinds" "_law_kinds" (jy (top 51)) (i3 (top 51)) (gn (top 51)) .none cn co cp cm (.ref cQ) cq):=by
  have F:=pV (st:=(top 51)) lQ yS kQ;exact⟨F,F.binds (λ_ _ _ _ _ _ _ h=>by obtain⟨_,_,_,rfl⟩:=mR h;rfl),W.mg_of X G aQ⟩
 subst zk
 have bc:Dn K mg "_law_case" rS (top 54) fC (W.fnOf "_law_case" "_law_case" (jy (top 54)) (i3 (top 54)) (gn (top 54)) .none cs cu cw cr (.ref cC) cx):=by
  have F:=pV (st:=(top 54)) lC yT kC;exact⟨F,F.binds (λ_ _ _ _ _ _ _ h=>by obtain⟨_,_,_,_,_,rfl⟩:=G7 h;rfl),W.mg_of X G aC⟩
 subst zm
 have bL:Dn K mg "law" ["_law_script"] (top 56) fL (W.fnOf "law" "law" (jy (top 56)) (i3 (top 56)) (gn (top 56)) .none b4 b5 b6 b3 (.ref cL) b8):=by
  have F:=pV (st:=(top 56)) lL yU kL;exact⟨F,F.binds (λ_ _ _ _ _ _ _ h=>by obtain⟨_,rfl⟩:=len1 h;rfl),W.mg_of X G aL⟩
 obtain⟨_,ac⟩:=mx (ps:=Xq) sG (λ_ _ _ _ _ _ _ h=>by obtain⟨_,_,rfl⟩:=len2 h;rfl);obtain⟨_,z⟩:=mx (ps:=Xc) u3 (λ_ _ _ _ _ _ _ h=>by obtain⟨_,_,rfl⟩:=len2 h;rfl);obtain⟨_,aX⟩:=mx (ps:=XJ) u4 (λ_ _ _ _ _ _ _ h=>by obtain⟨_,_,_,rfl⟩:=mR h;rfl);obtain⟨_,aw⟩:=mx (ps:=XQ) u5 (λ_ _ _ _ _ _ _ h=>by obtain⟨_,_,_,_,rfl⟩:=qI h;rfl);obtain⟨_,aI⟩:=mx (ps:=Xs) u6 (λ_ _ _ _ _ _ _ h=>by obtain⟨_,_,rfl⟩:=len2 h;rfl);obtain⟨_,aB⟩:=mx (ps:=Xh) sH (λ_ _ _ _ _ _ _ h=>by obtain⟨_,_,_,rfl⟩:=mR h;rfl);obtain⟨_,aT⟩:=mx (ps:=Xc) u7 (λ_ _ _ _ _ _ _ h=>by obtain⟨_,_,rfl⟩:=len2 h;rfl);obtain⟨_,bd⟩:=mx (ps:=XJ) u9 (λ_ _ _ _ _ _ _ h=>by obtain⟨_,_,_,rfl⟩:=mR h;rfl);obtain⟨_,aY⟩:=mx (ps:=["self"]) u_ (λ_ _ _ _ _ _ _ h=>by obtain⟨_,rfl⟩:=len1 h;rfl);obtain⟨_,ap⟩:=mx (ps:=XZ) va (λ_ _ _ _ _ _ _ h=>by obtain⟨_,_,rfl⟩:=len2 h;rfl);obtain⟨_,ar⟩:=mx (ps:=XZ) vb (λ_ _ _ _ _ _ _ h=>by obtain⟨_,_,rfl⟩:=len2 h;rfl);have e:=cZ.symm.trans bL.m
 cases e;refine⟨W.fnOf "law" "law" (jy (top 56)) (i3 (top 56)) (gn (top 56)) .none b4 b5 b6 b3 (.ref cL) b8,λs v=>.of_eq rfl,λbase X1 _ bK=>?_⟩;have cV:=W.codeHd_of_K X1 zf;have cW:=W.codeHd_of_K X1 zh;have bX:=W.codeHd_of_K X1 zj;have cX:=W.codeHd_of_K X1 zl;have cY:=W.codeHd_of_K X1 zo;obtain⟨t1,t2,t3,t4,t5,t6⟩:=za;obtain⟨d1,d2,d3,d4,d5,d6⟩:=zb
 have MG:Meth K U "grade" ak:=by
  obtain⟨_,⟨_,_,_,_,_,_,_,_,_,_,_,k⟩,h1,_⟩:=u_;exact⟨y_,h1,k⟩
 have UF:mL K mg U ax aE a1 a2 ak aO:=⟨⟨t1,t2,t3,t4⟩,yZ,⟨t5,sG.2.2.2,sG.2.2.1,t6⟩,W.mg_of X G yV,jI.meth u3,jI.meth u4,jI.meth u5,MG,jI.meth u6⟩;have NF:su K mg au aF aV bi:=⟨⟨d1,d2,d3,d4⟩,y8,y9,⟨d5,sH.2.2.2,sH.2.2.1,d6⟩,W.mg_of X G yW,jI.meth u7,jI.meth u9⟩;have XN:=G8 X G X1 yY vb.2.2.1 zd;have XC:=G8 X G X1 yX va.2.2.1 zc;have N:=ug (rT (P:=l.prog) (w:=w) (base:=base) T ag);have Nm:=EE T aD ag N;have dh:=λd=>kind_all (P:=l.prog) (w:=w) (base:=base) T bb ag bq aD av be d;have Fd:=EF 1 T av aD Nm bb (dh 1);have V_:=EX (P:=l.prog) (w:=w) T a4 bw rfl cV bK ag bp bu bv 67;have M:=Fi (P:=l.prog) (w:=w) (base:=base) T aa L az ah bt ai aK ab af;have J:=Ff (P:=l.prog) (w:=w) (base:=base) T az;have Ka:=Fb (P:=l.prog) (w:=w) (base:=base) T af;have RN:=Me T L az J aa (M 0).1;have cy:=Mf T ah L RN bt (ES T bt);have PN:=Md (P:=l.prog) (w:=w) (base:=base) T aK;have TN:=Mg T ai (M 0).2 aK PN aa (M 0).1;have EN:=Mh T ab aK PN af Ka aa (M 0).1;have MN:=Mi T aa L RN ah cy ai TN ab EN;have MB:=rY (M 22).1 (MN.mono (by decide));have RW:=Mj 22 90 T L az J aa MB;have MW:=Ml 22 90 T aa L RW ah cy ai TN ab EN (by decide);have AA:=Fm (P:=l.prog) (w:=w) (base:=base) T an 22;have AL:=Ov 22 T an (rY (AA.mono (by decide)) (Mn 22 T an AA));have SF:=M2 (P:=l.prog) (w:=w) T aH rfl cW bK;have RO:=M4 T aN aH SF;have AS:=M9 (P:=l.prog) (w:=w) (base:=base) T ae;have di:=Na T aG af Ka;have dj:=FV (P:=l.prog) (w:=w) (base:=base) true T Y;have cz:=FV (P:=l.prog) (w:=w) (base:=base) false T Y;have PO:=Nd (P:=l.prog) (w:=w) (base:=base) T a8;have dk:=Np (P:=l.prog) (w:=w) (base:=base) T af;have FK:=Nr T al af Ka;have FB:=Nu (P:=l.prog) (w:=w) (base:=base) T am;have NO:=NM (P:=l.prog) (w:=w) (base:=base) T aA;have RE:=Nw T a9 a8 PO;have WF:=Nz (P:=l.prog) (w:=w) (base:=base) T a3;have NE:=NC T bf a3 WF a9 RE a8 PO;have UN:=NG T bj a9 RE;have GR:=NR (P:=l.prog) (w:=w) (base:=base) T aY;have UI:=NP (P:=l.prog) (w:=w) (base:=base) T UF ac;have UK:=NU (P:=l.prog) (w:=w) (base:=base) T UF aI;have US:=NW T UF aX bj UN;have UB:=NX T UF z al FK ae AS aN RO am FB Y cz aA NO;have NI:=N0 (P:=l.prog) (w:=w) (base:=base) T NF aB;have NS:=N2 T NF bd bf NE;have NB:=N5 T NF aT aG di ae AS af dk aN RO am FB Y dj;have AF:=N6 22 90 T aM aa MW;have dm:=N8 (P:=l.prog) (w:=w) T XC ap;have dn:=N_ (P:=l.prog) (w:=w) T XN ar;have dp:=Oa T XN ae ar dn;have dq:=Oe T UF z al FK ae (rY (toD (AS.mono (by decide))) dp) am FB Y cz aA NO;have dt:=Ob 22 90 T XC aM aa MW ap dm;have UP:=Oh 22 90 T UF aw aM AF z UB bf NE aA NO al FK (by decide);have du:=Oi 22 90 T UF aw aM dt z UB (by decide);have LP:=Od (Oj _ _ _ _) 90 T UF.ct UF.p XC aU ⟨aw.b⟩ (rY (toD UP) du);have FR:=OA (P:=l.prog) (w:=w) (base:=base) T a5;have dv:=OD (P:=l.prog) (w:=w) (base:=base) T a6;have dw:=OG 22 90 T aP aU LP a6 dv (by decide);have KT:=GA (P:=l.prog) (w:=w) T ao rfl bX bK true;have KL:=GA (P:=l.prog) (w:=w) T ao rfl bX bK false;have ST:=Og (Ol _ _ _) T UF.ct UF.b XN aW ⟨z.b⟩ (rY (toD UB) dq);have dy:=OI T UF a7 ac UI ao KT KL aW ST;have CA:=OL vc.f T UF NF bc rfl cX bK ao KT ac UI a4 V_ z UB aY GR aX US aI UK an AL aU LP aB NI aT NB bd NS aP dw;exact OT vc T bL rfl cY bK ag N av Fd a5 FR bc CA a7 dy
theorem OZ {K:W.Frag}{x:Str}{f c P:Addr}{Y J:Value}{od L:Option Addr}{fd:FuncData}{sl U:Array (Option Value)}{z:Array Value}(a:W.nsIn K mainGlobals x=some (some (.ref f)))(l:K.lookup f=some ⟨Y,od,.func fd,sl⟩)(hc:fd.code=.ref c)
 (lc:K.lookup c=some ⟨J,L,.fields z,U⟩) (hP:z[11]? =some (.ref P)):W.tabIn K x=some (c,P):=by
 unfold W.tabIn;rw[a];dsimp only;rw[l];dsimp only;rw[hc];dsimp only;rw[lc];dsimp only;rw[hP]
def O0 (K:W.Frag) (z:List (Addr × Addr)):Sp:=λvs H Q _=>∃(a:Addr) (ns:List Int),vs=[.ref a]/\jP K H a ns/\ns.length<=63/\(∀q∈z,H q.2=some (.gQ #[]))/\∀H',Q (.bl true) H'
theorem jP.ofT {K:W.Frag}{H:Hp}{a:Addr}{ns:List Int}{J:List Addr}(o:tO J H)(h:fY K H a (ns.map V.int)):jP K H a ns:=by
 rcases h with(h|h)|h
 . rcases o a with z|⟨L,xs,z⟩|⟨_,z⟩ <;> rw[h] at z <;> cases z
 . exact .inl h
 . exact .inr h
theorem walk {l:W.OpenLaw}{q:Program}{loose:List Str}{XP:(Str->Option Value)->Heap->Prop}{YP:World->Heap->Prop}{d:DefRec}{K:Params->W.Frag}(hn:l.most=some 63)(aa:d.params.defaults=[])
 (hY:∀(w:World) (h:Heap),YP w h->(K w.params).In h) (ab:∀w:World,W.noTabs (K w.params)=true) (J:∀y∈(Xl:List Str),∃d',(PyProof.Rows.recsOf q).find? (λe=>e.name == y)=some d')
 (F:∀w:World,∃c Pt L P2 U P3 Y P4 c5 P5:Addr,W.tabIn (K w.params) "_law_rows"=some (c,Pt)/\W.tabIn (K w.params) "sorted_fields"=some (L,P2)/\W.tabIn (K w.params) "_law_kinds"=some (U,P3)/\W.tabIn (K w.params) "_law_case"=some (Y,P4)/\W.tabIn (K w.params) "law"=some (c5,P5)/\∀(mg:Str->Option Value) (fa:Addr) (h:Heap),(K w.params).In h->h.Ns mainGlobals mg->mg d.name=some (.ref fa)->
   ∃fd:FuncData,(∀(s:Shared) (u:Value),BindsTo s fd ⟨[u],[]⟩ [("_law_script",u)])/\∀base:Heap,(K w.params).In base->base.Ns mainGlobals mg->BM mg base->e_ l.prog w (K w.params) mg base fW 141 fa fd ["_law_script"] (xY (K w.params) Pt P2 P3 P4 P5)):
 W.WalkO q loose XP YP l.row.toRowW d [] (λf vs=>PySem.call f vs):=
 L2.KS (n:=63) (k:=141) (x:="_law_script") (names:=Xl) (sp:=λw z=>O0 (K w.params) z) hn (by decide) aa ⟨rfl,by decide,by decide⟩ hY ab (λw=>by
   obtain⟨c,Pt,L,P2,U,P3,Y,P4,c5,P5,ht,rX,rU,pH,ny,F⟩:=F w;refine⟨[(c,Pt),(L,P2),(U,P3),(Y,P4),(c5,P5)],λq' hq=>?_,λmg fa h X G hm=>?_⟩
   . simp only[Q0x,Q1r,or_false] at hq;rcases hq with e|e|e|e|e
     . exact⟨"_law_rows",by simp,by rw[e];exact ht⟩
     . exact⟨"sorted_fields",by simp,by rw[e];exact rX⟩
     . exact⟨"_law_kinds",by simp,by rw[e];exact rU⟩
     . exact⟨"_law_case",by simp,by rw[e];exact pH⟩
     . exact⟨"law",by simp,by rw[e];exact ny⟩
   obtain⟨fd,hb,hF⟩:=F mg fa h X G hm;exact⟨fd,hb,λbase X1 G1 B=>(hF base X1 G1 B).imp λvs H Q E ⟨a,ns,e,hS,hl,hT,q⟩=>⟨a,ns,e,hS,hl,.inl (hT (c,Pt) (by simp)),.inl (hT (L,P2) (by simp)),.inl (hT (U,P3) (by simp)),.inl (hT (Y,P4) (by simp)),.inl (hT (c5,P5) (by simp)),q⟩⟩)
   J λw z H a ns hl hO ac ae=>⟨a,ns,rfl,jP.ofT hO ae,hl,ac,λ_=>rfl⟩
end Pb
open W PyProof.Rows
set_option maxRecDepth 100000 in
set_option maxHeartbeats 0 in
theorem PySem.Challenge.cw_putback_k28_unnest_holds : PySem.Challenge.rw_putback_k28_unnest.Holds := by
 w_on
 refine holds_law Pb.said λsaid=>?_;refine holds_open (q:=Pb.qv) (loose:=[]) (Xt:=λs=>xlAt Pb.qv [] s && recOk (RowW.records (PySem.W.OpenRow.toRowW (PySem.W.OpenLaw.row PySem.Challenge.rw_putback_k28_unnest))) s) (XP:=XL Pb.qv []) (Yf:=Hook.obs (PySem.W.kmHook Pb.KK Pb.nK Pb.oE [86,432,470,489,499])) (Ya:=Hook.val (PySem.W.kmHook Pb.KK Pb.nK Pb.oE [86,432,470,489,499])) (YP:=Hook.says (PySem.W.kmHook Pb.KK Pb.nK Pb.oE [86,432,470,489,499])) (N:=11013) ?hl (Hook.of (PySem.W.kmHook Pb.KK Pb.nK Pb.oE [86,432,470,489,499])) (Hook.keeps (PySem.W.kmHook Pb.KK Pb.nK Pb.oE [86,432,470,489,499])) (λs e=>xl_of s (Bool.and_eq_true_iff.mp e).1) XL.keeps (by rfl) (by rfl) (by rfl) (λs e=>recFacts_of (Bool.and_eq_true_iff.mp e).2) (by rfl) (by first|assumption|decide +kernel) (by decide +kernel) ⟨rfl,rfl,rfl,rfl,rfl,by decide +kernel⟩ ?hw ?hc
 case hl=>exact Pb.Hw (by rfl) (by rfl) (λs=>rfl) (by rfl) (Q2x 24 Pb.vg).symm (λP=>by kernel_rfl) Pb.HI (Pb.Hx Pb.HJ (Pb.Hy Pb.HK Pb.HL Pb.HM))
 (case hw=>w_witness2)
 k_fill
 refine Pb.walk (l:=PySem.Challenge.rw_putback_k28_unnest) rfl rfl (λw h Y=>PySem.W.km_in_of Y) (λw=>by kernel_rfl) ?HR ?F
 case HR=>intro y hy;simp only[Q0x,Q1r,or_false] at hy;rcases hy with rfl|rfl|rfl|rfl|rfl <;> exact⟨_,rfl⟩
 case F=>
  intro w
  refine' ⟨_,_,_,_,_,_,_,_,_,_,?ht,?rX,?rU,?pH,?ny,?GG⟩
  case ht|rX|rU|pH|ny=>
   refine' Pb.OZ ?ta ?tl ?tc ?O1 ?tP
   (case ta=>k_is);(case tl=>k_is);(case tc=>rfl);(case O1=>k_is);(case tP=>rfl)
  case GG=>
   intro mg fa h KX G hmg
   refine' Pb.all_mk KX G hmg ?ya ?yb ?yc ?yd ?ye ?yf ?yg ?yh ?yi ?yj ?yk ?yl ?ym ?yn ?yo ?yp ?yq ?yr ?yt ?yu ?yw ?yx ?yz ?yA ?yB ?yC ?yD ?yE ?yF ?yG ?yH ?yI ?yJ ?yK ?yL ?yM ?yN ?yO ?yP ?aR ?lR ?yQ ?kR ?aS ?lS ?yR ?kS ?aQ ?lQ ?yS ?kQ ?aC ?lC ?yT ?kC ?aL ?lL ?yU ?kL ?zz ?yV ?G9 ?G_ ?yW ?Hc ?Hd ?He ?Hf ?Hg ?yX ?Hh ?Hi ?yY ?Hj ?Hk ?sG ?u3 ?u4 ?u5 ?u6 ?sH ?u7 ?u9 ?u_ ?va ?vb ?yZ ?y8 ?y9 ?y_ ?za ?zb ?zc ?zd ?ze ?Hl ?Hm ?zf ?zg ?Hn ?qH ?zh ?zi ?Ho ?hPQ ?zj ?zk ?Hq ?Hr ?zl ?zm ?Hs ?Hu ?zo ?vc
   case ya|yb|yc|yd|ye|yf|yg|yh|yi|yj|yk|yl|ym|yn|yo|yp|yq|yr|yt|yu|yw|yx|yz|yA|yB|yC|yD|yE|yF|yG|yH|yI|yJ|yK|yL|yM|yN|yO|yP=>
    refine' Pb.OU ?a ?l ?c ?k
    (case a=>k_is);(case l=>k_is);(case c=>k_is);(case k=>k_is)
   (case aR=>k_is);(case lR=>k_is);(case yQ=>k_is);(case kR=>k_is)
   (case aS=>k_is);(case lS=>k_is);(case yR=>k_is);(case kS=>k_is)
   (case aQ=>k_is);(case lQ=>k_is);(case yS=>k_is);(case kQ=>k_is)
   (case aC=>k_is);(case lC=>k_is);(case yT=>k_is);(case kC=>k_is)
   (case aL=>k_is);(case lL=>k_is);(case yU=>k_is);(case kL=>k_is)
   case zz=>intro x hx;simp only[Q0x,Q1r,or_false] at hx;rcases hx with rfl|rfl|rfl|rfl|rfl|rfl|rfl|rfl|rfl|rfl|rfl|rfl|rfl|rfl <;> k_is
   (case yV=>k_is);(case G9=>k_is);(case G_=>rfl)
   (case yW=>k_is);(case Hc=>k_is);(case Hd=>rfl)
   (case He=>k_is);(case Hf=>k_is);(case Hg=>rfl)
   (case yX=>k_is);(case Hh=>k_is);(case Hi=>rfl)
   (case yY=>k_is);(case Hj=>k_is);(case Hk=>rfl)
   case sG|u3|u4|u5|u6|sH|u7|u9|u_|va|vb=>
    refine' Pb.OV ?a ?l ?c ?k ?f ?g
    (case a=>k_is);(case l=>k_is);(case c=>k_is);(case k=>k_is);(case f=>kernel_rfl);(case g=>kernel_rfl)
   case yZ|y8|y9|y_=>kernel_rfl
   case za|zb=>refine⟨?_,?_,?_,?_,?_,?_⟩ <;> kernel_rfl
   case zc|zd=>refine⟨?_,?_,?_,?_,?_,?_,?_,?_,?_,?_,?_,?_,?_,?_⟩ <;> kernel_rfl
   (case ze=>rfl);(case Hl=>k_is);(case Hm=>rfl);(case zf=>kernel_rfl)
   (case zg=>rfl);(case Hn=>k_is);(case qH=>rfl);(case zh=>kernel_rfl)
   (case zi=>rfl);(case Ho=>k_is);(case hPQ=>rfl);(case zj=>kernel_rfl)
   (case zk=>rfl);(case Hq=>k_is);(case Hr=>rfl);(case zl=>kernel_rfl)
   (case zm=>rfl);(case Hs=>k_is);(case Hu=>rfl);(case zo=>kernel_rfl)
   (case vc=>exact⟨⟨by decide,by decide,by decide,by decide,by decide,by decide⟩,by decide,by decide,by decide,by decide⟩)
