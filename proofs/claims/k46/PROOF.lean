import PyProof.Rows.All
import Wide.All
import OpenK.AllK
import Wide.FinOn
import Lean
import PyProof.EqAt
import PyProof.EqKinds
import PyProof.TupleCall
import KE.KSortAsk
import PyProof.NeKinds
import PyProof.StationsW
import PyProof.ExcClass3
import PyProof.Rows.Own
import PyProof.NsDelKeeps
import KE.KIsAll
import PyProof.ExcAttrAll.ValueError
import PyProof.IsiH_list
import PyProof.Rows.FStr
import PyProof.FString4
import PyProof.StrLawsRepr
import PyProof.Rows.StrMeet
import PyProof.ExcInit
import PyProof.InstStoreFacts
import PyProof.ExcBaseAll.ValueError
import PyProof.Draws
import KE.KDictOf
import KE.KEqDict
import KE.KDictLaws
import KE.KDictSum
import PyProof.Rows.SortWalk
import PyProof.Rows.SortStr
import PyProof.DictWalks
import PySem.Challenge.RW_putback_k46_group
abbrev XA:List PySem.Str:=["_law_script","_law_at","_law_deep","_law_m","_law_kind_here","_law_names_here","_law_fields_here"]
abbrev XB:List PySem.Str:=["_law_script","_law_at"]
abbrev XD:List PySem.Str:=["_law_a","_law_b","_law_kind_here","_law_found","_law_due","_law_name","_law_inner"]
abbrev XE:List PySem.Str:=["_law_script","_law_at","_law_m","_law_many","_law_deep","_law_kind_here","_law_pool_here","_law_plains_here","_law_field","_law_into","_law_begin","_law_source","_law_twin","_law_other","_law_view","_law_shown","_law_told","_law_seen","_law_old"]
abbrev XF:List PySem.Str:=["_law_kind_here","_law_found","_law_due"]
abbrev XG:List PySem.Str:=["_law_kind_here","_law_found","_law_due","_law_name","_law_inner"]
abbrev XH:List PySem.Str:=["_law_script","_law_at","_law_many","_law_deep"]
abbrev XI:List PySem.Str:=["_law_script","_law_at","_law_kind_here","_law_room"]
abbrev XJ:List PySem.Str:=["_law_kind_here","_law_field","_law_into","_law_own","_law_fields_here"]
abbrev XM:List PySem.Str:=["_law_script","_law_at","_law_kind_here","_law_field","_law_rows_here"]
abbrev XN:List PySem.Str:=["_law_script","_law_at","_law_kind_here","_law_pool_here","_law_room","_law_rows_here","_law_one","_law_m","_law_row"]
abbrev XO:List PySem.Str:=["fields","record"]
abbrev XQ:List PySem.Str:=["_law_script","_law_at","_law_kind_here","_law_room","_law_made","_law_name","_law_inner","_law_top","_law_many"]
abbrev XR:List PySem.Str:=["_law_view","_law_kind_here","_law_source","_law_seen"]
abbrev XS:List PySem.Str:=["_law_script","_law_at","_law_deep"]
abbrev XT:List PySem.Str:=["record","names"]
abbrev XU:List PySem.Str:=["_law_script","_law_at","_law_kind_here","_law_many"]
abbrev XV:List PySem.Str:=["_law_kind_here","_law_rows_here"]
abbrev XW:List PySem.Str:=["_law_script","_law_at","_law_kind_here","_law_room","_law_rows_here","_law_seen","_law_k","_law_row"]
abbrev XX:List PySem.Str:=["_law_script","_law_at","_law_kind_here","_law_many","_law_lead","_law_pool_here","_law_k","_law_one"]
abbrev XY:List PySem.Str:=["_law_rows","_law_some","in_order","_law_sorted","sorted_fields","_law_group_kind","_law_group_shown"]
abbrev XZ:List PySem.Str:=["_law_field","_law_into","_law_rows_here","_law_values","_law_row","_law_made","_law_one"]
abbrev Xa:List PySem.Str:=["_law_kind_here","_law_row"]
abbrev Xb:List PySem.Str:=["_law_script","_law_at","_law_names_here"]
abbrev Xc:List PySem.Str:=["_law_field","_law_into","_law_rows_here"]
abbrev Xd:List PySem.Str:=["kind","rows"]
abbrev Xe:List PySem.Str:=["_law_script","_law_at","_law_many"]
abbrev Xf:List PySem.Str:=["fields","names"]
abbrev Xg:List PySem.Str:=["_law_script","_law_at","_law_names_here","_law_some_here","_law_free"]
abbrev Xh:List PySem.Str:=["_law_script","_law_at","_law_kind_here","_law_pool_here","_law_room"]
abbrev Xi:List PySem.Str:=["self","field","into"]
abbrev Xj:List PySem.Str:=["_law_script","_law_at","_law_many","_law_deep","_law_names_here"]
abbrev Xk:List PySem.Str:=["_law_kind_here","_law_field"]
abbrev Xl:List PySem.Str:=["self","kind","source","seen"]
abbrev Xm:List PySem.Str:=["record","name","value"]
abbrev Xn:List PySem.Str:=["_law_row","_law_field"]
abbrev Xo:List PySem.Str:=["self","kind","source"]
abbrev Xp:List PySem.Str:=["self","name"]
abbrev Xq:List PySem.Str:=["_law_kind_here","_law_field","_law_into"]
abbrev Xr:List PySem.Str:=["_law_kind_here","_law_field","_law_by"]
theorem zzx {α:Sort _}{β:α->Sort _}{γ:∀a,β a->Sort _}{δ:∀a b,γ a b->Sort _}{p:∀a b c,δ a b c->Prop}{G:Prop}(h:∃a b c d,p a b c d)(k:∀a b c d,p a b c d->G):G:=let⟨a,b,c,d,e⟩:=h;k a b c d e
theorem zza {A B C D E G:Prop}(h:A/\B/\C/\D/\E)(k:A->B->C->D->E->G):G:=k h.1 h.2.1 h.2.2.1 h.2.2.2.1 h.2.2.2.2
local macro_rules|`(tactic|obtain⟨$s,*⟩:=$t)=>do
 let a:=s.getElems;if a.size<6 then Lean.Macro.throwUnsupported
 let b:=a.extract 4 a.size;let q←(a.extract 0 4).mapM λp=>`(rintroPat|($p:rcasesPatLo));let c←match t with|`($x:ident)=>`(tactic|try clear $x)|_=>`(tactic|skip)
 `(tactic|((first|refine zzx $t ?_|refine zza $t ?_);$c;rintro $q* e;obtain⟨$b,*⟩:=e))
open List renaming length_map→Q0,mem_cons_self→Q02,getElem?_eq_getElem→Q03,getD_eq_getElem?_getD→Q05,size_toArray→Q06,mem_cons_of_mem→Q07,mem_append_right→Q08,length_append→Q09,map_append→Q0b,getElem?_map→Q0h,mem_of_getElem?→Q0j,length_cons→Q0k,length_take→Q0l,nodup_nil→Q0o,take_length→Q0p,take_succ→Q0q,getElem_mem→Q0r,mem_append_left→Q0t,map_cons→Q0v,mem_map_of_mem→Q0y,map_map→Q0z,length_filter_le→Q1,getElem_of_mem→Q10,filter_cons→Q11,pairwise_map→Q12,append_assoc→Q13,flatten_append→Q14,take_of_length_le→Q15,all_eq_true→Q17,append_nil→Q1a,mem_cons→Q1d,map_nil→Q1f,any_cons→Q1g,find?_cons→Q1h,map_congr_left→Q1i,getElem_inj→Q1k,length_replicate→Q1l,length_singleton→Q1m,lookup_cons→Q1o,pairwise_singleton→Q1r,replicate_succ→Q1t,getElem?_set_ne→Q1v,all_cons→Q1y,getElem_map→Q1z,any_map→Q22,filter_append→Q24,filter_sublist→Q25,flatMap_cons→Q26,not_mem_nil→Q27,filterMap_cons→Q28,getElem?_set_self→Q29,of_mem_zip→Q2b,getElem?_append_right→Q2c,length_nil→Q2d,length_range→Q2h,perm_cons→Q2k,getElem_take→Q2l,foldl_append→Q2m,take_zero→Q2n,any_eq_true→Q2o,length_pos_of_mem→Q2q,flatMap_append→Q2r,take_append_drop→Q2s,getElem?_replicate→Q2v,getElem?_append_left→Q2w,getElem?_take_of_lt→Q2x,length_set→Q2y,forIn_cons→Q3,ext_getElem→Q32,lt_irrefl→Q37,zip_cons_cons→Q38,getElem?_cons_succ→Q39,foldl_cons→Q3b,sublist_append_right→Q3i,eq_of_mem_replicate→Q3j,nodup_cons→Q3m
open Nat renaming le_refl→Q00,ne_of_lt→Q0c,le_trans→Q0d,lt_of_lt_of_le→Q0f,zero_le→Q0g,lt_irrefl→Q0u,le_of_lt→Q0w,ne_of_gt→Q0x,le_of_not_lt→Q16,mul_le_mul_right→Q18,lt_succ_self→Q19,le_succ→Q1b,lt_of_le_of_lt→Q1n,le_add_right→Q1q,succ_mul→Q1s,le_of_eq→Q1w,sub_succ_lt_self→Q23,add_le_add_left→Q2f,not_lt_zero→Q2g,le_max_left→Q2i,le_max_right→Q2j,succ_le_succ→Q2p,lt_succ_of_lt→Q35,mul_left_comm→Q3a,add_le_add_right→Q3e,mul_le_mul_left→Q3g,le_mul_of_pos_right→Q3h,le_antisymm→Q3k
open PySem renaming wpAny_bind→Q01,wpAny_pure→Q0e,wpAny_mono→Q0s
open PySem.Heap renaming lt_size→Q04,get?_push_of_some→Q0a,get?_push_size→Q0i,get?_update_other→Q1c,get?_update_self→Q1x,size_update→Q2,size_push→Q2a,get?_push_ne→Q34
open Int renaming emod_nonneg→Q0m,emod_lt_of_pos→Q0n,le_refl→Q1j,mul_le_mul_of_nonneg_right→Q1u,natCast_add→Q20,add_mul→Q21,toNat_natCast→Q3c,lt_of_lt_of_le→Q3d,toNat_of_nonneg→Q3f,mul_le_mul→Q3l
open Array renaming length_toList→Q1e,getD_eq_getD_getElem?→Q1p,empty_append→Q2t,toArray_toList→Q2u,getElem?_eq_getElem→Q31,size_append→Q33,forIn_toList→Q36
open Option renaming isSome_map→Q2e,getD_none→Q2z,getD_some→Q30
set_option genSizeOf false
set_option Elab.async false
set_option linter.all false
set_option maxRecDepth 100000
set_option maxHeartbeats 4000000
open PySem
theorem yX:2<=PySem.sizeLine:=by decide
namespace L2
open Spec PyProof.Rows
noncomputable def i7 (s:Stmt):Arguments:=match s with
 | .FunctionDef _ a _ _ _ _ _ _ _ _=>a
 |_=>{ posonlyargs:=[],args:=[],vararg:=none,kwonlyargs:=[],kw_defaults:=[],kwarg:=none,defaults:=[] }
noncomputable def iI (s:Stmt):List Stmt:=match s with
 | .FunctionDef _ _ b _ _ _ _ _ _ _=>b
 |_=>[]
noncomputable def gp (s:Stmt):Scope:=match s with
 | .FunctionDef _ _ _ _ _ _ sc _ _ _=>sc
 |_=>{ kind:=.function,names:=[],isGenerator:=false,isCoroutine:=false }
end L2
namespace Pb
open L2
noncomputable def top (i:Nat):Stmt:=PySem.Challenge.pw_putback_k46_group.main.body.getD i (.Pass ⟨0,0,0,0⟩)
noncomputable def h8 (i j:Nat):Stmt:=match top i with
 | .ClassDef _ _ _ body _ _ _ _ _ _ _=>body.getD j (.Pass ⟨0,0,0,0⟩)
 |_=>.Pass ⟨0,0,0,0⟩
end Pb
namespace Pb
open W
noncomputable def treeOf:List Obj->Nat->BT->Option BT
 |[],_,t=>some t
 |o::l,n,t=>match((t.ins n o).get n).isSome with
  |true=>treeOf l (n+1) (t.ins n o)
  |false=>none
theorem yY {life:Life}:∀(l:List Obj) (n:Nat) (t t':BT),treeOf l n t=some t'->absHeap t' (n+l.length) life=⟨(absHeap t n life).objs++l.toArray,life⟩
 |[],n,t,t',h=>by
  cases h;show absHeap t n life=_;have:(absHeap t n life).objs++#[]=(absHeap t n life).objs:=Array.append_empty;rw[this];rfl
 |o::l,n,t,t',h=>by
  unfold treeOf at h
  cases e:((t.ins n o).get n).isSome with
  |false=>rw[e] at h;cases h
  |true=>
   rw[e] at h;have:=yY (life:=life) l (n+1) _ t' h;rw[absHeap_ins e] at this;have I:n+(o::l).length=n+1+l.length:=by rw[Q0k];omega
   rw[I,this];show Heap.mk ((absHeap t n life).objs.push o++l.toArray) life=_;congr 1;apply Array.ext';simp
noncomputable def qw (tb:String->Option Builtin) (p:Program) (w:World) (I:Nat) (J:Option Value):Nat->SharedT->Thread->Option SharedT
 |0,_,_=>none
 |n+1,s,t=>match through t with
  |true=>some s
  |false=>match stepOk I J t with
   |false=>none
   |true=>match stepT (denote tb) p w s t with
    |some (s',t')=>qw tb p w I J n s' t'
    |none=>none
theorem yZ {tb:String->Option Builtin}{p:Program}{w:World}{I:Nat}{J:Option Value}:∀{n:Nat}{s s':SharedT}{t:Thread},qw tb p w I J n s t=some s'->topRun tb p w I J n s.abs t=some s'.abs
 |0,_,_,_,h=>by cases h
 |n+1,s,s',t,h=>by
  unfold qw at h;unfold topRun
  cases U:through t with
  |true=>rw[U] at h;cases h;rfl
  |false=>
   rw[U] at h
   cases Y:stepOk I J t with
   |false=>rw[Y] at h;cases h
   |true=>
    rw[Y] at h
    cases L:stepT (denote tb) p w s t with
    |none=>rw[L] at h;cases h
    |some r=>obtain⟨aa,ab⟩:=r;rw[L] at h;rw[stepT_spec L];exact yZ h
noncomputable abbrev n8:=@W.Fast.tw10156331382660048174
noncomputable abbrev lK:=@W.Fast.tw11892475500146522536
noncomputable abbrev lL:=@W.Fast.tw14364793385576792824
noncomputable abbrev qx:=@W.Fast.tw6613529449190102663
noncomputable abbrev seenQ:=@W.Fast.tw4187177175401517315
noncomputable def n9 (p:Program) (w:World) (I:Nat) (J:Option Value):Nat->SharedT->Thread->Option SharedT
 |0,_,_=>none
 |n+1,s,t=>match through t with
  |true=>some s
  |false=>match qx I J t with
   |false=>none
   |true=>match n8 (lK lL) p w s t with
    |some (s',t')=>n9 p w I J n s' t'
    |none=>none
theorem y7 {p:Program}{w:World}{I:Nat}{J:Option Value}:∀(n:Nat) (s:SharedT) (t:Thread),n9 p w I J n s t=qw treeTable p w I J n s t
 |0,_,_=>rfl
 |n+1,s,t=>by
  unfold n9 qw;have L:qx I J t=stepOk I J t:=congrFun (congrFun (congrFun W.Fast.te6613529449190102663.symm _) _) _;have U:n8 (lK lL) p w s t=stepT (denote treeTable) p w s t:=by rw[show @n8=@stepT from W.Fast.te10156331382660048174.symm,show @lK=@denote from W.Fast.te11892475500146522536.symm,show @lL=@treeTable from W.Fast.te14364793385576792824.symm]
  rw[L,U];simp only[y7 n]
noncomputable def looksAt (p q:Program) (loose:List Str) (Xt:Shared->Bool) {α:Type}(Yf:Shared->α) (g0:Bool) (h₀:Heap) (s:Shared):=
 ((staticsOk (importedModules p.main.body) h₀ s.heap && namesBound p s.heap && gensDone s && laidKept h₀ s.heap),seenQ q loose (importedModules p.main.body) Xt g0 s,Yf s)
noncomputable def y8:List (Nat × Obj)->BT->BT
 |[],t=>t
 |(a,o)::l,t=>y8 l (t.ins a o)
noncomputable def uM:Nat->List Obj->BT->BT
 |_,[],t=>t
 |n,o::l,t=>uM (n+1) l (t.ins n o)
noncomputable def qy (p:Program) (w:World) (I:Nat) (J:Option Value):Nat->SharedT->Thread->Option (Flow × SharedT × Code × Pos)
 |0,_,_=>none
 |n+1,s,t=>match endAt 1 t with
  |some f=>some (f,s,t.code,t.pos)
  |none=>match qx I J t with
   |false=>none
   |true=>match n8 (lK lL) p w s t with
    |some (s',t')=>qy p w I J n s' t'
    |none=>none
theorem y9 (I:Nat)(J:Option Value)(t:Thread):qx I J t=stepOk I J t:=congrFun (congrFun (congrFun W.Fast.te6613529449190102663.symm _) _) _
theorem y_:@lK lL=denote treeTable:=by rw[show @lK=@denote from W.Fast.te11892475500146522536.symm,show @lL=@treeTable from W.Fast.te14364793385576792824.symm]
theorem za (p:Program)(w:World)(s:SharedT)(t:Thread):n8 (lK lL) p w s t=stepT (denote treeTable) p w s t:=by rw[show @n8=@stepT from W.Fast.te10156331382660048174.symm,y_]
theorem zb {p:Program}{w:World}{I:Nat}{J:Option Value}:∀(n:Nat) (s:SharedT) (t:Thread),qy p w I J n s t=segRunT treeTable p w I J 1 n s t
 |0,_,_=>rfl
 |n+1,s,t=>by
  unfold qy segRunT;rw[y9,za]
  cases endAt 1 t with
  |some f=>rfl
  |none=>
   cases stepOk I J t with
   |false=>rfl
   |true=>
    cases stepT (denote treeTable) p w s t with
    |none=>rfl
    |some r=>obtain⟨s',t'⟩:=r;exact zb n s' t'
noncomputable def qz (tb:String->Option Builtin) (p:Program) (w:World) (I:Nat) (J:Option Value):Nat->SharedT->Thread->Option (SharedT × Thread)
 |0,s,t=>some (s,t)
 |n+1,s,t=>match through t with
  |true=>none
  |false=>match stepOk I J t with
   |false=>none
   |true=>match stepT (denote tb) p w s t with
    |some (s',t')=>qz tb p w I J n s' t'
    |none=>none
theorem zc {tb:String->Option Builtin}{p:Program}{w:World}{I:Nat}{J:Option Value}:∀{n:Nat}{s s':SharedT}{t t':Thread},qz tb p w I J n s t=some (s',t')->topGo tb p w I J n s.abs t=some (s'.abs,t')
 |0,s,s',t,t',h=>by
  have h:some (s,t)=some (s',t'):=h
  cases h;rfl
 |n+1,s,s',t,t',h=>by
  unfold qz at h;unfold topGo
  cases U:through t with
  |true=>rw[U] at h;cases h
  |false=>
   rw[U] at h
   cases Y:stepOk I J t with
   |false=>rw[Y] at h;cases h
   |true=>
    rw[Y] at h
    cases L:stepT (denote tb) p w s t with
    |none=>rw[L] at h;cases h
    |some r=>obtain⟨aa,ab⟩:=r;rw[L] at h;rw[stepT_spec L];exact zc h
noncomputable def rQ (p:Program) (w:World) (I:Nat) (J:Option Value):Nat->SharedT->Thread->Option (SharedT × Thread)
 |0,s,t=>some (s,t)
 |n+1,s,t=>match through t with
  |true=>none
  |false=>match qx I J t with
   |false=>none
   |true=>match n8 (lK lL) p w s t with
    |some (s',t')=>rQ p w I J n s' t'
    |none=>none
theorem zd {p:Program}{w:World}{I:Nat}{J:Option Value}:∀(n:Nat) (s:SharedT) (t:Thread),rQ p w I J n s t=qz treeTable p w I J n s t
 |0,_,_=>rfl
 |n+1,s,t=>by
  unfold rQ qz;rw[y9,za];simp only[zd n]
noncomputable def rR (p:Program) (w:World) (I:Nat) (J:Option Value) (env:Env) (c:Code) (L:Pos) (l:List Stmt) (Y k2 k3:Nat) (s:SharedT):Option (Thread × Code × Code × SharedT × Pos):=
 match rQ p w I J Y s (topStub p) with
 |none=>none
 |some (s1,U)=>match qy p w I J k2 s1 (blockOf (behindTheImports p) env c U.pos [topFrame L]) with
  |some (.next,s2,c2,p2)=>(match qy p w I J k3 s2 (piecesOf l env c p2 [topFrame L]) with
   |some (.next,s3,c3,p3)=>some (U,c2,c3,s3,p3)
   |_=>none)
  |_=>none
theorem GN {p:Program}{w:World}{I:Nat}{J:Option Value}{env:Env}{c:Code}{U L Y:Pos}{l rest:List Stmt}{k1 k2 k3 N:Nat}{s s3:SharedT}{r:Shared}(hb:behindTheImports p=l++rest)
 (h:rR p w I J env c U l k1 k2 k3 s=some (⟨lK lL (.body (behindTheImports p) env),c,L,[topFrame U]⟩,c,c,s3,Y))
 (k:topRun treeTable p w I J N s3.abs (restOf rest env c Y [topFrame U])=some r):topRun treeTable p w I J (k1+(k2+(k3+N))) s.abs (topStub p)=some r:=by
 unfold rR at h;split at h
 . cases h
 next s1 t1 e1=>
  split at h
  next s2 c2 p2 e2=>
   split at h
   next aa c3 ab e3=>
    cases h;rw[zd] at e1;rw[zb] at e2 e3;have g1:=zc e1;rw[y_] at g1;have g3:=piece_app (rest:=rest) (segRun_of e3) k;rw[<-hb] at g3;exact go_top g1 (piece_block (segRun_of e2) g3)
   . cases h
  . cases h
noncomputable def uN (P:Params):BT:=(treeOf (boot_heap P).objs.toList 0 .nil).getD .nil
noncomputable def rS (w:World) (os:OsState):SharedT:=⟨uN w.params,(boot_heap w.params).objs.size,(boot_heap w.params).life,#[],boot_drawn,boot_toks,os⟩
theorem GO {p q:Program}{loose:List Str}{Xt:Shared->Bool}{α:Type}{Yf:Shared->α}{Ya:World->α}{N:Nat}{g0:Bool}{env:Env}{c:Code}{q0 L p3:Pos}{l rest:List Stmt}{k1 k2 k3 N4 I:Nat}{J:Option Value}{S3:World->OsState->SharedT}
 (e:opening p=plainProg p.main.scope.names) (hN:Nat.ble 600 N=true) (f:∀s,fenceModules? p s=some s) (aa:N=k1+(k2+(k3+N4))) (hb:behindTheImports p=l++rest)
 (b0:∀P:Params,((boot_heap P).isNs mainGlobals,(treeOf (boot_heap P).objs.toList 0 .nil).isSome,(boot_heap P).objs.size,(boot_heap P).nsMap mainGlobals "__annotations__")=(true,true,I,J))
 (U:∀w os,rR p w I J env c q0 l k1 k2 k3 (rS w os)=some (⟨lK lL (.body (behindTheImports p) env),c,L,[topFrame q0]⟩,c,c,S3 w os,p3))
 (Y:∀w os,((n9 p w I J N4 (S3 w os) (restOf rest env c p3 [topFrame q0])).map λ(s:SharedT)=>looksAt p q loose Xt Yf g0 (boot_heap w.params) s.abs)=some (true,openGood q loose,Ya w)):LeftO p q loose Xt Yf Ya N g0:=λw=>by
 obtain⟨⟨h,gs,d,k,os⟩,e1,e'⟩:=Option.map_eq_some_iff.mp (boot_open e hN f w);obtain⟨rfl,rfl,rfl,rfl⟩:h=boot_heap w.params/\gs=Array.mk []/\d=boot_drawn/\k=boot_toks:=by simpa using e'
 have ab:=b0 w.params;obtain⟨z,y0,hsz,ac⟩:_/\_/\_/\_:=by simpa only[Prod.mk.injEq] using ab
 obtain⟨T,y⟩:=Option.isSome_iff_exists.mp y0;obtain⟨s,r1,r2⟩:=Option.map_eq_some_iff.mp (Y w os);rw[y7] at r1;have r3:=GN hb (U w os) (yZ r1);rw[<-aa] at r3;have hT:=yY (life:=(boot_heap w.params).life) _ _ _ _ y
 have hS:SharedT.abs (rS w os)=⟨boot_heap w.params,#[],boot_drawn,boot_toks,os⟩:=by
  unfold SharedT.abs rS uN;dsimp only;rw[y];dsimp only[Option.getD];rw[Nat.zero_add,Q1e] at hT;rw[hT];have e0:(absHeap BT.nil 0 (boot_heap w.params).life).objs=#[]:=rfl;rw[e0,Q2t,Q2u]
 rw[hS] at r3
 have t:topFrom treeTable p w N ⟨boot_heap w.params,#[],boot_drawn,boot_toks,os⟩=some s.abs:=by
  unfold topFrom;dsimp only;rw[z,hsz,ac,r3];have l1:=congrArg (λz=>z.1) r2;dsimp only[looksAt] at l1;show(match staticsOk (importedModules p.main.body) (boot_heap w.params) s.abs.heap && namesBound p s.abs.heap && gensDone s.abs && laidKept (boot_heap w.params) s.abs.heap with|true=>_|false=>_)=_;rw[l1]
 unfold openEnds;rw[e1];show(topFrom treeTable p w N _).map _=_;rw[t];have l2:=congrArg (λz=>z.2) r2;dsimp only[looksAt] at l2;rw[show @seenQ=@openSeen from W.Fast.te4187177175401517315.symm] at l2;exact congrArg some l2
theorem GQ {p q:Program}{loose:List Str}{Xt:Shared->Bool}{α:Type}{Yf:Shared->α}{Ya:World->α}{g0:Bool}{L I:Nat}{J:Option Value}{U Y:World->OsState->SharedT}{t:Thread}
 (b:∀w os,n9 p w I J L (U w os) t=some (Y w os)) (l:∀w os,looksAt p q loose Xt Yf g0 (boot_heap w.params) (Y w os).abs=(true,openGood q loose,Ya w)):
 ∀w os,((n9 p w I J L (U w os) t).map λ(s:SharedT)=>looksAt p q loose Xt Yf g0 (boot_heap w.params) s.abs)=some (true,openGood q loose,Ya w):=λw os=>by
 rw[b];exact congrArg some (l w os)
theorem GU {p q:Program}{loose:List Str}{Xt:Shared->Bool}{α:Type}{Yf:Shared->α}{Ya:World->α}{g0:Bool}{I:World->OsState->SharedT}
 (J:∀w os,(staticsOk (importedModules p.main.body) (boot_heap w.params) (I w os).abs.heap && namesBound p (I w os).abs.heap && gensDone (I w os).abs && laidKept (boot_heap w.params) (I w os).abs.heap)=true)
 (L:∀w os,seenQ q loose (importedModules p.main.body) Xt g0 (I w os).abs=openGood q loose) (U:∀w os,Yf (I w os).abs=Ya w):
 ∀w os,looksAt p q loose Xt Yf g0 (boot_heap w.params) (I w os).abs=(true,openGood q loose,Ya w):=λw os=>Prod.ext (J w os) (Prod.ext (L w os) (U w os))
end Pb
namespace Pb
open L2
noncomputable section
noncomputable def hF (x q:Str) (s:Stmt) (m:Str) (n c:Nat):Obj:=.mk (.type "function") none (.func (.mk x q (i7 s) (.stmts (iI s)) (gp s) 3 [] .none .none .none (.str m n) none (.ref c) .none 0)) #[]
noncomputable def hR (x q:Str) (s:Stmt):Obj:=.mk .none none (.func (.mk x q (i7 s) (.stmts (iI s)) (gp s) 0 [] .none .none .none .none none .none .none 0)) #[]
noncomputable def hC (x q:Str) (a l n k r e:Nat):Obj:=.mk (.type "code") none (.fields #[.str x a,.str q (a+1),.str (.ofString "/claim/cut.py") (a+2),.int l 0,.int n 0,.int 0 0,.int 0 0,.int k 0,.ref r,.bool true,.int 181 0,.ref (r+1),.none,.ref (r+2),.ref (r+3),.ref (r+4),.int e 0,.int l 0,.str (.ofString "/claim/cut.py") (e+1)]) #[]
noncomputable def ze (x q:Str) (a l n k r e:Nat):Obj:=.mk (.type "code") none (.fields #[.str x a,.str q (a+1),.str (.ofString "/claim/cut.py") (a+2),.int l 0,.int n 0,.int 0 0,.int 0 0,.int k 0,.ref r,.bool true,.int 181 0,.ref (r+1),.none,.none,.none,.ref (r+2),.int e 0,.int l 0,.str (.ofString "/claim/cut.py") (e+1)]) #[]
noncomputable def hK (x:Str) (a l r e:Nat):Obj:=.mk (.type "code") none (.fields #[.str x a,.str x (a+1),.str (.ofString "/claim/cut.py") (a+2),.int l 0,.int 0 0,.int 0 0,.int 0 0,.int 0 0,.ref r,.bool false,.int 181 0,.ref (r+1),.none,.none,.none,.none,.int e 0,.int l 0,.str (.ofString "/claim/cut.py") (e+1)]) #[]
noncomputable def ib (x:Str) (s:Stmt) (m:Str) (n c:Nat):Obj:=hF x x s m n c
noncomputable def hX (x:Str) (s:Stmt):Obj:=hR x x s
noncomputable def iM (x:Str) (a l n k r e:Nat):Obj:=hC x x a l n k r e
noncomputable def jV (x:Str) (a l n k r e:Nat):Obj:=ze x x a l n k r e
noncomputable def tS:Nat->List Str->List Value
 |_,[]=>[]
 |n,x::r=>.str x n::tS (n+1) r
noncomputable def hT (n:Nat) (l:List Str):Obj:=.mk (.type "tuple") none (.seq (tS n l).toArray) #[]
noncomputable def tI:List (Nat × Nat × Nat)->List Value
 |[]=>[]
 |(a,b,c)::r=>.int a 0:: .int b 0:: .ref c::tI r
noncomputable def hI (l:List (Nat × Nat × Nat)):Obj:=.mk .none none (.fields (tI l).toArray) #[]
noncomputable def hE (P:Params) (x:Str) (a:Nat) (v:Value):DictEntry:=.mk (PyData.keyHash P x) (.str x a) v
def hT0:Obj:=hT 0 []
noncomputable def gK:Obj:=.mk .none none (.fields #[]) #[]
noncomputable def n_ (a b:Nat) (m:String) (n:Nat):Obj:=.mk (.type "frame") none .plain #[some (.ref a),some (.ref 3),some (.ref b),none,some (.str (.ofString m) n),none,some (.ref 0)]
noncomputable def pj (r:Nat):Obj:=.mk (.type "super") none (.fields #[.ref r,.ref r,.ref r]) #[]
noncomputable def hIs (r:Nat):Obj:=.mk (.type "builtin_function_or_method") none (.fields #[.builtin "object.__init_subclass__",.ref r]) #[]
noncomputable def k9:Obj:=.mk (.type "builtin_function_or_method") none (.fields #[.builtin "type.__prepare__",.type "type"]) #[]
noncomputable def pq (r:Nat):Obj:=.mk (.type "tuple") none (.seq #[.ref r]) #[]
noncomputable def zf:Str:="putback.errors"
noncomputable def rT:Str:="putback.kinds"
noncomputable def mB:Str:="putback.values"
noncomputable def og:Str:="putback.views"
noncomputable def rV:Str:="putback.fields"
noncomputable def qA:Str:="putback.tables"
noncomputable def iY:Str:="law_putback_k46_group"
noncomputable def Oa (x q:Str) (s:Stmt) (m:Value) (c:Nat):Obj:=.mk (.type "function") none (.func (.mk x q (i7 s) (.stmts (iI s)) (gp s) 3 [] .none .none .none m none (.ref c) .none 0)) #[]
noncomputable def Ob (x q:Str) (a l n k r f b e:Nat):Obj:=.mk (.type "code") none (.fields #[.str x a,.str q (a+1),.str (.ofString "/claim/cut.py") (a+2),.int l 0,.int n 0,.int 0 0,.int 0 0,.int k 0,.ref r,.bool true,.int f 0,.ref (r+1),.none,.ref (r+2),.ref (r+3),.ref (r+4),.int b 0,.int l 0,.str (.ofString "/claim/cut.py") e]) #[]
noncomputable def Oc (P:Params) (x:Str) (a:Nat) (v:Value):DictEntry:=.mk (PyData.keyHash P x) (.str x a) v
noncomputable def GW:Obj:=.mk .none none (.dict #[]) #[]
noncomputable def zg (P:Params):Obj:=.mk (.type "dict") none (.dict #[hE P "__name__" 165 (.str (.ofString "law_putback_k46_group") 581),hE P "__doc__" 166 .none,hE P "__package__" 167 .none,hE P "__loader__" 168 (.builtin "__main__.__loader__#opaque"),hE P "__spec__" 169 .none,hE P "__annotations__" 170 (.ref 6),hE P "__builtins__" 171 (.ref 4),hE P "__file__" 173 (.str (.ofString "/claim/cut.py") 172),hE P "__cached__" 174 .none,hE P "ViewError" 206 (.ref 24),hE P "NoKind" 222 (.ref 37),hE P "NoView" 247 (.ref 56),hE P "CantPut" 272 (.ref 75),hE P "is_plain" 281 (.ref 84),hE P "kind_at" 290 (.ref 91),hE P "sorted_fields" 300 (.ref 98),hE P "rows_of" 310 (.ref 105),hE P "misfit" 321 (.ref 112),hE P "record_misfit" 332 (.ref 119),hE P "has_just" 338 (.ref 124),hE P "rows_misfit" 350 (.ref 131),hE P "is_pair" 357 (.ref 138),hE P "tree_misfit" 368 (.ref 145),hE P "either_misfit" 378 (.ref 152),hE P "rank" 388 (.ref 159),hE P "in_order" 397 (.ref 166),hE P "ask_fit" 408 (.ref 173),hE P "ask_stands" 415 (.ref 180),hE P "View" 477 (.ref 225),hE P "fields_but" 485 (.ref 234),hE P "part_of" 495 (.ref 241),hE P "rest_of" 501 (.ref 246),hE P "with_field" 511 (.ref 253),hE P "Group" 580 (.ref 296),hE P "_law_next" 592 (.ref 305),hE P "_law_number" 602 (.ref 312),hE P "_law_word" 616 (.ref 319),hE P "_law_names" 633 (.ref 326),hE P "_law_plain" 641 (.ref 333),hE P "_law_fields" 647 (.ref 338),hE P "_law_rows_kind" 665 (.ref 345),hE P "_law_kind" 675 (.ref 352),hE P "_law_rank" 683 (.ref 359),hE P "_law_rows" 698 (.ref 366),hE P "_law_value" 704 (.ref 371),hE P "_law_alike" 710 (.ref 376),hE P "_law_way" 716 (.ref 381),hE P "_law_stranger" 722 (.ref 386),hE P "_law_pool" 728 (.ref 391),hE P "_law_some" 744 (.ref 398),hE P "_law_put" 757 (.ref 405),hE P "_law_same_end" 766 (.ref 412),hE P "_law_sorted" 775 (.ref 419),hE P "_law_plains" 781 (.ref 424),hE P "_law_ties" 796 (.ref 431),hE P "_law_group_kind" 802 (.ref 436),hE P "_law_group_inner" 808 (.ref 441),hE P "_law_group_shown" 814 (.ref 446),hE P "_law_less" 823 (.ref 453),hE P "_law_groups" 829 (.ref 458),hE P "_law_round" 835 (.ref 463),hE P "law" 844 (.ref 470)] 62) #[]
noncomputable def zh (P:Params):Obj:=.mk (.type "dict") none (.dict #[hE P "__module__" 196 (.str (.ofString "putback.errors") 187),hE P "__firstlineno__" 200 (.int 2 199),hE P "__static_attributes__" 201 (.ref 22),hE P "__weakref__" 203 (.ref 25),hE P "__doc__" 204 .none] 3) #[]
noncomputable def zi:Obj:=.mk (.type "type") none (.cls (.mk (.ofString "ViewError") [.type "ValueError"] [.ref 24,.type "ValueError",.type "Exception",.type "BaseException",.type "object"] 23 (.ofString "ViewError") true [] [.ref 37,.ref 56,.ref 75] false none false)) #[some (.ref 15),none,some (.str (.ofString "ViewError") 189),some (.str (.ofString "ViewError") 197),some (.builtin "ValueError.__new__"),some (.bool true)]
noncomputable def zj:Obj:=.mk (.type "getset_descriptor") none (.fields #[.str (.ofString "__weakref__") 202,.ref 24,.builtin "ExceptionGroup.__weakref__",.none]) #[]
noncomputable def zk (P:Params):Obj:=.mk (.type "dict") none (.dict #[hE P "__module__" 214 (.str (.ofString "putback.errors") 187),hE P "__firstlineno__" 218 (.int 4 217),hE P "__static_attributes__" 219 (.ref 35),hE P "__doc__" 220 .none] 2) #[]
noncomputable def zl:Obj:=.mk (.type "type") none (.cls (.mk (.ofString "NoKind") [.ref 24] [.ref 37,.ref 24,.type "ValueError",.type "Exception",.type "BaseException",.type "object"] 36 (.ofString "NoKind") true [] [] false none false)) #[some (.ref 28),none,some (.str (.ofString "NoKind") 207),some (.str (.ofString "NoKind") 215),some (.builtin "ValueError.__new__"),some (.bool true)]
def zm:Obj:=hC "__init__" "NoView.__init__" 235 8 2 3 47 240
def zo:Obj:=hF "__init__" "NoView.__init__" (h8 3 0) zf 187 52
noncomputable def zp (P:Params):Obj:=.mk (.type "dict") none (.dict #[hE P "__module__" 230 (.str (.ofString "putback.errors") 187),hE P "__firstlineno__" 234 (.int 6 233),hE P "__init__" 242 (.ref 53),hE P "__static_attributes__" 244 (.ref 54),hE P "__doc__" 245 .none] 2) #[]
noncomputable def zq:Obj:=.mk (.type "type") none (.cls (.mk (.ofString "NoView") [.ref 24] [.ref 56,.ref 24,.type "ValueError",.type "Exception",.type "BaseException",.type "object"] 55 (.ofString "NoView") true [] [] false none false)) #[some (.ref 40),none,some (.str (.ofString "NoView") 223),some (.str (.ofString "NoView") 231),some (.builtin "ValueError.__new__"),some (.bool true)]
def zr:Obj:=hC "__init__" "CantPut.__init__" 260 12 2 3 66 265
def zt:Obj:=hF "__init__" "CantPut.__init__" (h8 4 0) zf 187 71
noncomputable def zu (P:Params):Obj:=.mk (.type "dict") none (.dict #[hE P "__module__" 255 (.str (.ofString "putback.errors") 187),hE P "__firstlineno__" 259 (.int 10 258),hE P "__init__" 267 (.ref 72),hE P "__static_attributes__" 269 (.ref 73),hE P "__doc__" 270 .none] 2) #[]
noncomputable def zv:Obj:=.mk (.type "type") none (.cls (.mk (.ofString "CantPut") [.ref 24] [.ref 75,.ref 24,.type "ValueError",.type "Exception",.type "BaseException",.type "object"] 74 (.ofString "CantPut") true [] [] false none false)) #[some (.ref 59),none,some (.str (.ofString "CantPut") 248),some (.str (.ofString "CantPut") 256),some (.builtin "ValueError.__new__"),some (.bool true)]
def zw:Obj:=iM "is_plain" 275 15 1 3 78 279
def zy:Obj:=ib "is_plain" (top 6) rT 273 83
def zA:Obj:=iM "kind_at" 282 17 2 3 85 288
def zB:Obj:=ib "kind_at" (top 7) rT 273 90
def zC:Obj:=iM "sorted_fields" 291 22 1 3 92 298
def zD:Obj:=ib "sorted_fields" (top 8) rT 273 97
def zE:Obj:=iM "rows_of" 301 29 3 3 99 308
def zF:Obj:=ib "rows_of" (top 9) rT 273 104
def zG:Obj:=iM "misfit" 313 39 2 3 106 319
def zH:Obj:=ib "misfit" (top 11) mB 311 111
def zI:Obj:=iM "record_misfit" 322 52 2 3 113 330
def zJ:Obj:=ib "record_misfit" (top 12) mB 311 118
def zK:Obj:=jV "has_just" 333 60 2 3 120 336
def zL:Obj:=ib "has_just" (top 13) mB 311 123
def zM:Obj:=iM "rows_misfit" 339 62 2 3 125 348
def zN:Obj:=ib "rows_misfit" (top 14) mB 311 130
def zO:Obj:=iM "is_pair" 351 76 1 3 132 355
def zP:Obj:=ib "is_pair" (top 15) mB 311 137
def zQ:Obj:=iM "tree_misfit" 358 78 2 3 139 366
def zR:Obj:=ib "tree_misfit" (top 16) mB 311 144
def zS:Obj:=iM "either_misfit" 369 89 2 3 146 376
def zT:Obj:=ib "either_misfit" (top 17) mB 311 151
def zU:Obj:=iM "rank" 379 99 2 3 153 386
def zV:Obj:=ib "rank" (top 18) mB 311 158
def zW:Obj:=iM "in_order" 389 105 2 3 160 395
def zX:Obj:=ib "in_order" (top 19) mB 311 165
def zY:Obj:=iM "ask_fit" 400 108 2 3 167 406
def zZ:Obj:=ib "ask_fit" (top 21) og 398 172
def z6:Obj:=iM "ask_stands" 409 112 1 3 174 413
def z7:Obj:=ib "ask_stands" (top 22) og 398 179
def z8:Obj:=hC "behind" "View.behind" 428 117 2 3 188 433
def z9:Obj:=hF "behind" "View.behind" (h8 23 0) og 398 193
def z_:Obj:=hC "see" "View.see" 436 120 3 3 195 442
def Aa:Obj:=hF "see" "View.see" (h8 23 1) og 398 200
def Ab:Obj:=hC "put" "View.put" 445 123 4 3 202 452
def Ac:Obj:=hF "put" "View.put" (h8 23 2) og 398 207
def Ad:Obj:=hC "grade" "View.grade" 455 127 1 3 209 459
def Ae:Obj:=hF "grade" "View.grade" (h8 23 3) og 398 214
def Af:Obj:=hC "keeps" "View.keeps" 462 130 2 3 216 467
def Ag:Obj:=hF "keeps" "View.keeps" (h8 23 4) og 398 221
noncomputable def Ah (P:Params):Obj:=.mk (.type "dict") none (.dict #[hE P "__module__" 423 (.str (.ofString "putback.views") 398),hE P "__firstlineno__" 427 (.int 115 426),hE P "behind" 435 (.ref 194),hE P "see" 444 (.ref 201),hE P "put" 454 (.ref 208),hE P "grade" 461 (.ref 215),hE P "keeps" 469 (.ref 222),hE P "__static_attributes__" 470 (.ref 223),hE P "__dict__" 472 (.ref 226),hE P "__weakref__" 474 (.ref 227),hE P "__doc__" 475 .none] 4) #[]
noncomputable def Ai:Obj:=.mk (.type "type") none (.cls (.mk (.ofString "View") [.type "object"] [.ref 225,.type "object"] 224 (.ofString "View") true [] [.ref 296] false none false)) #[none,none,some (.str (.ofString "View") 416),some (.str (.ofString "View") 424),some (.builtin "object.__new__"),some (.bool true)]
noncomputable def Aj:Obj:=.mk (.type "getset_descriptor") none (.fields #[.str (.ofString "__dict__") 471,.ref 225,.builtin "function.__dict__",.builtin "function.__dict__#set"]) #[]
noncomputable def Ak:Obj:=.mk (.type "getset_descriptor") none (.fields #[.str (.ofString "__weakref__") 473,.ref 225,.builtin "ExceptionGroup.__weakref__",.none]) #[]
def Al:Obj:=jV "fields_but" 480 133 2 3 230 483
def Am:Obj:=ib "fields_but" (top 25) rV 478 233
def An:Obj:=iM "part_of" 486 135 2 3 235 493
def Ao:Obj:=ib "part_of" (top 26) rV 478 240
def Ap:Obj:=jV "rest_of" 496 140 2 3 242 499
def Aq:Obj:=ib "rest_of" (top 27) rV 478 245
def Ar:Obj:=iM "with_field" 502 142 3 3 247 509
def As:Obj:=ib "with_field" (top 28) rV 478 252
def Au:Obj:=hC "__init__" "Group.__init__" 526 149 3 3 261 532
def Av:Obj:=hF "__init__" "Group.__init__" (h8 30 0) qA 512 266
def Aw:Obj:=hC "behind" "Group.behind" 535 153 2 3 268 543
def Ax:Obj:=hF "behind" "Group.behind" (h8 30 1) qA 512 273
def Ay:Obj:=ze "see" "Group.see" 546 161 3 3 275 549
def Az:Obj:=hF "see" "Group.see" (h8 30 2) qA 512 278
def AB:Obj:=hC "put" "Group.put" 552 167 4 3 280 564
def AD:Obj:=hF "put" "Group.put" (h8 30 3) qA 512 285
def AE:Obj:=hC "keeps" "Group.keeps" 567 179 2 3 287 572
def AG:Obj:=hF "keeps" "Group.keeps" (h8 30 4) qA 512 292
noncomputable def AH (P:Params):Obj:=.mk (.type "dict") none (.dict #[hE P "__module__" 521 (.str (.ofString "putback.tables") 512),hE P "__firstlineno__" 525 (.int 147 524),hE P "__init__" 534 (.ref 267),hE P "behind" 545 (.ref 274),hE P "see" 551 (.ref 279),hE P "put" 566 (.ref 286),hE P "keeps" 574 (.ref 293),hE P "__static_attributes__" 577 (.ref 294),hE P "__doc__" 578 .none] 2) #[]
noncomputable def AI:Obj:=.mk (.type "type") none (.cls (.mk (.ofString "Group") [.ref 225] [.ref 296,.ref 225,.type "object"] 295 (.ofString "Group") true [] [] false none false)) #[some (.ref 254),none,some (.str (.ofString "Group") 514),some (.str (.ofString "Group") 522),some (.builtin "object.__new__"),some (.bool true)]
def AJ:Obj:=iM "_law_next" 583 182 2 3 299 590
def AK:Obj:=ib "_law_next" (top 32) iY 581 304
def AM:Obj:=iM "_law_number" 593 189 2 3 306 600
def AN:Obj:=ib "_law_number" (top 33) iY 581 311
def AO:Obj:=iM "_law_word" 603 197 2 3 313 614
def AQ:Obj:=ib "_law_word" (top 34) iY 581 318
def AR:Obj:=iM "_law_names" 617 209 3 3 320 631
def AU:Obj:=ib "_law_names" (top 35) iY 581 325
def AV:Obj:=iM "_law_plain" 634 223 2 3 327 639
def AW:Obj:=ib "_law_plain" (top 36) iY 581 332
def AX:Obj:=jV "_law_fields" 642 227 4 3 334 645
def AY:Obj:=ib "_law_fields" (top 37) iY 581 337
def AZ:Obj:=iM "_law_rows_kind" 648 230 4 3 339 663
def A0:Obj:=ib "_law_rows_kind" (top 38) iY 581 344
def A1:Obj:=iM "_law_kind" 666 245 3 3 346 673
def A2:Obj:=ib "_law_kind" (top 39) iY 581 351
def A4:Obj:=iM "_law_rank" 676 256 2 3 353 681
def A5:Obj:=ib "_law_rank" (top 40) iY 581 358
def A6:Obj:=iM "_law_rows" 684 260 4 3 360 696
def A7:Obj:=ib "_law_rows" (top 41) iY 581 365
def A8:Obj:=jV "_law_value" 699 269 4 3 367 702
def A9:Obj:=ib "_law_value" (top 42) iY 581 370
def A_:Obj:=jV "_law_alike" 705 287 3 3 372 708
def Ba:Obj:=ib "_law_alike" (top 43) iY 581 375
def Bb:Obj:=jV "_law_way" 711 315 2 3 377 714
def Bc:Obj:=ib "_law_way" (top 44) iY 581 380
def Bd:Obj:=jV "_law_stranger" 717 319 3 3 382 720
def Be:Obj:=ib "_law_stranger" (top 45) iY 581 385
def Bf:Obj:=jV "_law_pool" 723 323 4 3 387 726
def Bg:Obj:=ib "_law_pool" (top 46) iY 581 390
def Bh:Obj:=iM "_law_some" 729 331 5 3 392 742
def Bi:Obj:=ib "_law_some" (top 47) iY 581 397
def Bj:Obj:=iM "_law_put" 745 342 4 3 399 755
def Bk:Obj:=ib "_law_put" (top 48) iY 581 404
def Bl:Obj:=iM "_law_same_end" 758 352 3 3 406 764
def Bm:Obj:=ib "_law_same_end" (top 49) iY 581 411
def Bo:Obj:=iM "_law_sorted" 767 358 2 3 413 773
def Bp:Obj:=ib "_law_sorted" (top 50) iY 581 418
def Bq:Obj:=jV "_law_plains" 776 360 1 3 420 779
def Br:Obj:=ib "_law_plains" (top 51) iY 581 423
def Bs:Obj:=iM "_law_ties" 782 362 5 3 425 794
def Bt:Obj:=ib "_law_ties" (top 52) iY 581 430
def Bu:Obj:=jV "_law_group_kind" 797 371 3 3 432 800
def Bv:Obj:=ib "_law_group_kind" (top 53) iY 581 435
def Bw:Obj:=jV "_law_group_inner" 803 379 2 3 437 806
def Bx:Obj:=ib "_law_group_inner" (top 54) iY 581 440
def By:Obj:=jV "_law_group_shown" 809 384 3 3 442 812
def Bz:Obj:=ib "_law_group_shown" (top 55) iY 581 445
def BA:Obj:=iM "_law_less" 815 388 2 3 447 821
def BB:Obj:=ib "_law_less" (top 56) iY 581 452
def BC:Obj:=jV "_law_groups" 824 392 3 3 454 827
def BD:Obj:=ib "_law_groups" (top 57) iY 581 457
def BE:Obj:=jV "_law_round" 830 401 2 3 459 833
def BF:Obj:=ib "_law_round" (top 58) iY 581 462
def BG:Obj:=iM "law" 836 431 1 3 464 842
def BH:Obj:=ib "law" (top 59) iY 581 469
noncomputable def GX (P:Params):Obj:=.mk (.type "dict") none (.dict #[hE P "__name__" 165 (.str (.ofString "putback.fields") 478),hE P "__doc__" 166 .none,hE P "__package__" 167 .none,hE P "__loader__" 168 (.builtin "__main__.__loader__#opaque"),hE P "__spec__" 169 .none,hE P "__annotations__" 170 (.ref 6),hE P "__builtins__" 171 (.ref 4),hE P "__file__" 173 (.str (.ofString "/claim/cut.py") 172),hE P "__cached__" 174 .none,hE P "ViewError" 206 (.ref 24),hE P "NoKind" 222 (.ref 37),hE P "NoView" 247 (.ref 56),hE P "CantPut" 272 (.ref 75),hE P "is_plain" 281 (.ref 84),hE P "kind_at" 290 (.ref 91),hE P "sorted_fields" 300 (.ref 98),hE P "rows_of" 310 (.ref 105),hE P "misfit" 321 (.ref 112),hE P "record_misfit" 332 (.ref 119),hE P "has_just" 338 (.ref 124),hE P "rows_misfit" 350 (.ref 131),hE P "is_pair" 357 (.ref 138),hE P "tree_misfit" 368 (.ref 145),hE P "either_misfit" 378 (.ref 152),hE P "rank" 388 (.ref 159),hE P "in_order" 397 (.ref 166),hE P "ask_fit" 408 (.ref 173),hE P "ask_stands" 415 (.ref 180),hE P "View" 477 (.ref 225),hE P "fields_but" 485 (.ref 234)] 30) #[]
noncomputable def GY (P:Params):List Obj:=hT0::hI [(2,0,20),(4,0,33),(6,0,45),(10,0,64),(15,0,83),(17,0,90),(22,0,97),(29,0,104),(39,0,111),(52,0,118),(60,0,123),(62,0,130),(76,0,137),(78,0,144),(89,0,151),(99,0,158),(105,0,165),(108,0,172),(112,0,179),(115,0,186),(133,0,233)]::hK "<module>" 182 1 11 185::n_ 13 3 "__main__" 164:: .mk (.type "tuple") none (.seq #[.type "ValueError"]) #[]::k9:: .mk (.type "dict") none (.dict #[hE P "__module__" 196 (.str (.ofString "putback.errors") 187),hE P "__qualname__" 198 (.str (.ofString "ViewError") 197),hE P "__firstlineno__" 200 (.int 2 199),hE P "__static_attributes__" 201 (.ref 22)] 4) #[]::hT0::gK::hK "ViewError" 191 2 18 194::n_ 20 17 "putback.errors" 187::hT0::zh P::zi::zj::pj 24::hIs 24::pq 24::k9:: .mk (.type "dict") none (.dict #[hE P "__module__" 214 (.str (.ofString "putback.errors") 187),hE P "__qualname__" 216 (.str (.ofString "NoKind") 215),hE P "__firstlineno__" 218 (.int 4 217),hE P "__static_attributes__" 219 (.ref 35)] 4) #[]::hT0::gK::hK "NoKind" 209 4 31 212::n_ 33 30 "putback.errors" 187::hT0::zk P::zl::pj 37::hIs 37::pq 24::k9:: .mk (.type "dict") none (.dict #[hE P "__module__" 230 (.str (.ofString "putback.errors") 187),hE P "__qualname__" 232 (.str (.ofString "NoView") 231),hE P "__firstlineno__" 234 (.int 6 233),hE P "__init__" 242 (.ref 53),hE P "__static_attributes__" 244 (.ref 54)] 5) #[]::hT0::hI [(8,4,52)]::hK "NoView" 225 6 43 228::n_ 45 42 "putback.errors" 187::hT0::gK::hT 238 ["self","way"]::hT0::hR "__init__" "NoView.__init__" (h8 3 0)::zm::zo::hT 243 ["way"]::zp P::zq::pj 56::hIs 56::pq 24::k9:: .mk (.type "dict") none (.dict #[hE P "__module__" 255 (.str (.ofString "putback.errors") 187),hE P "__qualname__" 257 (.str (.ofString "CantPut") 256),hE P "__firstlineno__" 259 (.int 10 258),hE P "__init__" 267 (.ref 72),hE P "__static_attributes__" 269 (.ref 73)] 5) #[]::hT0::hI [(12,4,71)]::hK "CantPut" 250 10 62 253::n_ 64 61 "putback.errors" 187::hT0::gK::hT 263 ["self","way"]::hT0::hR "__init__" "CantPut.__init__" (h8 4 0)::zr::zt::hT 268 ["way"]::zu P::zv::pj 75::hIs 75::hT0::gK::hT 278 ["kind"]::hT0::hX "is_plain" (top 6)::zw::zy::hT0::gK::hT 285 ["fields","name","pair"]::hT0::hX "kind_at" (top 7)::zA::zB::hT0::gK::hT 294 ["pairs","fields","number","name"]::hT0::hX "sorted_fields" (top 8)::zC::zD::hT0::gK::hT 304 ["key","by","pairs","fields"]::hT0::hX "rows_of" (top 9)::zE::zF::hT0::gK::hT 316 ["kind","value","form"]::hT0::hX "misfit" (top 11)::zG::zH::hT0::gK::hT 325 ["fields","record","name","inner","place"]::hT0::hX "record_misfit" (top 12)::zI::zJ::hT0::gK::hX "has_just" (top 13)::zK::zL::hT0::gK::hT 342 ["kind","rows","earlier","number","row","place"]::hT0::hX "rows_misfit" (top 14)::zM::zN::hT0::gK::hT 354 ["value"]::hT0::hX "is_pair" (top 15)::zO::zP::hT0::gK::hT 361 ["kind","tree","place","number","arm"]::hT0::hX "tree_misfit" (top 16)::zQ::zR::hT0::gK::hT 372 ["fields","value","inner","place"]::hT0::hX "either_misfit" (top 17)::zS::zT::hT0::gK::hT 382 ["kind","row","key","by"]::hT0::hX "rank" (top 18)::zU::zV::hT0::gK::hT 392 ["kind","rows"]::hT 394 ["kind"]::hX "in_order" (top 19)::zW::zX::hT0::gK::hT 403 ["kind","seen","place"]::hT0::hX "ask_fit" (top 21)::zY::zZ::hT0::gK::hT 412 ["stands"]::hT0::hX "ask_stands" (top 22)::z6::z7::hT0::k9:: .mk (.type "dict") none (.dict #[hE P "__module__" 423 (.str (.ofString "putback.views") 398),hE P "__qualname__" 425 (.str (.ofString "View") 424),hE P "__firstlineno__" 427 (.int 115 426),hE P "behind" 435 (.ref 194),hE P "see" 444 (.ref 201),hE P "put" 454 (.ref 208),hE P "grade" 461 (.ref 215),hE P "keeps" 469 (.ref 222),hE P "__static_attributes__" 470 (.ref 223)] 9) #[]::hT0::hI [(117,4,193),(120,4,200),(123,4,207),(127,4,214),(130,4,221)]::hK "View" 418 115 184 421::n_ 186 183 "putback.views" 398::hT0::gK::hT 431 ["self","kind"]::hT0::hR "behind" "View.behind" (h8 23 0)::z8::z9::hT0::gK::hT 439 ["self","kind","source"]::hT0::hR "see" "View.see" (h8 23 1)::z_::Aa::hT0::gK::hT 448 ["self","kind","source","seen"]::hT0::hR "put" "View.put" (h8 23 2)::Ab::Ac::hT0::gK::hT 458 ["self"]::hT0::hR "grade" "View.grade" (h8 23 3)::Ad::Ae::hT0::gK::hT 465 ["self","name"]::hT0::hR "keeps" "View.keeps" (h8 23 4)::Af::Ag::hT0::Ah P:: .mk (.type "type") none (.cls (.mk (.ofString "View") [.type "object"] [.ref 225,.type "object"] 224 (.ofString "View") true [] [] false none false)) #[none,none,some (.str (.ofString "View") 416),some (.str (.ofString "View") 424),some (.builtin "object.__new__"),some (.bool true)]::Aj::Ak::pj 225::hIs 225::hT0::gK::hX "fields_but" (top 25)::Al::Am::[]
noncomputable def endL (P:Params):List Obj:=hT0::gK::hT 489 ["record","names","part","name"]::hT0::hX "part_of" (top 26)::An::Ao::hT0::gK::hX "rest_of" (top 27)::Ap::Aq::hT0::gK::hT 505 ["record","name","value","fresh"]::hT0::hX "with_field" (top 28)::Ar::As::pq 225::k9:: .mk (.type "dict") none (.dict #[hE P "__module__" 521 (.str (.ofString "putback.tables") 512),hE P "__qualname__" 523 (.str (.ofString "Group") 522),hE P "__firstlineno__" 525 (.int 147 524),hE P "__init__" 534 (.ref 267),hE P "behind" 545 (.ref 274),hE P "see" 551 (.ref 279),hE P "put" 566 (.ref 286),hE P "keeps" 574 (.ref 293),hE P "__static_attributes__" 577 (.ref 294)] 9) #[]::hT0::hI [(149,4,266),(153,4,273),(161,4,278),(167,4,285),(179,4,292)]::hK "Group" 516 147 257 519::n_ 259 256 "putback.tables" 512::hT0::gK::hT 529 ["self","field","into"]::hT0::hR "__init__" "Group.__init__" (h8 30 0)::Au::Av::hT0::gK::hT 538 ["self","kind","there","by","inner"]::hT0::hR "behind" "Group.behind" (h8 30 1)::Aw::Ax::hT0::gK::hR "see" "Group.see" (h8 30 2)::Ay::Az::hT0::gK::hT 555 ["self","kind","source","seen","found","number","group","place","row"]::hT0::hR "put" "Group.put" (h8 30 3)::AB::AD::hT0::gK::hT 570 ["self","name"]::hT0::hR "keeps" "Group.keeps" (h8 30 4)::AE::AG::hT 575 ["field","into"]::AH P::AI::pj 296::hIs 296::hT0::gK::hT 586 ["_law_script","_law_at","_law_cell","_law_m"]::hT0::hX "_law_next" (top 32)::AJ::AK::hT0::gK::hT 596 ["_law_script","_law_at","_law_m","_law_cell"]::hT0::hX "_law_number" (top 33)::AM::AN::hT0::gK::hT 606 ["_law_script","_law_at","_law_signs","_law_m","_law_many","_law_word_here","_law_k","_law_place"]::hT0::hX "_law_word" (top 34)::AO::AQ::hT0::gK::hT 620 ["_law_script","_law_at","_law_many","_law_letters","_law_m","_law_step","_law_stem","_law_cut","_law_names_here","_law_k","_law_sign"]::hT0::hX "_law_names" (top 35)::AR::AU::hT0::gK::hT 637 ["_law_script","_law_at"]::hT0::hX "_law_plain" (top 36)::AV::AW::hT0::gK::hX "_law_fields" (top 37)::AX::AY::hT0::gK::hT 651 ["_law_script","_law_at","_law_many","_law_deep","_law_names_here","_law_m","_law_lead","_law_by","_law_fields_here","_law_k","_law_kind_here","_law_name"]::hT0::hX "_law_rows_kind" (top 38)::AZ::A0::hT0::gK::hT 669 ["_law_script","_law_at","_law_deep","_law_m"]::hT0::hX "_law_kind" (top 39)::A1::A2::hT0::gK::hT 679 ["_law_kind_here","_law_row"]::hT0::hX "_law_rank" (top 40)::A4::A5::hT0::gK::hT 687 ["_law_script","_law_at","_law_kind_here","_law_room","_law_rows_here","_law_seen","_law_k","_law_row"]::hT 695 ["_law_kind_here"]::hX "_law_rows" (top 41)::A6::A7::hT0::gK::hX "_law_value" (top 42)::A8::A9::hT0::gK::hX "_law_alike" (top 43)::A_::Ba::hT0::gK::hX "_law_way" (top 44)::Bb::Bc::hT0::gK::hX "_law_stranger" (top 45)::Bd::Be::hT0::gK::hX "_law_pool" (top 46)::Bf::Bg::hT0::gK::hT 732 ["_law_script","_law_at","_law_kind_here","_law_pool_here","_law_room","_law_rows_here","_law_one","_law_m","_law_row"]::hT 741 ["_law_kind_here"]::hX "_law_some" (top 47)::Bh::Bi::hT0::gK::hT 748 ["_law_view","_law_kind_here","_law_source","_law_seen","_law_way_here","_law_made","e"]::hT0::hX "_law_put" (top 48)::Bj::Bk::hT0::gK::hT 761 ["_law_kind_here","_law_found","_law_due"]::hT0::hX "_law_same_end" (top 49)::Bl::Bm::hT0::gK::hT 770 ["_law_kind_here","_law_rows_here"]::hT 772 ["_law_kind_here"]::hX "_law_sorted" (top 50)::Bo::Bp::hT0::gK::hX "_law_plains" (top 51)::Bq::Br::hT0::gK::hT 785 ["_law_script","_law_at","_law_kind_here","_law_field","_law_rows_here","_law_made","_law_row","_law_new","_law_m"]::hT0::hX "_law_ties" (top 52)::Bs::Bt::hT0::gK::hX "_law_group_kind" (top 53)::Bu::Bv::hT0::gK::hX "_law_group_inner" (top 54)::Bw::Bx::hT0::gK::hX "_law_group_shown" (top 55)::By::Bz::hT0::gK::hT 818 ["_law_row","_law_field","_law_made"]::hT0::hX "_law_less" (top 56)::BA::BB::hT0::gK::hX "_law_groups" (top 57)::BC::BD::hT0::gK::hX "_law_round" (top 58)::BE::BF::hT0::gK::hT 839 ["_law_script","_law_at","_law_k"]::hT0::hX "law" (top 59)::BG::BH::[]
noncomputable def GZ (P:Params):List (Nat × Obj):=(nat_lit 3,zg P)::(nat_lit 12,hI [(2,0,20),(4,0,33),(6,0,45),(10,0,64),(15,0,83),(17,0,90),(22,0,97),(29,0,104),(39,0,111),(52,0,118),(60,0,123),(62,0,130),(76,0,137),(78,0,144),(89,0,151),(99,0,158),(105,0,165),(108,0,172),(112,0,179),(115,0,186),(133,0,233),(135,0,240),(140,0,245),(142,0,252),(147,0,259),(182,0,304),(189,0,311),(197,0,318),(209,0,325),(223,0,332),(227,0,337),(230,0,344),(245,0,351),(256,0,358),(260,0,365),(269,0,370),(287,0,375),(315,0,380),(319,0,385),(323,0,390),(331,0,397),(342,0,404),(352,0,411),(358,0,418),(360,0,423),(362,0,430),(371,0,435),(379,0,440),(384,0,445),(388,0,452),(392,0,457),(401,0,462),(431,0,469)])::(nat_lit 225,Ai)::[]
end
noncomputable def KK:PySem.Params->W.Frag:=λP=>(nat_lit 2,GW)::(nat_lit 3,zg P)::(nat_lit 23,zh P)::(nat_lit 24,zi)::(nat_lit 25,zj)::(nat_lit 36,zk P)::(nat_lit 37,zl)::(nat_lit 52,zm)::(nat_lit 53,zo)::(nat_lit 55,zp P)::(nat_lit 56,zq)::(nat_lit 71,zr)::(nat_lit 72,zt)::(nat_lit 74,zu P)::(nat_lit 75,zv)::(nat_lit 83,zw)::(nat_lit 84,zy)::(nat_lit 90,zA)::(nat_lit 91,zB)::(nat_lit 97,zC)::(nat_lit 98,zD)::(nat_lit 104,zE)::(nat_lit 105,zF)::(nat_lit 111,zG)::(nat_lit 112,zH)::(nat_lit 118,zI)::(nat_lit 119,zJ)::(nat_lit 123,zK)::(nat_lit 124,zL)::(nat_lit 130,zM)::(nat_lit 131,zN)::(nat_lit 137,zO)::(nat_lit 138,zP)::(nat_lit 144,zQ)::(nat_lit 145,zR)::(nat_lit 151,zS)::(nat_lit 152,zT)::(nat_lit 158,zU)::(nat_lit 159,zV)::(nat_lit 165,zW)::(nat_lit 166,zX)::(nat_lit 172,zY)::(nat_lit 173,zZ)::(nat_lit 179,z6)::(nat_lit 180,z7)::(nat_lit 193,z8)::(nat_lit 194,z9)::(nat_lit 200,z_)::(nat_lit 201,Aa)::(nat_lit 207,Ab)::(nat_lit 208,Ac)::(nat_lit 214,Ad)::(nat_lit 215,Ae)::(nat_lit 221,Af)::(nat_lit 222,Ag)::(nat_lit 224,Ah P)::(nat_lit 225,Ai)::(nat_lit 226,Aj)::(nat_lit 227,Ak)::(nat_lit 233,Al)::(nat_lit 234,Am)::(nat_lit 240,An)::(nat_lit 241,Ao)::(nat_lit 245,Ap)::(nat_lit 246,Aq)::(nat_lit 252,Ar)::(nat_lit 253,As)::(nat_lit 266,Au)::(nat_lit 267,Av)::(nat_lit 273,Aw)::(nat_lit 274,Ax)::(nat_lit 278,Ay)::(nat_lit 279,Az)::(nat_lit 285,AB)::(nat_lit 286,AD)::(nat_lit 292,AE)::(nat_lit 293,AG)::(nat_lit 295,AH P)::(nat_lit 296,AI)::(nat_lit 304,AJ)::(nat_lit 305,AK)::(nat_lit 311,AM)::(nat_lit 312,AN)::(nat_lit 318,AO)::(nat_lit 319,AQ)::(nat_lit 325,AR)::(nat_lit 326,AU)::(nat_lit 332,AV)::(nat_lit 333,AW)::(nat_lit 337,AX)::(nat_lit 338,AY)::(nat_lit 344,AZ)::(nat_lit 345,A0)::(nat_lit 351,A1)::(nat_lit 352,A2)::(nat_lit 358,A4)::(nat_lit 359,A5)::(nat_lit 365,A6)::(nat_lit 366,A7)::(nat_lit 370,A8)::(nat_lit 371,A9)::(nat_lit 375,A_)::(nat_lit 376,Ba)::(nat_lit 380,Bb)::(nat_lit 381,Bc)::(nat_lit 385,Bd)::(nat_lit 386,Be)::(nat_lit 390,Bf)::(nat_lit 391,Bg)::(nat_lit 397,Bh)::(nat_lit 398,Bi)::(nat_lit 404,Bj)::(nat_lit 405,Bk)::(nat_lit 411,Bl)::(nat_lit 412,Bm)::(nat_lit 418,Bo)::(nat_lit 419,Bp)::(nat_lit 423,Bq)::(nat_lit 424,Br)::(nat_lit 430,Bs)::(nat_lit 431,Bt)::(nat_lit 435,Bu)::(nat_lit 436,Bv)::(nat_lit 440,Bw)::(nat_lit 441,Bx)::(nat_lit 445,By)::(nat_lit 446,Bz)::(nat_lit 452,BA)::(nat_lit 453,BB)::(nat_lit 457,BC)::(nat_lit 458,BD)::(nat_lit 462,BE)::(nat_lit 463,BF)::(nat_lit 469,BG)::(nat_lit 470,BH)::[]
noncomputable def m7:List Nat:=nat_lit 2::nat_lit 3::nat_lit 23::nat_lit 24::nat_lit 25::nat_lit 36::nat_lit 37::nat_lit 52::nat_lit 53::nat_lit 55::nat_lit 56::nat_lit 71::nat_lit 72::nat_lit 74::nat_lit 75::nat_lit 83::nat_lit 84::nat_lit 90::nat_lit 91::nat_lit 97::nat_lit 98::nat_lit 104::nat_lit 105::nat_lit 111::nat_lit 112::nat_lit 118::nat_lit 119::nat_lit 123::nat_lit 124::nat_lit 130::nat_lit 131::nat_lit 137::nat_lit 138::nat_lit 144::nat_lit 145::nat_lit 151::nat_lit 152::nat_lit 158::nat_lit 159::nat_lit 165::nat_lit 166::nat_lit 172::nat_lit 173::nat_lit 179::nat_lit 180::nat_lit 193::nat_lit 194::nat_lit 200::nat_lit 201::nat_lit 207::nat_lit 208::nat_lit 214::nat_lit 215::nat_lit 221::nat_lit 222::nat_lit 224::nat_lit 225::nat_lit 226::nat_lit 227::nat_lit 233::nat_lit 234::nat_lit 240::nat_lit 241::nat_lit 245::nat_lit 246::nat_lit 252::nat_lit 253::nat_lit 266::nat_lit 267::nat_lit 273::nat_lit 274::nat_lit 278::nat_lit 279::nat_lit 285::nat_lit 286::nat_lit 292::nat_lit 293::nat_lit 295::nat_lit 296::nat_lit 304::nat_lit 305::nat_lit 311::nat_lit 312::nat_lit 318::nat_lit 319::nat_lit 325::nat_lit 326::nat_lit 332::nat_lit 333::nat_lit 337::nat_lit 338::nat_lit 344::nat_lit 345::nat_lit 351::nat_lit 352::nat_lit 358::nat_lit 359::nat_lit 365::nat_lit 366::nat_lit 370::nat_lit 371::nat_lit 375::nat_lit 376::nat_lit 380::nat_lit 381::nat_lit 385::nat_lit 386::nat_lit 390::nat_lit 391::nat_lit 397::nat_lit 398::nat_lit 404::nat_lit 405::nat_lit 411::nat_lit 412::nat_lit 418::nat_lit 419::nat_lit 423::nat_lit 424::nat_lit 430::nat_lit 431::nat_lit 435::nat_lit 436::nat_lit 440::nat_lit 441::nat_lit 445::nat_lit 446::nat_lit 452::nat_lit 453::nat_lit 457::nat_lit 458::nat_lit 462::nat_lit 463::nat_lit 469::nat_lit 470::[]
noncomputable def BI (P:PySem.Params):W.BT:=uM 11 (GY P) ((uN P).ins 3 (GX P))
noncomputable def G3 (P:PySem.Params):W.BT:=y8 (GZ P) (uM 235 (endL P) (BI P))
noncomputable def qv:PySem.Program:={ PySem.Challenge.pw_putback_k46_group with main:={ (PySem.Challenge.pw_putback_k46_group).main with body:=top 1::top 2::top 3::top 4::top 6::top 7::top 8::top 9::top 11::top 12::top 13::top 14::top 15::top 16::top 17::top 18::top 19::top 21::top 22::top 23::top 25::top 26::top 27::top 28::top 30::top 32::top 33::top 34::top 35::top 36::top 37::top 38::top 39::top 40::top 41::top 42::top 43::top 44::top 45::top 46::top 47::top 48::top 49::top 50::top 51::top 52::top 53::top 54::top 55::top 56::top 57::top 58::top 59::[] } }
theorem oh (P:PySem.Params):m7=(KK P).map (·.1):=by kernel_rfl
noncomputable def BJ (w:PySem.World) (os:PySem.OsState):W.SharedT:=⟨BI w.params,235,(W.boot_heap w.params).life,#[],W.boot_drawn,486,os⟩
noncomputable def oi (w:PySem.World) (os:PySem.OsState):W.SharedT:=⟨G3 w.params,471,(W.boot_heap w.params).life,#[],W.boot_drawn,845,os⟩
noncomputable def uO:List PySem.Stmt:=W.behindTheImports (W.OpenLaw.row PySem.Challenge.rw_putback_k46_group).prog
noncomputable def rW:PySem.Env:={ scope:=((W.OpenLaw.row PySem.Challenge.rw_putback_k46_group).prog).main.scope,locals:=PySem.mainNs,globals:=PySem.mainNs,cells:=[],code:=.ref 13,frame:=some 14 }
noncomputable def qB:PySem.Code:=.body (W.behindTheImports (W.OpenLaw.row PySem.Challenge.rw_putback_k46_group).prog) rW
open W PyProof.Rows in
theorem G4:∀w os,rR (W.OpenLaw.row PySem.Challenge.rw_putback_k46_group).prog w 11 (some (.ref 6)) rW qB ⟨0,0,0,0⟩ (uO.take 26) 12 1 5000 (rS w os)=some (⟨lK lL (.body (behindTheImports (W.OpenLaw.row PySem.Challenge.rw_putback_k46_group).prog) rW),qB,⟨0,0,0,0⟩,[topFrame ⟨0,0,0,0⟩]⟩,qB,qB,BJ w os,⟨133,0,134,60⟩):=by
 intro w os
 kernel_rfl
open W PyProof.Rows in
theorem G5:∀w os,n9 (W.OpenLaw.row PySem.Challenge.rw_putback_k46_group).prog w 11 (some (.ref 6)) 6000 (BJ w os) (restOf (uO.drop 26) rW qB ⟨133,0,134,60⟩ [topFrame ⟨0,0,0,0⟩])=some (oi w os):=by
 intro w os
 kernel_rfl
open W PyProof.Rows in
theorem G6:∀w os,(staticsOk (importedModules ((W.OpenLaw.row PySem.Challenge.rw_putback_k46_group).prog).main.body) (boot_heap w.params) (oi w os).abs.heap && namesBound (W.OpenLaw.row PySem.Challenge.rw_putback_k46_group).prog (oi w os).abs.heap && gensDone (oi w os).abs && laidKept (boot_heap w.params) (oi w os).abs.heap)=true:=by
 intro w os
 kernel_rfl
open W PyProof.Rows in
theorem G7:∀w os,seenQ qv [] (importedModules ((W.OpenLaw.row PySem.Challenge.rw_putback_k46_group).prog).main.body) (λs=>xlAt qv [] s && recOk (RowW.records (W.OpenRow.toRowW (W.OpenLaw.row PySem.Challenge.rw_putback_k46_group))) s) true (oi w os).abs=openGood qv []:=by
 intro w os
 kernel_rfl
open W PyProof.Rows in
theorem G8:∀w os,Hook.obs (W.kmHook Pb.KK Pb.m7 Pb.oh [93,161,361,414,465]) (oi w os).abs=Hook.val (W.kmHook Pb.KK Pb.m7 Pb.oh [93,161,361,414,465]) w:=by
 intro w os
 kernel_rfl
open W PyProof.Rows in
theorem said:PySem.Challenge.rw_putback_k46_group.wellSaid=true:=by
 delta OpenLaw.wellSaid OpenRow.wellSaid OpenRow.partSaid looksOpen
 repeat' (with_reducible refine look_both ?_ ?_)
 all_goals kernel_rfl
end Pb
namespace L2
open Spec PyProof.Rows
noncomputable abbrev Key:=Sum Int Str
noncomputable def m8:Key->Value->Bool
 | .inl k,v=>Value.isInt k v
 | .inr x,v=>Value.isStrOf x v
noncomputable def G9 (w:World):Key->Int
 | .inl k=>hashInt k
 | .inr x=>hashStr w x
theorem l_:∀{k:Key}{v:Value},m8 k v=true->(∃i t,k=Sum.inl i/\v=Value.int i t)\/(∃x t,k=Sum.inr x/\v=Value.str x t)
 | .inl i,v,h=>by
   obtain⟨t,e⟩:=Value.isInt_shape (k:=i) (v:=v) h;exact .inl ⟨i,t,rfl,e⟩
 | .inr x,v,h=>by
   obtain⟨t,e⟩:=Value.isStrOf_shape (x:=x) (v:=v) h;exact .inr ⟨x,t,rfl,e⟩
theorem G_ (i:Int)(t:Tok):m8 (.inl i) (.int i t)=true:=by simp[m8,Value.isInt]
theorem Ha (x:Str)(t:Tok):m8 (.inr x) (.str x t)=true:=by simp[m8,Value.isStrOf]
theorem Hb (a b:Int):decide ((Sum.inl a:Key)=Sum.inl b)=(a == b):=by
 by_cases e:a=b
 . subst e;simp
 . have h:¬(Sum.inl a:Key)=Sum.inl b:=λq=>e (Sum.inl.inj q);rw[decide_eq_false h];exact(beq_eq_false_iff_ne.mpr e).symm
theorem Hc (a b:Str):decide ((Sum.inr a:Key)=Sum.inr b)=decide (a=b):=by
 by_cases e:a=b
 . subst e;simp
 . have h:¬(Sum.inr a:Key)=Sum.inr b:=λq=>e (Sum.inr.inj q);rw[decide_eq_false h,decide_eq_false e]
theorem Hd (a:Int)(b:Str):decide ((Sum.inl a:Key)=Sum.inr b)=false:=decide_eq_false (λq=>nomatch q)
theorem He (a:Str)(b:Int):decide ((Sum.inr a:Key)=Sum.inl b)=false:=decide_eq_false (λq=>nomatch q)
noncomputable def je (prog:Program) (w:World):PySem.KeyKind prog w Key where
 is:=m8
 hash:=G9 w
 inj:=λv a b U L=>by
  rcases l_ U with⟨i,t,rfl,rfl⟩|⟨x,t,rfl,rfl⟩
  . rcases l_ L with⟨j,u,rfl,e⟩|⟨y,u,rfl,e⟩
    . injection e with I _;rw[I]
    . exact nomatch e
  . rcases l_ L with⟨j,u,rfl,e⟩|⟨y,u,rfl,e⟩
    . exact nomatch e
    . injection e with I _;rw[I]
 byValue:=λk v h=>by
  rcases l_ h with⟨i,t,rfl,rfl⟩|⟨x,t,rfl,rfl⟩ <;> rfl
 pyHash:=λJ h=>by
  rcases l_ J with⟨i,t,rfl,rfl⟩|⟨x,t,rfl,rfl⟩
  . exact wpAny_pyHash_int h
  . exact wpAny_pyHash_str h
 eqBool:=λY J h=>by
  rcases l_ Y with⟨i,t,rfl,rfl⟩|⟨x,t,rfl,rfl⟩
  . rcases l_ J with⟨j,u,rfl,rfl⟩|⟨y,u,rfl,rfl⟩
    . rw[Hb] at h;exact wpAny_eqBool_int h
    . rw[Hd] at h;exact SeqAt.EqAt.int_str i t y u _ _ _ _ h
  . rcases l_ J with⟨j,u,rfl,rfl⟩|⟨y,u,rfl,rfl⟩
    . rw[He] at h;exact SeqAt.EqAt.str_int x t j u _ _ _ _ h
    . rw[Hc] at h;exact wpAny_eqBool_str h
 «strs»:=λk x t v h=>by
  rcases l_ h with⟨i,u,rfl,e⟩|⟨y,u,rfl,e⟩
  . exact nomatch e
  . injection e with I _
    subst I
    cases v <;> rfl
theorem Hf (prog:Program)(w:World)(i:Int)(t:Tok):(je prog w).is (.inl i) (.int i t)=true:=G_ i t
theorem Hg (prog:Program)(w:World)(x:Str)(t:Tok):(je prog w).is (.inr x) (.str x t)=true:=Ha x t
inductive V where
 |non|bl (b:Bool)|int (i:Int)|str (x:Str)|k_ (b:Array UInt8)|flt (b:UInt64)|ref (a:Addr)|ty (n:String)
 deriving DecidableEq
def RelV:V->Value->Prop
 | .non,u=>u=Value.none
 | .bl b,u=>u=Value.bool b
 | .int i,u=>∃t,u=Value.int i t
 | .str x,u=>∃t,u=Value.str x t
 | .k_ b,u=>∃t,u=Value.bytes b t
 | .flt b,u=>∃t,u=Value.float b t
 | .ref a,u=>u=Value.ref a
 | .ty n,u=>u=Value.type n
abbrev Vals:List V->List Value->Prop:=Paired RelV
theorem Vals.length {xs:List V}{us:List Value}(r:Vals xs us):xs.length=us.length:=Paired.length r
theorem Vals.get:∀{xs:List V}{us:List Value}{i:Nat}{x:V},Vals xs us->xs[i]? =some x->∃u,us[i]? =some u/\RelV x u
 |_,_,_,_,.nil,e=>by simp at e
 |_,_,0,_,.cons r _,e=>by simp at e;subst e;exact⟨_,rfl,r⟩
 |_,_,i+1,x,.cons _ t,e=>by
  obtain⟨u,h1,h2⟩:=Vals.get (i:=i) (x:=x) t (by simpa using e);exact⟨u,by simpa using h1,h2⟩
theorem Vals.set {x:V}{u:Value}(r:RelV x u):∀{xs:List V}{us:List Value}(i:Nat),Vals xs us->Vals (xs.set i x) (us.set i u)
 |_,_,_,.nil=>.nil
 |_,_,0,.cons _ t=>.cons r t
 |_,_,i+1,.cons q t=>.cons q (Vals.set r i t)
theorem Vals.append:∀{xs ys:List V}{us I:List Value},Vals xs us->Vals ys I->Vals (xs++ys) (us++I)
 |_,_,_,_,.nil,s=>s
 |_,_,_,_,.cons r t,s=>.cons r (Vals.append t s)
theorem Vals.take:∀{xs:List V}{us:List Value}(n:Nat),Vals xs us->Vals (xs.take n) (us.take n)
 |_,_,0,_=>.nil
 |_,_,_+1,.nil=>.nil
 |_,_,n+1,.cons r t=>.cons r (Vals.take n t)
theorem Vals.drop:∀{xs:List V}{us:List Value}(n:Nat),Vals xs us->Vals (xs.drop n) (us.drop n)
 |_,_,0,r=>r
 |_,_,_+1,.nil=>.nil
 |_,_,n+1,.cons _ t=>Vals.drop n t
theorem Vals.none_of:∀{xs:List V}{us:List Value}{i:Nat},Vals xs us->xs[i]? =none->us[i]? =none:=λ{xs us i} r e=>by
 have h1:=r.length;have h2:xs.length<=i:=List.getElem?_eq_none_iff.mp e;exact List.getElem?_eq_none_iff.mpr (by omega)
def jG:Option V->Option Value->Prop
 |some v,some u=>RelV v u
 |none,none=>True
 |_,_=>False
def KV {κ:Type}:List (κ × V)->List (κ × Value)->Prop:=Paired λ(p:κ × V) (q:κ × Value)=>p.1=q.1/\RelV p.2 q.2
noncomputable def kV:Key->V
 | .inl i=>.int i
 | .inr x=>.str x
inductive HO where
 |lst (xs:List V)
 |tup (xs:List V)
 |dK (kvs:List (Key × V))|dT (kvs:List (List Key × V))
 |set (S:Int->Bool) (n:Nat)
 |ins (C dx:Addr) (fs:List (Str × V))
 |own (x:Addr)
 |xd (fs:List (Str × V))
 |met (f x:Addr)
 |rng (lo hi:Int)
 |iU (o:Obj) (u:HO)
 |iJ (ps:Array Value)
 |ext (φ:Heap->Prop)
noncomputable abbrev Hp:=Addr->Option HO
noncomputable def upd (H:Hp) (a:Addr) (o:HO):Hp:=λb=>if b=a then some o else H b
theorem gh {H:Hp}{a:Addr}{o:HO}:upd H a o a=some o:=by unfold upd;rw[if_pos rfl]
theorem d_ {H:Hp}{a b:Addr}{o:HO}(h:b≠a):upd H a o b=H b:=by unfold upd;rw[if_neg h]
theorem gR {H:Hp}{a b:Addr}{o u:HO}(h:H a=some o)(h':H b=some u)(d:o≠u):a≠b:=by
 intro e;subst e;rw[h] at h';exact d (Option.some.inj h')
theorem gz {H:Hp}{a b:Addr}{o:HO}(h:H a=some o)(h':H b=none):a≠b:=by
 intro e;subst e;rw[h] at h';cases h'
section
variable (P:Program)(w:World)
def iQ (H:Hp) (h:Heap) (a:Addr):HO->Prop
 | .lst xs=>xs.length<=sizeLine/\∃(I:List Value) (n:Nat),Vals xs I/\h.get? a=some { cls:=.type "list",data:=.seq I.toArray n }
 | .tup xs=>xs.length<=sizeLine/\∃I:List Value,Vals xs I/\IsTup h a I.toArray
 | .dK kvs=>kvs.length<=sizeLine/\(a == sysModules)=false/\∃vs,KV kvs vs/\h.DictOf (je P w) a vs
 | .dT kvs=>kvs.length<=sizeLine/\(a == sysModules)=false/\∃xs:List (List Key × Addr × Value),
    Paired (λ(p:List Key × V) (q:List Key × Addr × Value)=>p.1=q.1/\H q.2.1=some (.tup (p.1.map kV))/\RelV p.2 q.2.2) kvs xs/\
    ∃o es ep,h.get? a=some o/\o.ExactDict/\o.data=.dict es ep/\es.toList=xs.map (entryOfKey (tupleKind (je P w)))/\(xs.map (·.1)).Nodup
 | .set S n=>h.SetOf (intKind P w) a S n
 | .ins C dx fs=>H dx=some (.own a)/\fs.length<=1000/\dx≠a/\h.get? a=some (W.instObj C dx)/\
    ∃mA,h.Ns1 dx mA/\(∀f,jG (fs.lookup f) (mA f))/\PySem.Within mA (fs.map (·.1))
 | .own _=>∃o,h.get? a=some o
 | .xd fs=>∃mA,h.Ns1 a mA/\∀f,jG (fs.lookup f) (mA f)
 | .rng lo hi=>∃t u v,h.get? a=some { cls:=.type "range",data:=.fields #[.int lo t,.int hi u,.int 1 v] }
 | .iU o u=>h.get? a=some o/\iQ H h a u
 | .iJ ps=>h.get? a=some { cls:=.none,data:=.fields ps }
 | .met f x=>h.get? a=some (W.methodObj (.ref f) (.ref x))
 | .ext J=>J h/\(∃o,h.get? a=some o)/\∀h1 h2:Heap,J h1->(∀o,h1.get? a=some o->h2.get? a=some o)->J h2
def iN (H:Hp) (h:Heap):Prop:=∀a o,H a=some o->iQ P w H h a o
end
section
variable {P:Program}{w:World}{H H':Hp}{h h':Heap}{a:Addr}{o:HO}
theorem iQ.lt (x:iQ P w H h a o):a<h.objs.size:=by
 cases o with
 |lst xs=>obtain⟨_,_,_,_,e⟩:=x;exact Q04 e
 |tup xs=>obtain⟨_,_,_,p⟩:=x;exact p.lt
 |dK kvs=>obtain⟨_,_,_,_,o,_,_,e,_⟩:=x;exact Q04 e
 |dT kvs=>obtain⟨_,_,_,_,o,_,_,e,_⟩:=x;exact Q04 e
 |set S n=>obtain⟨o,_,_,_,e,_⟩:=x;exact Q04 e
 |ins C dx fs=>obtain⟨_,_,_,e,_⟩:=x;exact Q04 e
 |own y=>obtain⟨_,e⟩:=x;exact Q04 e
 |xd fs=>obtain⟨_,⟨_,_,_,e,_⟩,_⟩:=x;exact Q04 e
 |rng lo hi=>obtain⟨_,_,_,e⟩:=x;exact Q04 e
 |iU I u=>obtain⟨e,_⟩:=x;exact Q04 e
 |iJ ps=>exact Q04 (show h.get? a=some _ from x)
 |met f y=>exact Q04 (show h.get? a=some _ from x)
 |ext J=>obtain⟨_,⟨_,e⟩,_⟩:=x;exact Q04 e
theorem Paired.qC {α L:Type}{F G:α->L->Prop}:∀{I:List α}{J:List L},Paired F I J->(∀a b,F a b->G a b)->Paired G I J
 |_,_,.nil,_=>.nil
 |_,_,.cons r t,f=>.cons (f _ _ r) (Paired.qC t f)
theorem iQ.stay (x:iQ P w H h a o)(k:∀b u,(b=a\/H b=some (.own a))->h.get? b=some u->h'.get? b=some u)
 (U:∀b,H b=some (.own a)->H' b=some (.own a)) (ht:∀b xs,H b=some (.tup xs)->H' b=some (.tup xs)):iQ P w H' h' a o:=by
 induction o with
 |lst xs=>obtain⟨z,J,n,r,e⟩:=x;exact⟨z,J,n,r,k _ _ (.inl rfl) e⟩
 |tup xs=>obtain⟨z,J,r,I,e,c⟩:=x;exact⟨z,J,r,I,k _ _ (.inl rfl) e,c⟩
 |dK kvs=>obtain⟨z,y,vs,r,I,es,ep,e,c⟩:=x;exact⟨z,y,vs,r,I,es,ep,k _ _ (.inl rfl) e,c⟩
 |dT kvs=>
  obtain⟨z,y,xs,r,I,es,ep,e,c⟩:=x;exact⟨z,y,xs,Paired.qC r λp q z=>⟨z.1,ht _ _ z.2.1,z.2.2⟩,I,es,ep,k _ _ (.inl rfl) e,c⟩
 |set S n=>obtain⟨I,es,ep,t,e,c⟩:=x;exact⟨I,es,ep,t,k _ _ (.inl rfl) e,c⟩
 |ins C dx fs=>
  obtain⟨d,z,ne,e,mA,⟨L,es,ep,Y,c⟩,r⟩:=x;exact⟨U _ d,z,ne,k _ _ (.inl rfl) e,mA,⟨L,es,ep,k _ _ (.inr d) Y,c⟩,r⟩
 |own y=>obtain⟨I,e⟩:=x;exact⟨I,k _ _ (.inl rfl) e⟩
 |xd fs=>obtain⟨mA,⟨L,es,ep,e,c⟩,r⟩:=x;exact⟨mA,⟨L,es,ep,k _ _ (.inl rfl) e,c⟩,r⟩
 |rng lo hi=>obtain⟨t,u,v,e⟩:=x;exact⟨t,u,v,k _ _ (.inl rfl) e⟩
 |iU I u ih=>obtain⟨e,q⟩:=x;exact⟨k _ _ (.inl rfl) e,ih q⟩
 |iJ ps=>
  have e:h.get? a=some { cls:=.none,data:=.fields ps }:=x;show h'.get? a=some { cls:=.none,data:=.fields ps };exact k a _ (.inl rfl) e
 |met f y=>
  have e:h.get? a=some (W.methodObj (.ref f) (.ref y)):=x;show h'.get? a=some (W.methodObj (.ref f) (.ref y));exact k a _ (.inl rfl) e
 |ext φ=>obtain⟨p,⟨o,e⟩,st⟩:=x;exact⟨st _ _ p λo q=>k _ _ (.inl rfl) q,⟨o,k _ _ (.inl rfl) e⟩,st⟩
theorem iN.lt (x:iN P w H h)(e:H a=some o):a<h.objs.size:=(x a o e).lt
theorem iN.fresh (x:iN P w H h)(e:h.objs.size<=a):H a=none:=by
 cases q:H a with
 |none=>rfl
 |some u=>exact absurd (Q0f (x.lt q) e) (Q0u _)
theorem iN.kept (x:iN P w H h)(k:∀b u,h.get? b=some u->h'.get? b=some u):iN P w H h':=λa o e=>
 (x a o e).stay (λb u _ q=>k b u q) (λ_ q=>q) λ_ _ q=>q
theorem iN.laid (x:iN P w H h)(k:∀b u,h.get? b=some u->h'.get? b=some u)(hp:h.objs.size<=a)(new:iQ P w (upd H a o) h' a o):iN P w (upd H a o) h':=λb u e=>by
 have I:=x.fresh hp;by_cases J:b=a
 . subst J;rw[gh] at e;cases e;exact new
 . rw[d_ J] at e;exact(x b u e).stay (λc v _ q=>k c v q) (λc q=>by rw[d_ (gz q I)];exact q) λc xs q=>by rw[d_ (gz q I)];exact q
end
def Rd (H:Hp) (a:Addr) (u:HO):Prop:=H a=some u\/∃o,H a=some (.iU o u)
theorem Rd.ok {P:Program}{w:World}{H:Hp}{h:Heap}{a:Addr}{u:HO}(r:Rd H a u)(x:iN P w H h):iQ P w H h a u:=by
 rcases r with r|⟨o,r⟩
 . exact x a u r
 . obtain⟨_,q⟩:=x a _ r;exact q
def qD:Option HO->Prop
 |some (.lst _)=>True
 |some (.dK _)=>True
 |some (.dT _)=>True
 |some (.set _ _)=>True
 |some (.ins _ _ _)=>True
 |some (.ext _)=>True
 |_=>False
section
variable {P:Program}{w:World}{H:Hp}{h h':Heap}{x e:Addr}{o':HO}
theorem iN.write (ok:iN P w H h)(mu:qD (H x))(he:e=x\/H e=some (.own x))(k:∀b u,b≠e->h.get? b=some u->h'.get? b=some u)(Y:∃u,h'.get? e=some u)
 (new:iQ P w (upd H x o') h' x o'):iN P w (upd H x o') h':=λb u q=>by
 have J:∀c y,H c=some (.own y)->c≠x:=λc y r z=>by subst z;rw[r] at mu;exact mu
 have L:∀c xs,H c=some (.tup xs)->c≠x:=λc xs r z=>by subst z;rw[r] at mu;exact mu
 by_cases U:b=x
 . subst U;rw[gh] at q;cases q;exact new
 . rw[d_ U] at q;by_cases I:b=e
   . have q':H b=some (.own x):=by
      rcases he with z|z
      . exact absurd (I.trans z) U
      . rw[I];exact z
     rw[q] at q';cases q';obtain⟨v,hv⟩:=Y;exact⟨v,by rw[I];exact hv⟩
   . refine(ok b u q).stay (λc v hc r=>k c v ?_ r) (λc r=>by rw[d_ (J c b r)];exact r) λc xs r=>by rw[d_ (L c xs r)];exact r
     rcases hc with rfl|hc
     . exact I
     . rintro rfl;rcases he with z|z
       . exact J c b hc z
       . rw[hc] at z;cases z;exact U rfl
end
structure Un (fs ex:List Addr) (H H':Hp) (h h':Heap):Prop where
 keep:∀b o,h.get? b=some o->H b=none->b ∉ fs->b ∉ ex->h'.get? b=some o
 slot:∀b o,h.get? b=some o->H b=none->b∈fs->b ∉ ex->∃sl,h'.get? b=some { o with slots:=sl }
 free:∀b o,h.get? b=some o->H b=none->b ∉ ex->H' b=none
 there:∀b o,h.get? b=some o->b ∉ ex->∃o',h'.get? b=some o'
 tups:∀b xs,H b=some (.tup xs)->H' b=some (.tup xs)
 ke:∀b o u,H b=some (.iU o u)->H' b=some (.iU o u)
 kK:∀b ps,H b=some (.iJ ps)->∃more,H' b=some (.iJ (ps++more))
section
variable {fs fs' ex ex':List Addr}{H H1 H2:Hp}{h h1 h2 h':Heap}{a x e:Addr}{o:HO}
theorem Un.any (u:Un fs ex H H1 h h1){b:Addr}{I:Obj}(q:h.get? b=some I)(n:H b=none)(J:b ∉ ex):∃U,h1.get? b=some { I with slots:=U }:=by
 by_cases L:b∈fs
 . exact u.slot b I q n L J
 . exact⟨I.slots,u.keep b I q n L J⟩
theorem Un.kept (k:∀b u,h.get? b=some u->h'.get? b=some u):Un fs ex H H h h':=
 ⟨λb I q _ _ _=>k b I q,λb I q _ _ _=>⟨I.slots,k b I q⟩,λ_ _ _ n _=>n,λb I q _=>⟨I,k b I q⟩,λ_ _ q=>q,λ_ _ _ q=>q,λ_ ps q=>⟨#[],by rw[q];simp⟩⟩
theorem Un.refl:Un fs ex H H h h:=Un.kept λ_ _ q=>q
theorem Un.laid (k:∀b u,h.get? b=some u->h'.get? b=some u)(hp:h.objs.size<=a)(I:H a=none):Un fs ex H (upd H a o) h h' where
 keep:=λb u q _ _ _=>k b u q
 slot:=λb u q _ _ _=>⟨u.slots,k b u q⟩
 free:=λb u q n _=>by rw[d_ (Q0c (Q0f (Q04 q) hp))];exact n
 there:=λb u q _=>⟨u,k b u q⟩
 tups:=λb xs q=>by rw[d_ (gz q I)];exact q
 ke:=λb u xs q=>by rw[d_ (gz q I)];exact q
 kK:=λb ps q=>⟨#[],by rw[d_ (gz q I),q];simp⟩
theorem Un.write (mu:qD (H x))(he:e=x\/H e=some (.own x))(k:∀b u,b≠e->h.get? b=some u->h'.get? b=some u)(L:∃u,h'.get? e=some u):Un fs ex H (upd H x o) h h':=by
 have U:∀b,H b=none->b≠x:=λb n z=>by subst z;rw[n] at mu;exact mu
 have Y:∀b,H b=none->b≠e:=λb n z=>by
  subst z;rcases he with r|r
  . exact U b n r
  . rw[n] at r;cases r
 have J:∀b u,H b=some u->¬qD (some u)->b≠x:=λb u q nm z=>by subst z;rw[q] at mu;exact nm mu
 refine⟨λb u q n _ _=>k b u (Y b n) q,λb u q n _ _=>⟨u.slots,k b u (Y b n) q⟩,λb u q n _=>by rw[d_ (U b n)];exact n,λb u q _=>?_,
  λb xs q=>by rw[d_ (J b _ q λz=>z)];exact q,λb u xs q=>by rw[d_ (J b _ q λz=>z)];exact q,λb ps q=>⟨#[],by rw[d_ (J b _ q λz=>z),q];simp⟩⟩
 by_cases I:b=e
 . subst I;exact L
 . exact⟨u,k b u I q⟩
end
noncomputable def rX (h:Heap) (H:Hp):List Addr:=(List.range h.objs.size).filter λa=>(H a).isSome
noncomputable def ma (h:Heap) (H:Hp):Heap:=W.hideAll h (rX h H)
theorem Hh (h:Heap)(H:Hp):(ma h H).objs.size=h.objs.size:=W.hideAll_size _ _
theorem Hi {h:Heap}{H:Hp}{b:Addr}{o:Obj}(e:h.get? b=some o)(n:H b=none):(ma h H).get? b=some o:=
 W.hideAll_get _ e λI=>by
   have q:(H b).isSome=true:=(List.mem_filter.mp I).2;rw[n] at q;simp at q
theorem Hj {h:Heap}{H:Hp}{b:Addr}{o:Obj}(e:(ma h H).get? b=some o):h.get? b=some o/\H b=none:=by
 have I:h.get? b=some o:=W.of_hideAll (rX h H) e;refine⟨I,?_⟩
 cases q:H b with
 |none=>rfl
 |some x=>
  have J:b∈rX h H:=List.mem_filter.mpr ⟨List.mem_range.mpr (Q04 I),by simp[q]⟩;have z:(ma h H).get? b=none:=W.hideAll_none (rX h H) J;rw[z] at e;cases e
noncomputable def Hk (g h:Heap) (L:Addr):List (Addr × Obj):=(List.range h.objs.size).filterMap λa=>if a=L\/(g.get? a).isSome=true then none else(h.get? a).map λo=>(a,o)
noncomputable def rest (g h:Heap) (L d:Addr):List (Addr × Obj):=(Hk g h L).filter λp=>decide (p.1≠d)
structure Mod (K:W.Frag) (mg:Str->Option Value) (base:Heap):Prop where
 qE:K.In base
 glob:base.Ns mainGlobals mg
 blt:∃mb,base.Ns builtinsNs mb/\∀x:Str,x≠"__name__"->mb x=bootBuiltins x
 nolimit:base.NoLimit
structure Cx where
 prog:Program
 w:World
 K:W.Frag
 mg:Str->Option Value
 base:Heap
 A:Around
 N:List Str
 s₀:Shared
 H₀:Hp
 env:Env
 outer:List Env
 stack:List Env
 ex:List Addr
 fn:Str->Bool
 calm:Bool
 pn:List (Addr × Obj)
 xe:Value->Shared->Prop
noncomputable def frs (l:List Env):List Addr:=l.filterMap (·.frame)
noncomputable abbrev Cx.fs (X:Cx):List Addr:=frs X.outer
def rY (sc:Scope) (x:Str):Prop:=sc.names.lookup x=some .local\/sc.names.lookup x=some .cell\/sc.names.lookup x=some .free
def Loc (sc:Scope) (x:Str):Prop:=sc.names.lookup x=some .local\/sc.names.lookup x=some .cell
def Look (env:Env) (h:Heap) (m:Str->Option Value) (x:Str) (u:Value):Prop:=
 (env.kindOf x=some .local/\m x=some u)\/((env.kindOf x=some .cell\/env.kindOf x=some .free)/\∃c,env.cells.lookup x=some c/\h.IsCell c (some u))
structure Cx.Ok (X:Cx):Prop where
 mod:Mod X.K X.mg X.base
 kind:X.env.scope.kind=.function
 glob:X.env.globals=mainGlobals
 blt:X.env.builtins=builtinsNs
 above:X.s₀.heap.objs.size<=X.env.locals
 inj:∀x y c,X.env.cells.lookup x=some c->X.env.cells.lookup y=some c->x=y
 has:∀x,(X.env.kindOf x=some .cell\/X.env.kindOf x=some .free)->∃c,X.env.cells.lookup x=some c
 cab:∀x c,X.fn x=true->X.env.cells.lookup x=some c->X.s₀.heap.objs.size<=c
 hd:X.calm=true->X.A.handled=none
 frames:X.A.frames=some X.stack
 stk:X.stack=X.outer\/(X.stack=X.env::X.outer/\X.env.frame=some X.env.locals)
 qF:∀b∈X.ex,b≠X.env.locals/\∀x c,X.env.cells.lookup x=some c->c≠b
 bs:∀b o,X.base.get? b=some o->X.s₀.heap.get? b=some o/\X.H₀ b=none
 kL:X.base.objs.size<=X.s₀.heap.objs.size
 m9:∀b o,X.base.get? b=some o->b ∉ X.ex
 oj:∀b∈X.ex,b ∉ X.fs
 jW:X.s₀.heap.FunFrames X.base X.outer
 md:∀b∈X.fs,X.H₀ b=none
structure Inv (X:Cx) (pins:List (Addr × Obj)) (σ:List (Option V)) (H:Hp) (s:Shared):Prop where
 ok:X.Ok
 os:s.os=X.s₀.os
 bare:AllBare s.gens
 base:Un X.fs X.ex X.H₀ H X.s₀.heap s.heap
 loc:∃m,s.heap.Ns X.env.locals m/\∀(i:Nat) (x:Str) (v:V),X.N[i]? =some x->σ[i]? =some (some v)->rY X.env.scope x->∃u,RelV v u/\Look X.env s.heap m x u
 cell:∀x c,X.env.cells.lookup x=some c->∃v,s.heap.IsCell c v
 free:H X.env.locals=none
 jy:∀x c,X.env.cells.lookup x=some c->H c=none
 pin:∀p∈X.pn++pins,s.heap.get? p.1=some p.2/\H p.1=none/\p.1≠X.env.locals/\p.1 ∉ X.fs/\∀v,p.2.data≠ .cell v
 hok:iN X.prog X.w H s.heap
 len:σ.length=X.N.length
section
variable {X:Cx}{pins:List (Addr × Obj)}{σ:List (Option V)}{H H':Hp}{s:Shared}{h':Heap}
theorem Cx.Ok.Hl (ok:X.Ok){b:Addr}{o:Obj}(e:X.base.get? b=some o):b ∉ X.fs:=λI=>by
 have:=(ok.jW.mem I).1;rw[e] at this;cases this
theorem Inv.bs (I:Inv X pins σ H s):∀b o,X.base.get? b=some o->s.heap.get? b=some o/\H b=none:=λb o e=>
 ⟨I.base.keep b o (I.ok.bs b o e).1 (I.ok.bs b o e).2 (I.ok.Hl e) (I.ok.m9 b o e),I.base.free b o (I.ok.bs b o e).1 (I.ok.bs b o e).2 (I.ok.m9 b o e)⟩
theorem Inv.bk (I:Inv X pins σ H s):∀b o,X.base.get? b=some o->s.heap.get? b=some o:=λb o e=>(I.bs b o e).1
theorem Inv.mod (I:Inv X pins σ H s):Mod X.K X.mg X.base:=I.ok.mod
theorem Inv.i4 (I:Inv X pins σ H s):X.K.In s.heap:=I.ok.mod.qE.keeps I.bk
theorem Inv.nolimit (I:Inv X pins σ H s):s.heap.NoLimit:=I.ok.mod.nolimit.keeps I.bk
theorem Inv.lt (I:Inv X pins σ H s):X.env.locals<s.heap.objs.size:=let⟨_,J,_⟩:=I.loc;J.lt
theorem Inv.sz (I:Inv X pins σ H s):X.s₀.heap.objs.size<=s.heap.objs.size:=Q0d I.ok.above (Q0w I.lt)
theorem Inv.pz (I:Inv X pins σ H s){a:Addr}(h:s.heap.objs.size<=a):a ∉ X.fs:=λJ=>by
 obtain⟨_,o,L,_⟩:=I.ok.jW.mem J;exact absurd (Q0f (Q04 L) (Q0d I.sz h)) (Q0u _)
theorem Inv.lM (I:Inv X pins σ H s):∀x c,X.env.cells.lookup x=some c->c≠X.env.locals:=λx c e z=>by
 obtain⟨v,o,U,Y⟩:=I.cell x c e;obtain⟨m,⟨o',es,ep,J,L,_⟩,_⟩:=I.loc;rw[z,J] at U;cases U;rw[L] at Y;cases Y
theorem Inv.jW (I:Inv X pins σ H s):s.heap.FunFrames X.base X.outer:=by
 have all:∀(l:List Env),(∀b∈frs l,b∈X.fs)->X.s₀.heap.FunFrames X.base l->s.heap.FunFrames X.base l:=by
  intro l
  induction l with
  |nil=>intro _ _;trivial
  |cons env r ih=>
   intro hs hl;obtain⟨hk,⟨L,o,J,hn,ho,hd⟩,hr⟩:=hl;have U:L∈X.fs:=hs L (by unfold frs;rw[Q28,J];exact Q02);obtain⟨sl,e⟩:=I.base.slot L o ho (I.ok.md L U) U λz=>I.ok.oj L z U;exact⟨hk,⟨L,_,J,hn,e,hd⟩,ih (λb Y=>hs b (by unfold frs;rw[Q28,J];exact Q07 _ Y)) hr⟩
 exact all X.outer (λ_ Y=>Y) I.ok.jW
theorem Inv.stack (I:Inv X pins σ H s):s.heap.FunFrames X.base X.stack:=by
 rcases I.ok.stk with e|⟨e,J⟩
 . rw[e];exact I.jW
 . rw[e];obtain⟨m,L,_⟩:=I.loc;refine .cons (by rw[I.ok.kind];decide) J L ?_ I.jW;exact Heap.get?_none_of_le (Q0d I.ok.kL I.ok.above)
theorem Inv.qG (I:Inv X pins σ H s):∀b∈frs X.stack,b∈X.env.locals::X.fs:=λb J=>by
 rcases I.ok.stk with e|⟨e,L⟩
 . rw[e] at J;exact Q07 _ J
 . rw[e] at J;unfold frs at J;rw[Q28,L] at J;exact J
theorem Inv.rZ (I:Inv X pins σ H s):∀b∈frs X.stack,H b=none:=λb J=>by
 rcases List.mem_cons.mp (I.qG b J) with e|J
 . rw[e];exact I.free
 . obtain⟨_,o,L,_⟩:=I.ok.jW.mem J;exact I.base.free b o L (I.ok.md b J) λz=>I.ok.oj b z J
theorem Inv.step {g':Array GenState}{t':Nat}{d':Drawn}{ch:List Addr}(I:Inv X pins σ H s)
 (L:∀b∈ch,(b∈X.ex\/X.s₀.heap.objs.size<=b)/\b≠X.env.locals/\(∀x c,X.env.cells.lookup x=some c->c≠b)/\∀p∈X.pn++pins,p.1≠b)
 (keep:∀b o,b≠X.env.locals->b ∉ X.fs->b ∉ ch->s.heap.get? b=some o->H b=none->h'.get? b=some o)
 (slot:∀b o,b≠X.env.locals->b∈X.fs->b ∉ ch->s.heap.get? b=some o->H b=none->∃sl,h'.get? b=some { o with slots:=sl }) (free:∀b o,b ∉ ch->s.heap.get? b=some o->H b=none->H' b=none)
 (there:∀b o,b ∉ ch->s.heap.get? b=some o->∃o',h'.get? b=some o')
 (tups:∀b xs,H b=some (.tup xs)->H' b=some (.tup xs)) (ke:∀b o u,H b=some (.iU o u)->H' b=some (.iU o u)) (kK:∀b ps,H b=some (.iJ ps)->∃ac,H' b=some (.iJ (ps++ac)))
 (ns:∀m,s.heap.Ns X.env.locals m->h'.Ns X.env.locals m) (ae:iN X.prog X.w H' h') (hg:AllBare g'):
 Inv X pins σ H' { s with heap:=h',gens:=g',drawn:=d',toks:=t' }:=by
 have ab:∀b o,X.s₀.heap.get? b=some o->b≠X.env.locals:=λb o e=>Q0c (Q0f (Q04 e) I.ok.above)
 have aa:∀b o,X.s₀.heap.get? b=some o->b ∉ X.ex->b ∉ ch:=λb o e J hb=>by
  rcases(L b hb).1 with z|z
  . exact J z
  . exact absurd (Q0f (Q04 e) z) (Q0u _)
 have Y:∀x c,X.env.cells.lookup x=some c->∀v,s.heap.IsCell c v->h'.IsCell c v:=λx c e v ⟨o,ho,hd⟩=>by
  have U:c ∉ ch:=λz=>(L c z).2.2.1 x c e rfl;by_cases hc:c∈X.fs
  . obtain⟨sl,q⟩:=slot c o (I.lM x c e) hc U ho (I.jy x c e);exact⟨_,q,hd⟩
  . exact⟨o,keep c o (I.lM x c e) hc U ho (I.jy x c e),hd⟩
 refine⟨I.ok,I.os,hg,⟨λb o e n hb J=>?_,λb o e n hb J=>?_,λb o e n J=>?_,λb o e J=>?_,λb xs e=>tups b xs (I.base.tups b xs e),λb o xs e=>ke b o xs (I.base.ke b o xs e),λb ps e=>?_⟩,?_,λx c e=>?_,?_,λx c e=>?_,λp hp=>?_,ae,I.len⟩
 . exact keep b o (ab b o e) hb (aa b o e J) (I.base.keep b o e n hb J) (I.base.free b o e n J)
 . obtain⟨sl,e1⟩:=I.base.slot b o e n hb J;obtain⟨af,e2⟩:=slot b _ (ab b o e) hb (aa b o e J) e1 (I.base.free b o e n J);exact⟨af,e2⟩
 . obtain⟨o',e1⟩:=I.base.there b o e J;exact free b o' (aa b o e J) e1 (I.base.free b o e n J)
 . obtain⟨o',e1⟩:=I.base.there b o e J;exact there b o' (aa b o e J) e1
 . obtain⟨m1,e1⟩:=I.base.kK b ps e;obtain⟨m2,e2⟩:=kK b _ e1;exact⟨m1++m2,by rw[e2,Array.append_assoc]⟩
 . obtain⟨m,hn,hl⟩:=I.loc;refine⟨m,ns m hn,λi x v e1 e2 e3=>?_⟩;obtain⟨u,r,l⟩:=hl i x v e1 e2 e3;refine⟨u,r,?_⟩;rcases l with l|⟨k,c,e,z⟩
   . exact .inl l
   . exact .inr ⟨k,c,e,Y x c e _ z⟩
 . obtain⟨v,z⟩:=I.cell x c e;exact⟨v,Y x c e v z⟩
 . obtain⟨m,⟨o,_,_,ho,_⟩,_⟩:=I.loc;exact free _ o (λz=>(L _ z).2.1 rfl) ho I.free
 . obtain⟨v,o,ho,hd⟩:=I.cell x c e;exact free c o (λz=>(L c z).2.2.1 x c e rfl) ho (I.jy x c e)
 . obtain⟨e,n,ne,nf,d⟩:=I.pin p hp;have U:p.1 ∉ ch:=λz=>(L p.1 z).2.2.2 p hp rfl;exact⟨keep p.1 p.2 ne nf U e n,free p.1 p.2 U e n,ne,nf,d⟩
theorem Inv.un {t':Nat}(I:Inv X pins σ H s)(u:Un X.fs [] H H' s.heap h')(U:iN X.prog X.w H' h'):Inv X pins σ H' { s with heap:=h',toks:=t' }:=by
 obtain⟨m,⟨o,es,ep,ho,r⟩,_⟩:=id I.loc;obtain⟨sl,hL⟩:=u.any ho I.free (by simp)
 exact I.step (g':=s.gens) (d':=s.drawn) (ch:=[]) (λ_ z=>nomatch z) (λb o _ L _ e n=>u.keep b o e n L (by simp)) (λb o _ L _ e n=>u.slot b o e n L (by simp)) (λb o _ e n=>u.free b o e n (by simp)) (λb o _ e=>u.there b o e (by simp)) u.tups u.ke u.kK (λm' hm=>by
  obtain⟨o',Y,aa,J,r'⟩:=hm;rw[ho] at J;cases J;exact⟨_,Y,aa,hL,r'⟩) U I.bare
theorem Inv.call {g':Array GenState}{t':Nat}{d':Drawn}{ch:List Addr}(I:Inv X pins σ H s)(u:Un (frs X.stack) ch H H' s.heap h')(Y:iN X.prog X.w H' h')(hg:AllBare g')
 (J:∀b∈ch,(b∈X.ex\/X.s₀.heap.objs.size<=b)/\b≠X.env.locals/\(∀x c,X.env.cells.lookup x=some c->c≠b)/\∀p∈X.pn++pins,p.1≠b):
 Inv X pins σ H' { s with heap:=h',gens:=g',drawn:=d',toks:=t' }:=by
 obtain⟨m,⟨o,es,ep,ho,r⟩,_⟩:=id I.loc;obtain⟨sl,U⟩:=u.any ho I.free λz=>(J _ z).2.1 rfl
 exact I.step (ch:=ch) J (λb o U hb hc e n=>u.keep b o e n (λz=>(List.mem_cons.mp (I.qG b z)).elim U hb) hc) (λb o _ _ hc e n=>u.any e n hc) (λb o hc e n=>u.free b o e n hc) (λb o hc e=>u.there b o e hc) u.tups u.ke u.kK (λm' hm=>by
  obtain⟨o',aa,ab,L,r'⟩:=hm;rw[ho] at L;cases L;exact⟨_,aa,ab,U,r'⟩) Y hg
theorem Inv.turned {t':Nat}{it:Addr}(I:Inv X pins σ H s)(k:∀b o,b≠it->s.heap.get? b=some o->h'.get? b=some o)(U:H it=none)(L:it≠X.env.locals)
 (h1:it∈X.ex\/X.s₀.heap.objs.size<=it) (h2:∀x c,X.env.cells.lookup x=some c->c≠it) (Y:∀p∈X.pn++pins,p.1≠it):Inv X pins σ H { s with heap:=h',toks:=t' }:=by
 have J:∀b u,H b=some u->b≠it:=λb u e z=>by rw[z,U] at e;cases e
 refine I.step (g':=s.gens) (d':=s.drawn) (ch:=[it]) (λb hb=>?_) (λb o _ _ hc e _=>k b o (λz=>hc (by simp[z])) e) (λb o _ _ hc e _=>⟨o.slots,k b o (λz=>hc (by simp[z])) e⟩) (λ_ _ _ _ n=>n)
  (λb o hc e=>⟨o,k b o (λz=>hc (by simp[z])) e⟩) (λ_ _ e=>e) (λ_ _ _ e=>e) (λb ps e=>⟨#[],by rw[e];simp⟩) (λm hm=>?_) (λb u e=>?_) I.bare
 . have e:b=it:=by simpa using hb
   subst e;exact⟨h1,L,h2,Y⟩
 . obtain⟨o,es,ep,ho,r⟩:=hm;exact⟨o,es,ep,k _ o (Ne.symm L) ho,r⟩
 . refine(I.hok b u e).stay (λc v hc q=>k c v ?_ q) (λ_ q=>q) λ_ _ q=>q;rcases hc with z|z
   . rw[z];exact J b u e
   . exact J c _ z
theorem Inv.tok (I:Inv X pins σ H s)(t:Nat):Inv X pins σ H { s with toks:=t }:=I.un (h':=s.heap) (t':=t) Un.refl I.hok
theorem Inv.kept {t':Nat}(I:Inv X pins σ H s)(k:∀b u,s.heap.get? b=some u->h'.get? b=some u):Inv X pins σ H { s with heap:=h',toks:=t' }:=I.un (Un.kept k) (I.hok.kept k)
theorem Inv.laid {a:Addr}{o:HO}{t':Nat}(I:Inv X pins σ H s)(k:∀b u,s.heap.get? b=some u->h'.get? b=some u)(hp:s.heap.objs.size<=a)(new:iQ X.prog X.w (upd H a o) h' a o):
 Inv X pins σ (upd H a o) { s with heap:=h',toks:=t' }:=I.un (Un.laid k hp (I.hok.fresh hp)) (I.hok.laid k hp new)
theorem Inv.write {x e:Addr}{o:HO}{t':Nat}(I:Inv X pins σ H s)(mu:qD (H x))(L:e=x\/H e=some (.own x))(k:∀b u,b≠e->s.heap.get? b=some u->h'.get? b=some u)(J:∃u,h'.get? e=some u)
 (new:iQ X.prog X.w (upd H x o) h' x o):Inv X pins σ (upd H x o) { s with heap:=h',toks:=t' }:=I.un (Un.write mu L k J) (I.hok.write mu L k J new)
theorem Inv.weak {J:List (Option V)}(I:Inv X pins σ H s)(hl:J.length=σ.length)(w:∀(i:Nat) v,J[i]? =some (some v)->σ[i]? =some (some v)):Inv X pins J H s:=
 ⟨I.ok,I.os,I.bare,I.base,let⟨m,U,L⟩:=I.loc;⟨m,U,λi x v Y e2 e3=>L i x v Y (w i v e2) e3⟩,I.cell,I.free,I.jy,I.pin,I.hok,hl.trans I.len⟩
theorem Inv.om {J:List (Addr × Obj)}(I:Inv X pins σ H s)(h:∀p∈J,s.heap.get? p.1=some p.2/\H p.1=none/\p.1≠X.env.locals/\p.1 ∉ X.fs/\∀v,p.2.data≠ .cell v):Inv X J σ H s:=
 ⟨I.ok,I.os,I.bare,I.base,I.loc,I.cell,I.free,I.jy,λp hp=>(List.mem_append.mp hp).elim (λz=>I.pin p (Q0t _ z)) (h p),I.hok,I.len⟩
theorem uP {N:List Str}(I:N.Nodup){i j:Nat}{x:Str}(a:N[i]? =some x)(b:N[j]? =some x):i=j:=by
 obtain⟨h1,J⟩:=List.getElem?_eq_some_iff.mp a;obtain⟨h2,L⟩:=List.getElem?_eq_some_iff.mp b;exact(Q1k I).mp (J.trans L.symm)
theorem Hm {M:Model}{A:Around}{E:Value->Shared->Prop}{i:Nat}{x:Str}{v:V}{u:Value}{Q:Unit->Shared->Prop}(I:Inv X pins σ H s)(hN:X.N.Nodup)(hi:X.N[i]? =some x)(Y:Loc X.env.scope x)(r:RelV v u)
 (h:∀s',Inv X pins (σ.set i (some v)) H s'->(∃a,Heap.SameBut a s.heap s'.heap/\(a=X.env.locals\/X.env.cells.lookup x=some a))->Q () s') (hf:X.fn x=true\/X.env.scope.names.lookup x=some .local:=by first|exact .inl rfl|exact .inr rfl|assumption):wpAny M A (storeName X.env x u) Q E s:=by
 obtain⟨m,hn,hl⟩:=id I.loc;have ah:(X.env.scope.kind == .class || (X.env.scope.kind == .module && X.env.locals != X.env.globals))=false:=by rw[I.ok.kind];rfl
 have ab:i<σ.length:=by rw[I.len];exact(List.getElem?_eq_some_iff.mp hi).1
 have lM:=I.lM
 have U:∀{a:Addr} {h':Heap},(∃o,s.heap.get? a=some o/\H a=none)->Heap.SameBut a s.heap h'->iN X.prog X.w H h':=λ{a h'} ha J b ob e=>by
  obtain⟨_,_,aa⟩:=ha;refine(I.hok b ob e).stay (λc w' hc q=>(J.2 c ?_).trans q) (λ_ q=>q) λ_ _ q=>q;rintro rfl;rcases hc with rfl|hc
  . rw[aa] at e;cases e
  . rw[aa] at hc;cases hc
 rcases Y with hk|hk
 . refine wpAny_storeName_local hk hn (λh' aj J=>?_) ah;obtain⟨oL,_,_,ak,_⟩:=id hn;refine h _ ⟨I.ok,I.os,I.bare,⟨λb o e n hb Y=>?_,λb o e n hb Y=>?_,I.base.free,λb o e Y=>?_,I.base.tups,I.base.ke,I.base.kK⟩,⟨_,aj,λj y v' L e2 e3=>?_⟩,λy c e=>?_,I.free,I.jy,λp hp=>?_,U ⟨oL,ak,I.free⟩ J,by simpa using I.len⟩ ⟨_,J,.inl rfl⟩
   . exact(J.2 b (Q0c (Q0f (Q04 e) I.ok.above))).trans (I.base.keep b o e n hb Y)
   . obtain⟨sl,L⟩:=I.base.slot b o e n hb Y;exact⟨sl,(J.2 b (Q0c (Q0f (Q04 e) I.ok.above))).trans L⟩
   . obtain⟨o',L⟩:=I.base.there b o e Y;exact⟨o',(J.2 b (Q0c (Q0f (Q04 e) I.ok.above))).trans L⟩
   . by_cases hj:j=i
     . subst hj;rw[hi] at L;cases L;rw[Q29 ab] at e2
       cases e2;exact⟨u,r,.inl ⟨hk,by simp⟩⟩
     . rw[Q1v (Ne.symm hj)] at e2;obtain⟨u',r',q⟩:=hl j y v' L e2 e3;refine⟨u',r',?_⟩;rcases q with⟨k,e⟩|⟨k,c,e,z⟩
       . refine .inl ⟨k,?_⟩;have:y≠x:=λe=>hj (uP hN L (e ▸ hi));simp[this,e]
       . exact .inr ⟨k,c,e,z.sameBut J (lM y c e)⟩
   . obtain⟨w',z⟩:=I.cell y c e;exact⟨w',z.sameBut J (lM y c e)⟩
   . obtain⟨e,n,ne,nf,d⟩:=I.pin p hp;exact⟨(J.2 p.1 ne).trans e,n,ne,nf,d⟩
 . have ac:X.fn x=true:=by
    rcases hf with z|z
    . exact z
    . rw[z] at hk;cases hk
   obtain⟨c,hc⟩:=I.ok.has x (.inl hk);obtain⟨w',z⟩:=I.cell x c hc;refine wpAny_storeName_cell I.ok.kind hk hc z (λh' ae J=>?_);obtain⟨oc,af,ai⟩:=id z;refine h { s with heap:=h' } ⟨I.ok,I.os,I.bare,⟨λb o e n hb Y=>?_,λb o e n hb Y=>?_,I.base.free,λb o e Y=>?_,I.base.tups,I.base.ke,I.base.kK⟩,⟨m,hn.sameBut J (Ne.symm (lM x c hc)),λj y v' L e2 e3=>?_⟩,λy c' e=>?_,I.free,I.jy,λp hp=>?_,U ⟨oc,af,I.jy x c hc⟩ J,by simpa using I.len⟩ ⟨c,J,.inr hc⟩
   . exact(J.2 b (Q0c (Q0f (Q04 e) (I.ok.cab x c ac hc)))).trans (I.base.keep b o e n hb Y)
   . obtain⟨sl,L⟩:=I.base.slot b o e n hb Y;exact⟨sl,(J.2 b (Q0c (Q0f (Q04 e) (I.ok.cab x c ac hc)))).trans L⟩
   . obtain⟨o',L⟩:=I.base.there b o e Y;exact⟨o',(J.2 b (Q0c (Q0f (Q04 e) (I.ok.cab x c ac hc)))).trans L⟩
   . by_cases hj:j=i
     . subst hj;rw[hi] at L;cases L;rw[Q29 ab] at e2
       cases e2;exact⟨u,r,.inr ⟨.inl hk,c,hc,ae⟩⟩
     . rw[Q1v (Ne.symm hj)] at e2;obtain⟨u',r',q⟩:=hl j y v' L e2 e3;refine⟨u',r',?_⟩;rcases q with q|⟨k,c',e,z'⟩
       . exact .inl q
       . refine .inr ⟨k,c',e,z'.sameBut J ?_⟩;rintro rfl;exact hj (uP hN L (I.ok.inj _ _ _ e hc ▸ hi))
   . by_cases ag:c'=c
     . subst ag;exact⟨_,ae⟩
     . obtain⟨w2,z2⟩:=I.cell y c' e;exact⟨w2,z2.sameBut J ag⟩
   . obtain⟨e,n,ne,nf,d⟩:=I.pin p hp;refine⟨(J.2 p.1 ?_).trans e,n,ne,nf,d⟩;intro q;rw[q,af] at e;have q':oc=p.2:=Option.some.inj e;exact d w' (by rw[<-q'];exact ai)
theorem qH {M:Model}{A:Around}{E:Value->Shared->Prop}{i:Nat}{x:Str}{v:V}{u:Value}{Q:Unit->Shared->Prop}(I:Inv X pins σ H s)(J:X.N.Nodup)(hi:X.N[i]? =some x)(L:Loc X.env.scope x)(r:RelV v u)
 (h:∀s',Inv X pins (σ.set i (some v)) H s'->Q () s') (U:X.fn x=true\/X.env.scope.names.lookup x=some .local:=by first|exact .inl rfl|exact .inr rfl|assumption):wpAny M A (storeName X.env x u) Q E s:=
 Hm I J hi L r (λs' Y _=>h s' Y) U
theorem Inv.call' {s':Shared}{ch:List Addr}(I:Inv X pins σ H s)(U:s'.os=s.os)(u:Un (frs X.stack) ch H H' s.heap s'.heap)(J:iN X.prog X.w H' s'.heap)(Y:AllBare s'.gens)
 (L:∀b∈ch,(b∈X.ex\/X.s₀.heap.objs.size<=b)/\b≠X.env.locals/\(∀x c,X.env.cells.lookup x=some c->c≠b)/\∀p∈X.pn++pins,p.1≠b):Inv X pins σ H' s':=by
 obtain⟨h',g',d',t',o'⟩:=s';have e:o'=s.os:=U;subst e;exact I.call (g':=g') (t':=t') (d':=d') u J Y L
end
noncomputable abbrev XK:=Value->Option Addr->Hp->Prop
noncomputable abbrev St:=List (Option V)
noncomputable abbrev VK:=V->Hp->Prop
noncomputable abbrev TE:=St->Hp->VK->Prop
noncomputable abbrev TT:=St->Hp->(Bool->Hp->Prop)->Prop
noncomputable abbrev TA:=St->Hp->(List V->Hp->Prop)->Prop
structure Ends where
 nx:St->Hp->Prop
 rt:VK
 bk:St->Hp->Prop:=λ_ _=>False
 ct:St->Hp->Prop:=λ_ _=>False
noncomputable abbrev TS:=Ends->St->Hp->Prop
def EP (X:Cx) (pins:List (Addr × Obj)) (σ:St) (Q:VK) (u:Value) (s':Shared):Prop:=∃v H',Inv X pins σ H' s'/\RelV v u/\Q v H'
def TP (X:Cx) (pins:List (Addr × Obj)) (σ:St) (Q:Bool->Hp->Prop) (b:Bool) (s':Shared):Prop:=∃H',Inv X pins σ H' s'/\Q b H'
def AP (X:Cx) (pins:List (Addr × Obj)) (σ:St) (Q:List V->Hp->Prop) (us:List Value) (s':Shared):Prop:=∃vs H',Inv X pins σ H' s'/\Vals vs us/\Q vs H'
def SP (X:Cx) (pins:List (Addr × Obj)) (D:Ends) (f:Flow) (s':Shared):Prop:=
 match f with
 | .next=>∃I H',Inv X pins I H' s'/\D.nx I H'
 | .brk=>∃I H',Inv X pins I H' s'/\D.bk I H'
 | .cont=>∃I H',Inv X pins I H' s'/\D.ct I H'
 | .ret u=>∃v I H',Inv X pins I H' s'/\RelV v u/\D.rt v H'
def PE (X:Cx) (e:Expr) (t:TE):Prop:=
 ∀(pins:List (Addr × Obj)) (s:Shared) (σ:St) (H:Hp) (Q:VK),Inv X pins σ H s->t σ H Q->wpAny (model X.prog X.w) X.A (eval e X.env) (EP X pins σ Q) X.xe s
def PT (X:Cx) (e:Expr) (t:TT):Prop:=
 ∀(pins:List (Addr × Obj)) (s:Shared) (σ:St) (H:Hp) (Q:Bool->Hp->Prop),Inv X pins σ H s->t σ H Q->wpAny (model X.prog X.w) X.A (isTrue e X.env (eval e X.env)) (TP X pins σ Q) X.xe s
def PW (X:Cx) (e:Expr) (t:TT):Prop:=
 ∀(I:Sem Value) (pins:List (Addr × Obj)) (s:Shared) (σ:St) (H:Hp) (Q:Bool->Hp->Prop),Inv X pins σ H s->t σ H Q->wpAny (model X.prog X.w) X.A (isTrue e X.env I) (TP X pins σ Q) X.xe s
theorem PW.pt {X:Cx}{e:Expr}{t:TT}(h:PW X e t):PT X e t:=h _
def PA (X:Cx) (es:List Expr) (t:TA):Prop:=
 ∀(pos:Pos) (pins:List (Addr × Obj)) (s:Shared) (σ:St) (H:Hp) (Q:List V->Hp->Prop),Inv X pins σ H s->t σ H Q->wpAny (model X.prog X.w) X.A (spliced (backTo pos (starEach es X.env))) (AP X pins σ Q) X.xe s
def PS (X:Cx) (st:Stmt) (t:TS):Prop:=
 ∀(pins:List (Addr × Obj)) (s:Shared) (σ:St) (H:Hp) (D:Ends),Inv X pins σ H s->t D σ H->wpAny (model X.prog X.w) X.A (exec st X.env) (SP X pins D) X.xe s
def jX (X:Cx) (st:List Stmt) (t:TS):Prop:=
 ∀(pins:List (Addr × Obj)) (s:Shared) (σ:St) (H:Hp) (D:Ends),Inv X pins σ H s->t D σ H->wpAny (model X.prog X.w) X.A (execs st X.env) (SP X pins D) X.xe s
theorem gB {α:Type}{t:Sem α}{Q I:α->Shared->Prop}{M:Model}{A:Around}{E:Value->Shared->Prop}{s:Shared}(h:wpAny M A t Q E s)(J:∀a s,Q a s->I a s):wpAny M A t I E s:=Q0s h J λ_ _ x=>x
section
variable {X:Cx}
def gJ (i:Nat):TE:=λσ H Q=>∃v,σ[i]? =some (some v)/\Q v H
def tC (v:V):TE:=λ_ H Q=>Q v H
theorem Hn {i:Nat}{x:Str}{pos:Pos}(hN:X.N[i]? =some x)(hv:rY X.env.scope x)(U:(x == ("__debug__":Str))=false:=by decide)(Y:(x == ("__classdict__":Str))=false:=by decide):PE X (.Name x pos) (gJ i):=by
 intro pins s σ H Q I h;obtain⟨v,e,h⟩:=h;obtain⟨m,hn,hl⟩:=I.loc;obtain⟨u,r,l⟩:=hl i x v hN e hv;have fin:EP X pins σ Q u s:=⟨v,H,I,r,h⟩;rcases l with⟨L,hm⟩|⟨L,c,hc,J⟩
 . exact wpAny_Name (wpAny_loadName_local I.ok.kind L hn hm fin) U
 . rcases L with L|L
   . exact wpAny_Name (wpAny_loadName_cell I.ok.kind L hc J fin) U
   . exact wpAny_Name (wpAny_loadName_free I.ok.kind L hc J fin Y) U
theorem c_ {i j pos}:PE X (.Constant (.int i) j pos) (tC (.int i)):=λ_ _ _ H _ I h=>wpAny_Constant_int ⟨.int i,H,I.tok _,⟨_,rfl⟩,h⟩
theorem jz {b j pos}:PE X (.Constant (.bool b) j pos) (tC (.bl b)):=λ_ _ _ H _ I h=>Constant_bool ⟨.bl b,H,I,rfl,h⟩
theorem jH {j pos}:PE X (.Constant .none j pos) (tC .non):=λ_ _ _ H _ I h=>Constant_none ⟨.non,H,I,rfl,h⟩
theorem gW {x j pos}:PE X (.Constant (.str x) j pos) (tC (.str x)):=λ_ _ _ H _ I h=>Calls.Constant_str ⟨.str x,H,I.tok _,⟨_,rfl⟩,h⟩
def Gl (X:Cx) (x:Str):Prop:=X.env.kindOf x=some .globalImplicit
theorem uQ {E:Value->Shared->Prop}{pins:List (Addr × Obj)}{s:Shared}{σ:St}{H:Hp}{x:Str}{u:Value}{pos:Pos}{Q:Value->Shared->Prop}(I:Inv X pins σ H s)(J:Gl X x)(L:X.mg x=some u)(h:Q u s)
 (U:(x == ("__debug__":Str))=false:=by decide):wpAny (model X.prog X.w) X.A (eval (.Name x pos) X.env) Q E s:=
 Calls.Name_function_global I.ok.kind J (Calls.loadGlobal_global (by rw[I.ok.glob];exact I.mod.glob.keeps I.bk) L h) U
theorem mC {E:Value->Shared->Prop}{pins:List (Addr × Obj)}{s:Shared}{σ:St}{H:Hp}{x:Str}{u:Value}{pos:Pos}{Q:Value->Shared->Prop}(I:Inv X pins σ H s)(J:Gl X x)(L:X.mg x=none)(U:bootBuiltins x=some u)(h:Q u s)
 (Y:x≠"__name__":=by decide) (hd:(x == ("__debug__":Str))=false:=by decide):wpAny (model X.prog X.w) X.A (eval (.Name x pos) X.env) Q E s:=by
 obtain⟨mb,h1,h2⟩:=I.mod.blt;exact Calls.Name_function_global I.ok.kind J (Calls.loadGlobal_builtin (by rw[I.ok.glob];exact I.mod.glob.keeps I.bk) L (by rw[I.ok.blt];exact h1.keeps I.bk) ((h2 x Y).trans U) h) hd
theorem jY {x:Str}{v:V}{u:Value}{pos:Pos}(J:Gl X x)(L:X.mg x=none)(U:bootBuiltins x=some u)(r:RelV v u)(Y:x≠"__name__":=by decide)(hd:(x == ("__debug__":Str))=false:=by decide):PE X (.Name x pos) (tC v):=
 λ_ _ _ H _ I h=>mC I J L U ⟨v,H,I,r,h⟩ Y hd
variable {a b:Expr}{ta tb:TE}{pos:Pos}
def PC (X:Cx) (op:CmpOp) (a b:Expr) (t:TE):Prop:=
 ∀(pins:List (Addr × Obj)) (s:Shared) (σ:St) (H:Hp) (Q:VK),Inv X pins σ H s->t σ H Q->
  wpAny (model X.prog X.w) X.A (eval a X.env) (λv I=>wpAny (model X.prog X.w) X.A (eval b X.env) (λu J=>wpAny (model X.prog X.w) X.A (compareOp op v u) (EP X pins σ Q) X.xe J) X.xe I) X.xe s
def tB (t:TE):TT:=λσ H Q=>t σ H λx H1=>∃c,x=.bl c/\Q c H1
theorem Ho {op:CmpOp}{t:TE}(h:PC X op a b t)(h1:behindInMarks op b=false:=by first|exact J _ (by decide) (by decide)|rfl):PE X (.Compare a [op] [b] pos) t:=λpins s σ H Q I hw=>wpAny_Compare1 (h pins s σ H Q I hw) h1
theorem r8 {op:CmpOp}{t:TE}(h:PC X op a b t)(h1:behindInMarks op b=false:=by first|exact J _ (by decide) (by decide)|rfl):PT X (.Compare a [op] [b] pos) (tB t):=by
 intro pins s σ H Q I hw;refine wpAny_isTrue_Compare1 (gB (h pins s σ H _ I hw) λv s1 h1=>gB h1 λu s2 h2=>gB h2 λc s3 zq=>?_) h1;obtain⟨x,H1,L,U,Y⟩:=zq;obtain⟨d,rfl,q⟩:=Y
 cases U;exact wpAny_truthy_bool ⟨H1,L,q⟩
theorem jf {e:Expr}{t:TE}(h:PE X e t)(L:∀J,isTrue e X.env J=(do let v <-J;standAt e.pos;holding [v] (truthy v)):=by intro _;rfl):PT X e (tB t):=by
 intro pins s σ H Q I hw;refine isTrue_plain (gB (h pins s σ H _ I hw) λv s1 zq=>?_) (L _);obtain⟨x,H1,U,Y,q1⟩:=zq;obtain⟨d,rfl,q⟩:=q1
 cases Y;exact wpAny_truthy_bool ⟨H1,U,q⟩
variable {tA r_:TT}{rest:List Expr}
def Hq (t u:TT):TT:=λσ H Q=>t σ H λc H1=>if c=true then u σ H1 Q else Q false H1
def BK (t u:TT):TT:=λσ H Q=>t σ H λc H1=>if c=true then Q true H1 else u σ H1 Q
def Hr (t:TT):TT:=λσ H Q=>t σ H λc H1=>Q (!c) H1
theorem oq (J:PT X a tA):PW X (.BoolOp .And [a] pos) tA:=by
 intro L pins s σ H Q I h;refine isTrue_and (gB (J pins s σ H Q I h) λc U e=>?_)
 cases c with
 |true=>exact isTrue_and_nil e
 |false=>exact e
theorem kM (J:PT X a tA):PW X (.BoolOp .Or [a] pos) tA:=by
 intro L pins s σ H Q I h;refine isTrue_or (gB (J pins s σ H Q I h) λc U e=>?_)
 cases c with
 |false=>exact isTrue_or_nil e
 |true=>exact e
theorem m_ (U:PT X a tA)(Y:PW X (.BoolOp .And (b::rest) pos) r_):PW X (.BoolOp .And (a::b::rest) pos) (Hq tA r_):=by
 intro wh pins s σ H Q I h;refine isTrue_and (gB (U pins s σ H _ I h) λc s1 ⟨H1,J,L⟩=>?_)
 cases c with
 |true=>exact Y wh pins s1 σ H1 Q J L
 |false=>exact⟨H1,J,L⟩
theorem kg (U:PT X a tA)(Y:PW X (.BoolOp .Or (b::rest) pos) r_):PW X (.BoolOp .Or (a::b::rest) pos) (BK tA r_):=by
 intro wh pins s σ H Q I h;refine isTrue_or (gB (U pins s σ H _ I h) λc s1 ⟨H1,J,L⟩=>?_)
 cases c with
 |true=>exact⟨H1,J,L⟩
 |false=>exact Y wh pins s1 σ H1 Q J L
theorem jq (J:PT X a tA):PT X (.UnaryOp .Not a pos) (Hr tA):=by
 intro pins s σ H Q I h;exact isTrue_not (J pins s σ H (λc H1=>Q (!c) H1) I h)
def Hs (ta tb:TE):TE:=λσ H Q=>ta σ H λx H1=>∃c,x=.bl c/\if c=true then tb σ H1 Q else Q (.bl false) H1
def Hu (ta tb:TE):TE:=λσ H Q=>ta σ H λx H1=>∃c,x=.bl c/\if c=true then Q (.bl true) H1 else tb σ H1 Q
def Hv (ta:TE):TE:=λσ H Q=>ta σ H λx H1=>∃c,x=.bl c/\Q (.bl (!c)) H1
theorem ot {op}{t:TE}(h:PE X a t):PE X (.BoolOp op [a] pos) t:=λpins s σ H Q I hw=>BoolOp_one (h pins s σ H Q I hw)
theorem ng (U:PE X a ta)(Y:PE X (.BoolOp .And (b::rest) pos) tb):PE X (.BoolOp .And (a::b::rest) pos) (Hs ta tb):=by
 intro pins s σ H Q I h;refine BoolOp_and (gB (U pins s σ H _ I h) λv s1 zq=>?_);obtain⟨x,H1,L,r1,J⟩:=zq;obtain⟨c,rfl,J⟩:=J
 cases r1;refine wpAny_truthy_bool ?_
 cases c with
 |true=>exact Y pins s1 σ H1 Q L J
 |false=>exact⟨.bl false,H1,L,rfl,J⟩
theorem Hw (U:PE X a ta)(Y:PE X (.BoolOp .Or (b::rest) pos) tb):PE X (.BoolOp .Or (a::b::rest) pos) (Hu ta tb):=by
 intro pins s σ H Q I h;refine BoolOp_or (gB (U pins s σ H _ I h) λv s1 zq=>?_);obtain⟨x,H1,L,r1,J⟩:=zq;obtain⟨c,rfl,J⟩:=J
 cases r1;refine wpAny_truthy_bool ?_
 cases c with
 |false=>exact Y pins s1 σ H1 Q L J
 |true=>exact⟨.bl true,H1,L,rfl,J⟩
theorem Hx (L:PE X a ta):PE X (.UnaryOp .Not a pos) (Hv ta):=by
 intro pins s σ H Q I h;refine UnaryOp_ (gB (L pins s σ H _ I h) λv s1 zq=>?_);obtain⟨x,H1,U,Y,J⟩:=zq;obtain⟨c,rfl,J⟩:=J
 cases Y;exact not_of (wpAny_truthy_bool ⟨.bl (!c),H1,U,rfl,J⟩)
def BL (t:TT) (ta tb:TE):TE:=λσ H Q=>t σ H λc H1=>if c=true then ta σ H1 Q else tb σ H1 Q
theorem uR {c:Expr}(hc:PT X c tA)(Y:PE X a ta)(hb:PE X b tb):PE X (.IfExp c a b pos) (BL tA ta tb):=by
 intro pins s σ H Q I h;refine wpAny_IfExp (gB (hc pins s σ H _ I h) λd J ⟨H1,L,U⟩=>?_)
 cases d with
 |true=>exact Y pins J σ H1 Q L U
 |false=>exact hb pins J σ H1 Q L U
end
def f_ (K:W.Frag) (H:Hp) (a:Addr) (xs:List V):Prop:=
 Rd H a (.lst xs)\/
  ∃(o:Obj) (I:Array Value) (n:Nat),K.lookup a=some o/\o.cls=.type "list"/\o.dict=none/\o.data=.seq I n/\I.size<=sizeLine/\Vals xs I.toList
def f9 (K:W.Frag) (H:Hp) (a:Addr) (xs:List V):Prop:=
 Rd H a (.tup xs)\/
  ∃(o:Obj) (I:Array Value) (n:Nat),K.lookup a=some o/\o.cls=.type "tuple"/\o.data=.seq I n/\I.size<=sizeLine/\Vals xs I.toList
noncomputable def Hy:Value->Option V
 | .none=>some .non
 | .bool b=>some (.bl b)
 | .int i _=>some (.int i)
 | .str x _=>some (.str x)
 | .bytes b _=>some (.k_ b)
 | .float b _=>some (.flt b)
 | .ref a=>some (.ref a)
 | .type n=>some (.ty n)
 |_=>none
theorem RelV.abs {x:V}{u:Value}(r:RelV x u):Hy u=some x:=by
 cases x with
 |non=>cases r;rfl
 |bl _=>cases r;rfl
 |int _=>obtain⟨t,rfl⟩:=r;rfl
 |str _=>obtain⟨t,rfl⟩:=r;rfl
 |k_ _=>obtain⟨t,rfl⟩:=r;rfl
 |flt _=>obtain⟨t,rfl⟩:=r;rfl
 |ref _=>cases r;rfl
 |ty _=>cases r;rfl
theorem RelV.inj {x y:V}{u:Value}(r:RelV x u)(q:RelV y u):x=y:=Option.some.inj (r.abs.symm.trans q.abs)
theorem Vals.inj:∀{xs ys:List V}{us:List Value},Vals xs us->Vals ys us->xs=ys
 |_,_,_,.nil,.nil=>rfl
 |_,_,_,.cons r t,.cons I t'=>by rw[r.inj I,Vals.inj t t']
section
variable {X:Cx}{pins:List (Addr × Obj)}{σ:St}{H:Hp}{s:Shared}{a:Addr}{xs ys:List V}
theorem f_.of {K:W.Frag}(h:H a=some (.lst xs)):f_ K H a xs:=.inl (.inl h)
theorem f9.of {K:W.Frag}(h:H a=some (.tup xs)):f9 K H a xs:=.inl (.inl h)
theorem Inv.list (I:Inv X pins σ H s)(h:f_ X.K H a xs):∃J:List Value,Vals xs J/\PlainL s.heap a J.toArray/\xs.length<=sizeLine:=by
 rcases h with h|⟨o,J,n,L,hc,U,Y,hz,r⟩
 . obtain⟨z,J,n,r,e⟩:=h.ok I.hok;exact⟨J,r,⟨_,n,e,rfl,rfl,rfl⟩,z⟩
 . refine⟨J.toList,r,⟨o,n,I.i4 a o L,hc,U,by simpa using Y⟩,?_⟩;have e:=r.length;simp only[Q1e] at e;omega
theorem Inv.tuple (I:Inv X pins σ H s)(h:f9 X.K H a xs):∃J:List Value,Vals xs J/\IsTup s.heap a J.toArray/\xs.length<=sizeLine:=by
 rcases h with h|⟨o,J,n,L,hc,U,Y,r⟩
 . obtain⟨z,J,r,p⟩:=h.ok I.hok;exact⟨J,r,p,z⟩
 . refine⟨J.toList,r,⟨o,I.i4 a o L,hc,n,by simpa using U⟩,?_⟩;have e:=r.length;simp only[Q1e] at e;omega
theorem Inv.sd (I:Inv X pins σ H s)(h:f_ X.K H a xs)(h':f_ X.K H a ys):xs=ys:=by
 obtain⟨J,r,⟨o,n,e,_,_,d⟩,_⟩:=I.list h;obtain⟨its',U,⟨o',n',L,_,_,d'⟩,_⟩:=I.list h';rw[e] at L;cases L;rw[d] at d';injection d' with Y _
 have:J=its':=by simpa using congrArg Array.toList Y
 subst this;exact r.inj U
theorem Inv.Hz (I:Inv X pins σ H s)(h:f9 X.K H a xs)(h':f9 X.K H a ys):xs=ys:=by
 obtain⟨J,r,⟨o,e,_,n,d⟩,_⟩:=I.tuple h;obtain⟨its',U,⟨o',L,_,n',d'⟩,_⟩:=I.tuple h';rw[e] at L;cases L;rw[d] at d';injection d' with Y _
 have:J=its':=by simpa using congrArg Array.toList Y
 subst this;exact r.inj U
end
noncomputable abbrev Cx.wish (X:Cx) (E:Value->Shared->Prop):Cx:={ X with xe:=E }
noncomputable abbrev Cx.gN (X:Cx):Cx:=X.wish λ_ _=>False
theorem Cx.Ok.wish {X:Cx}(ok:X.Ok)(E:Value->Shared->Prop):(X.wish E).Ok:=
 ⟨ok.mod,ok.kind,ok.glob,ok.blt,ok.above,ok.inj,ok.has,ok.cab,ok.hd,ok.frames,ok.stk,ok.qF,ok.bs,ok.kL,ok.m9,ok.oj,ok.jW,ok.md⟩
theorem Cx.Ok.mD {X:Cx}{E:Value->Shared->Prop}(ok:(X.wish E).Ok):X.Ok:=
 ⟨ok.mod,ok.kind,ok.glob,ok.blt,ok.above,ok.inj,ok.has,ok.cab,ok.hd,ok.frames,ok.stk,ok.qF,ok.bs,ok.kL,ok.m9,ok.oj,ok.jW,ok.md⟩
section
variable {X:Cx}{pins:List (Addr × Obj)}{σ:St}{H:Hp}{s:Shared}{E:Value->Shared->Prop}
theorem Inv.wish (I:Inv X pins σ H s)(E:Value->Shared->Prop):Inv (X.wish E) pins σ H s:=⟨I.ok.wish E,I.os,I.bare,I.base,I.loc,I.cell,I.free,I.jy,I.pin,I.hok,I.len⟩
theorem Inv.mD (I:Inv (X.wish E) pins σ H s):Inv X pins σ H s:=⟨I.ok.mD,I.os,I.bare,I.base,I.loc,I.cell,I.free,I.jy,I.pin,I.hok,I.len⟩
theorem SP.mD {D:Ends}{f:Flow}{s':Shared}(h:SP (X.wish E) pins D f s'):SP X pins D f s':=by
 cases f with
 |next=>obtain⟨J,H',I,q⟩:=h;exact⟨J,H',I.mD,q⟩
 |brk=>obtain⟨J,H',I,q⟩:=h;exact⟨J,H',I.mD,q⟩
 |cont=>obtain⟨J,H',I,q⟩:=h;exact⟨J,H',I.mD,q⟩
 |ret u=>obtain⟨v,J,H',I,r,q⟩:=h;exact⟨v,J,H',I.mD,r,q⟩
theorem jX.gN {st:List Stmt}{t:TS}(h:jX X.gN st t):jX X st t:=λpins s σ H D I hw=>
 Q0s (h pins s σ H D (I.wish _) hw) (λ_ _ q=>q.mD) λ_ _ z=>False.elim z
end
section
variable {X:Cx}{st:Stmt}{rest:List Stmt}{t u:TS}{e:Expr}{te:TE}{pos:Pos}
def BN:TS:=λD σ H=>D.nx σ H
def sg (t u:TS):TS:=λD σ H=>t { D with nx:=u D } σ H
theorem gH:jX X [] BN:=λ_ _ σ H _ I h=>wpAny_execs_nil ⟨σ,H,I,h⟩
theorem e_ (h1:PS X st t)(h2:jX X rest u):jX X (st::rest) (sg t u):=by
 intro pins s σ H D I h;refine wpAny_execs_cons (gB (h1 pins s σ H { D with nx:=u D } I h) λf L q=>?_)
 cases f with
 |next=>
  obtain⟨J,H',U,q⟩:=q;exact h2 pins L J H' D U q
 |ret v=>exact q
 |brk=>exact q
 |cont=>exact q
theorem gi (h1:PS X st t):jX X [st] t:=by
 intro pins s σ H D I h;refine wpAny_execs_cons (gB (h1 pins s σ H D I h) λf J q=>?_)
 cases f with
 |next=>exact wpAny_execs_nil q
 |ret v=>exact q
 |brk=>exact q
 |cont=>exact q
theorem Inv.quiet {pins:List (Addr × Obj)}{σ:St}{H:Hp}{s:Shared}(I:Inv X pins σ H s):interactive X.env=false:=by simp[interactive,I.ok.kind]
def HA (te:TE):TS:=λD σ H=>te σ H λ_ H1=>D.nx σ H1
theorem kh (J:PE X e te)(L:swapsWith e none pos.line X.env=pure false:=by rfl):PS X (.Expr e pos) (HA te):=by
 intro pins s σ H D I h;exact wpAny_Expr_any (gB (J pins s σ H _ I h) λv s1 ⟨x,H1,U,r1,Y⟩=>⟨σ,H1,U,Y⟩) I.quiet L
def HC (te:TE):TS:=λD σ H=>te σ H D.rt
theorem gw (J:PE X e te):PS X (.Return (some e) pos) (HC te):=by
 intro pins s σ H D I h;exact wpAny_Return_some (gB (J pins s σ H _ I h) λv s1 ⟨x,H1,L,U,Y⟩=>⟨x,σ,H1,L,U,Y⟩)
def lP (c:TT) (t u:TS):TS:=λD σ H=>c σ H λb H1=>if b=true then t D σ H1 else u D σ H1
theorem gF {c:Expr}{a b:List Stmt}{tc:TT}(hc:PT X c tc)(Y:jX X a t)(hb:jX X b u):PS X (.If c a b pos) (lP tc t u):=by
 intro pins s σ H D I h;refine wpAny_If (gB (hc pins s σ H _ I h) λd J ⟨H1,L,U⟩=>?_)
 cases d with
 |true=>exact Y pins J σ H1 D L U
 |false=>exact hb pins J σ H1 D L U
def BO:TS:=λ_ _ _=>False
theorem me:PS X st BO:=λ_ _ _ _ _ _ h=>h.elim
theorem BP {I:List Stmt}:jX X I BO:=λ_ _ _ _ _ _ h=>h.elim
end
noncomputable abbrev TG:=V->St->Hp->(St->Hp->Prop)->Prop
noncomputable abbrev ou:=List V->St->Hp->(St->Hp->Prop)->Prop
def PG (X:Cx) (I:Expr) (t:TG):Prop:=
 ∀(pins:List (Addr × Obj)) (s:Shared) (σ:St) (H:Hp) (v:V) (u:Value) (Q:St->Hp->Prop),Inv X pins σ H s->RelV v u->t v σ H Q->
  wpAny (model X.prog X.w) X.A (assign I X.env u) (λ_ s'=>∃J H',Inv X pins J H' s'/\Q J H') X.xe s
def sj (X:Cx) (J:List Expr) (t:ou):Prop:=
 ∀(pins:List (Addr × Obj)) (s:Shared) (σ:St) (H:Hp) (vs:List V) (us:List Value) (Q:St->Hp->Prop),Inv X pins σ H s->Vals vs us->t vs σ H Q->
  wpAny (model X.prog X.w) X.A (assignInOrder ((assignEach J X.env).map (·.2)) us) (λ_ s'=>∃I H',Inv X pins I H' s'/\Q I H') X.xe s
noncomputable abbrev uS:=V->V->V->Hp->(Hp->Prop)->Prop
def BQ (X:Cx) (t:uS):Prop:=
 ∀(pins:List (Addr × Obj)) (s:Shared) (σ:St) (H:Hp) (o i v:V) (I J u:Value) (Q:Hp->Prop),Inv X pins σ H s->RelV o I->RelV i J->RelV v u->t o i v H Q->
  wpAny (model X.prog X.w) X.A (setItem I J u) (λ_ s'=>∃H',Inv X pins σ H' s'/\Q H') X.xe s
section
variable {X:Cx}{pos:Pos}
def iH (i:Nat):TG:=λv σ H Q=>Q (σ.set i (some v)) H
theorem gY {i:Nat}{x:Str}(J:X.N.Nodup)(hi:X.N[i]? =some x)(L:Loc X.env.scope x)(U:X.fn x=true\/X.env.scope.names.lookup x=some .local:=by first|exact .inl rfl|exact .inr rfl|assumption):PG X (.Name x pos) (iH i):=by
 intro pins s σ H v u Q I r h;exact wpAny_assign_Name (qH I J hi L r (λs' Y=>⟨_,H,Y,h⟩) U)
def sr:ou:=λvs σ H Q=>vs=[]/\Q σ H
def ow (t:TG) (u:ou):ou:=λvs σ H Q=>∃v r,vs=v::r/\t v σ H λI H'=>u r I H' Q
theorem lQ:sj X [] sr:=by
 intro pins s σ H vs us Q I r h;obtain⟨e,h⟩:=h;subst e
 cases r;exact assignInOrder_nil ⟨σ,H,I,h⟩
theorem ji {e:Expr}{es:List Expr}{t:TG}{u:ou}(h1:PG X e t)(h2:sj X es u)
 (L:(assignEach (e::es) X.env).map (·.2)=assign e X.env::(assignEach es X.env).map (·.2):=by rfl):sj X (e::es) (ow t u):=by
 intro pins s σ H vs us Q I r h;obtain⟨v,vr,U,h⟩:=h;subst U
 cases r with
 |cons r Y=>
  rw[L];refine assignInOrder_cons (gB (h1 pins s σ H _ _ _ I r h) λ_ s1 zq=>?_);obtain⟨J,H1,I1,q1⟩:=zq;exact h2 pins s1 J H1 _ _ Q I1 Y q1
def su (K:W.Frag) (n:Nat) (t:ou):TG:=λv σ H Q=>∃a xs,v=.ref a/\f9 K H a xs/\xs.length=n/\t xs σ H Q
theorem lU {es:List Expr}{k:Nat}{t:ou}{n:Nat}(hc:X.calm=true)(h:sj X es t)
 (U:(assignEach es X.env).length=n:=by rfl) (J:(assignEach es X.env).findIdx? (·.1)=none:=by rfl):PG X (.Tuple es k pos) (su X.K n t):=by
 intro pins s σ H v u Q I r hw;obtain⟨a,xs,Y,hq,hl,hw⟩:=hw;subst Y
 cases r;obtain⟨aa,L,ht,hz⟩:=I.tuple hq;refine assign_Tuple_tuple (I.ok.hd hc) ht (by simp[U,<-hl,L.length]) J λh' hx=>?_;have I1:Inv X pins σ H { s with heap:=h' }:=I.kept (t':=s.toks) λb o e=>hx b o (Q0c (Q04 e)) e;exact h pins _ σ H xs _ Q I1 (by simpa using L) hw
def HD (to I:TE) (t:uS):TG:=λv σ H Q=>to σ H λo H1=>I σ H1 λi H2=>t o i v H2 λJ=>Q σ J
theorem HE {o i:Expr}{to U:TE}{t:uS}(Y:PE X o to)(hi:PE X i U)(hs:BQ X t)
 (ha:∀v,assign (.Subscript o i pos) X.env v=(do
   let J <-holding [v] (eval o X.env);let L <-holding [v,J] (eval i X.env)
   standAt pos
   holding [v,J,L] (setItem J L v)
   release [v,J,L] []):=by intro _;rfl):PG X (.Subscript o i pos) (HD to U t):=by
 intro pins s σ H v u Q I r h;rw[ha];refine Q01 (wpAny_holding (gB (Y pins s σ H _ I h) λJ s1 zq=>?_));obtain⟨x,H1,I1,r1,q1⟩:=zq;refine Q01 (wpAny_holding (gB (hi pins s1 σ H1 _ I1 q1) λL s2 zq=>?_));obtain⟨y,H2,I2,r2,q2⟩:=zq;refine Q01 (wpAny_standAt (Q01 (wpAny_holding (gB (hs pins s2 σ H2 x y v J L u _ I2 r1 r2 r q2) λ_ s3 ⟨H3,I3,q3⟩=>?_))));exact wpAny_release ⟨σ,H3,I3,q3⟩
def oy (te:TE) (g:TG):TS:=λD σ H=>te σ H λx H1=>g x σ H1 D.nx
theorem BR {tg e:Expr}{te:TE}{g:TG}(J:PE X e te)(L:PG X tg g)(U:swapsWithSole [tg] e pos.line X.env=pure false:=by rfl)(hw:swappedStores [tg] e X.env=pure none:=by rfl)
 (h1:(assignEach [tg] X.env).map (·.2)=[assign tg X.env]:=by rfl):PS X (.Assign [tg] e pos) (oy te g):=by
 intro pins s σ H D I h;refine wpAny_Assign_stores (gB (J pins s σ H _ I h) λv Y zq=>?_) U hw;obtain⟨x,H1,I1,r1,q1⟩:=zq;rw[h1];exact gB (L pins Y σ H1 x v _ I1 r1 q1) λ_ s2 q=>q
theorem BS {i:Nat}{x:Str}{e:Expr}{te:TE}{pos':Pos}(J:X.N.Nodup)(hi:X.N[i]? =some x)(L:Loc X.env.scope x)(U:PE X e te)(Y:swapsWith e (some (.Name x pos')) pos.line X.env=pure false:=by rfl)(hf:X.fn x=true\/X.env.scope.names.lookup x=some .local:=by first|exact .inl rfl|exact .inr rfl|assumption):
 PS X (.Assign [.Name x pos'] e pos) (oy te (iH i)):=by
 intro pins s σ H D I h;refine wpAny_Assign_Name (gB (U pins s σ H _ I h) λv s1 zq=>?_) Y;obtain⟨y,H1,I1,r1,q1⟩:=zq;exact qH I1 J hi L r1 (λs2 I2=>⟨_,H1,I2,q1⟩) hf
end
section
variable {X:Cx}{pos:Pos}
end
structure It where
 go:Nat->Hp->Prop
 lV:Nat->Hp->V->Hp->Prop
 stop:Nat->Hp->Prop
def jA (X:Cx) (pins:List (Addr × Obj)) (H:Hp) (b:Addr):Prop:=
 H b=none/\b≠X.env.locals/\b ∉ X.fs/\(b∈X.ex\/X.s₀.heap.objs.size<=b)/\(∀x c,X.env.cells.lookup x=some c->c≠b)/\∀p∈X.pn++pins,p.1≠b
theorem Inv.nh {X:Cx}{pins:List (Addr × Obj)}{σ:St}{H H':Hp}{s:Shared}{b:Addr}(I:Inv X pins σ H s)(J:s.heap.objs.size<=b)(L:H' b=none):jA X pins H' b:=by
 refine⟨L,Q0x (Q0f I.lt J),I.pz J,.inr (Q0d I.sz J),λx c e z=>?_,λp hp z=>?_⟩
 . obtain⟨v,q⟩:=I.cell x c e;exact absurd (Q0f q.lt (by rw[z];exact J)) (Q0u _)
 . exact absurd (Q0f (Q04 (I.pin p hp).1) (by rw[z];exact J)) (Q0u _)
structure Turn (P:Program) (w:World) (K:W.Frag) (tg:Expr) (J:It) (fp:List Addr) (it:Addr) (tn:Nat->Heap->Prop):Prop where
 mem:it∈fp
 obj:∀i h,tn i h->∀b∈fp,∃o,h.get? b=some o/\∀v,o.data≠ .cell v
 keep:∀i h h',tn i h->(∀b∈fp,∀o,h.get? b=some o->h'.get? b=some o)->tn i h'
 item:∀(X:Cx),X.prog=P->X.w=w->X.K=K->X.calm=true->∀(i:Nat) (pins:List (Addr × Obj)) (s:Shared) (σ:St) (H:Hp) (E:Value->Shared->Prop),Inv X pins σ H s->(∀b∈fp,jA X pins H b)->tn i s.heap->J.go i H->
  wpAny (model P w) X.A (pyNext (.ref it)) (λr s1=>∃u,r=some u/\
   wpAny (model P w) X.A (letOwnedTupleGo tg (.ref it) u) (λ_ s2=>∃x H',Inv X pins σ H' s2/\RelV x u/\J.lV i H x H'/\tn (i+1) s2.heap/\∀b∈fp,H' b=none) E s1) E s
 done:∀(X:Cx),X.prog=P->X.w=w->X.K=K->X.calm=true->∀(i:Nat) (pins:List (Addr × Obj)) (s:Shared) (σ:St) (H:Hp) (E:Value->Shared->Prop),Inv X pins σ H s->(∀b∈fp,jA X pins H b)->tn i s.heap->J.stop i H->
  wpAny (model P w) X.A (pyNext (.ref it)) (λr s1=>r=none/\Inv X pins σ H s1) E s
 self:∀(A:Around) (i:Nat) (s:Shared) (Q:Value->Shared->Prop) (E:Value->Shared->Prop),tn i s.heap->Q (.ref it) s->wpAny (model P w) A (pyIter (.ref it)) Q E s
noncomputable abbrev TI:=St->Hp->(It->Hp->Prop)->Prop
def PIE (X:Cx) (pins:List (Addr × Obj)) (σ:St) (tg:Expr) (R:It->Hp->Prop) (I:Value) (L:Shared):Prop:=
 ∃(it:Addr) (U:List Addr) (Y:Nat->Heap->Prop) (J:It) (H':Hp),I=.ref it/\Inv X pins σ H' L/\Turn X.prog X.w X.K tg J U it Y/\Y 0 L.heap/\(∀b∈U,jA X pins H' b)/\R J H'
def PI (X:Cx) (tg iter:Expr) (I:TI):Prop:=
 ∀(pins:List (Addr × Obj)) (s:Shared) (σ:St) (H:Hp) (R:It->Hp->Prop),Inv X pins σ H s->I σ H R->
  wpAny (model X.prog X.w) X.A (eval iter X.env) (λv J=>wpAny (model X.prog X.w) X.A (pyIter v) (PIE X pins σ tg R) X.xe J) X.xe s
theorem sy {M:Model}{A:Around}{E:Value->Shared->Prop}{s:Shared}{tg:Expr}{it:Addr}{u:Value}{o:Obj}{n:String}{vs:Array Value}{Q:Unit->Shared->Prop}(J:s.heap.get? it=some o)(hc:o.cls=.type n)(L:o.data=.fields vs)
 (U:["enumerate","zip","dict_itemiterator","dict_reverseitemiterator","odict_iterator","itertools.zip_longest","itertools.pairwise"].contains n=false) (I:Q () s):wpAny M A (letOwnedTupleGo tg (.ref it) u) Q E s:=by
 unfold letOwnedTupleGo
 cases tg <;> first
  |exact Q0e I
  |(cases u <;> first
     |exact Q0e I
     |(refine Q01 (wpAny_load J ?_)
       rw[hc,L];show wpAny M A (if(["enumerate","zip","dict_itemiterator","dict_reverseitemiterator","odict_iterator","itertools.zip_longest","itertools.pairwise"].contains n && vs[0]? == some (rawInt _))=true then _ else _) Q E s;rw[if_neg (by intro h;rw[U,Bool.false_and] at h;cases h)];exact Q0e I))
noncomputable def pA (K:W.Frag) (a:Addr):It:=
 ⟨λi H=>∃xs x,f_ K H a xs/\xs[i]? =some x,λi H x H'=>H'=H/\∀xs,f_ K H a xs->xs[i]? =some x,λi H=>∃xs,f_ K H a xs/\xs.length<=i⟩
noncomputable def pB (K:W.Frag) (a:Addr):It:=
 ⟨λi H=>∃xs x,f9 K H a xs/\xs[i]? =some x,λi H x H'=>H'=H/\∀xs,f9 K H a xs->xs[i]? =some x,λi H=>∃xs,f9 K H a xs/\xs.length<=i⟩
noncomputable def oz (lo:Int) (n:Nat):It:=⟨λi _=>i<n,λi H x H'=>H'=H/\x=.int (lo+i),λi _=>n<=i⟩
theorem HF {P:Program}{w:World}{K:W.Frag}{tg:Expr}(a it:Addr):Turn P w K tg (pA K a) [it] it (λi h=>h.IsListIter it a i) where
 mem:=by simp
 obj:=λi h st b J=>by
  have e:b=it:=by simpa using J
  subst e;obtain⟨o,e,c,d⟩:=st;exact⟨o,e,λv z=>by rw[d] at z;cases z⟩
 keep:=λi h h' st k=>st.at λo e=>k it (by simp) o e
 item:=by
  intro X hP hw hK hc i pins s σ H E I U st hg;subst hP hw hK;obtain⟨xs,x,Y,hx⟩:=hg;obtain⟨aa,rv,p,hz⟩:=I.list Y;obtain⟨u,hu,ru⟩:=rv.get hx;obtain⟨f0,f1,f2,f3,f4,f5⟩:=U it (by simp);refine wpAny_pyNext_list_item st p.isList (x:=u) (by simpa using hu) λh' L sb=>?_;have I1:Inv X pins σ H { s with heap:=h' }:=I.turned (t':=s.toks) (λb o J e=>(sb.2 b J).trans e) f0 f1 f3 f4 f5;obtain⟨o,e,c,d⟩:=id L;exact⟨u,rfl,sy (s:={ s with heap:=h' }) e c d (by decide) ⟨x,H,I1,ru,⟨rfl,λys hy=>by rw[I.sd hy Y];exact hx⟩,L,λb J=>(U b J).1⟩⟩
 done:=by
  intro X hP hw hK hc i pins s σ H E I U st hg;subst hP hw hK;obtain⟨xs,Y,hx⟩:=hg;obtain⟨aa,rv,p,hz⟩:=I.list Y;obtain⟨f0,f1,f2,f3,f4,f5⟩:=U it (by simp);have hl:=rv.length;exact wpAny_pyNext_list_end (I.ok.hd hc) st p.isList (by simp;omega) λh' eb=>⟨rfl,I.turned (t':=s.toks) (λb o J e=>eb b o J e) f0 f1 f3 f4 f5⟩
 self:=λ_ _ _ _ _ st h=>wpAny_pyIter_listiter st h
theorem HG {P:Program}{w:World}{K:W.Frag}{tg:Expr}(a it:Addr):Turn P w K tg (pB K a) [it] it (λi h=>h.IsTupleIter it a i) where
 mem:=by simp
 obj:=λi h st b J=>by
  have e:b=it:=by simpa using J
  subst e;obtain⟨o,e,c,d⟩:=st;exact⟨o,e,λv z=>by rw[d] at z;cases z⟩
 keep:=λi h h' st k=>st.at λo e=>k it (by simp) o e
 item:=by
  intro X hP hw hK hc i pins s σ H E I Y st hg;subst hP hw hK;obtain⟨xs,x,hq,hx⟩:=hg;obtain⟨L,rv,p,hz⟩:=I.tuple hq;obtain⟨u,hu,ru⟩:=rv.get hx;obtain⟨f0,f1,f2,f3,f4,f5⟩:=Y it (by simp);refine wpAny_pyNext_tuple_item st (show s.heap.IsTuple a L.toArray from p) (x:=u) (by simpa using hu) λh' U sb=>?_;have I1:Inv X pins σ H { s with heap:=h' }:=I.turned (t':=s.toks) (λb o J e=>(sb.2 b J).trans e) f0 f1 f3 f4 f5;obtain⟨o,e,c,d⟩:=id U;exact⟨u,rfl,sy (s:={ s with heap:=h' }) e c d (by decide) ⟨x,H,I1,ru,⟨rfl,λys hy=>by rw[I.Hz hy hq];exact hx⟩,U,λb J=>(Y b J).1⟩⟩
 done:=by
  intro X hP hw hK hc i pins s σ H E I Y st hg;subst hP hw hK;obtain⟨xs,hq,hx⟩:=hg;obtain⟨L,rv,p,hz⟩:=I.tuple hq;obtain⟨f0,f1,f2,f3,f4,f5⟩:=Y it (by simp);have hl:=rv.length;exact wpAny_pyNext_tuple_end (I.ok.hd hc) st (show s.heap.IsTuple a L.toArray from p) (by simp;omega) λh' eb=>⟨rfl,I.turned (t':=s.toks) (λb o J e=>eb b o J e) f0 f1 f3 f4 f5⟩
 self:=λ_ _ _ _ _ st h=>wpAny_pyIter_tupleiter st h
theorem HH {P:Program}{w:World}{K:PySem.W.Frag}{tg:Expr}(it:Addr)(lo:Int)(n:Nat):Turn P w K tg (oz lo n) [it] it (λi h=>IsRangeIter h it (lo+(i:Nat) * 1) ((n:Int) - (i:Nat)) 1) where
 mem:=by simp
 obj:=λi h st b J=>by
  have e:b=it:=by simpa using J
  subst e
  exact⟨_,st,λv z=>by
   have z':Data.fields _=Data.cell v:=z
   cases z'⟩
 keep:=λi h h' st k=>k it (by simp) _ st
 item:=by
  intro X Y hw hK hc i pins s σ H E I U st hg;subst Y hw hK;obtain⟨f0,f1,f2,f3,f4,f5⟩:=U it (by simp);have W:=Walks.range (prog:=X.prog) (w:=X.w) (I.ok.hd hc) it lo 1 n;refine W.item i s _ _ hg st λv h' tk hv L kk=>?_;obtain⟨t,rfl⟩:=hv;have I1:Inv X pins σ H { s with heap:=h',toks:=tk }:=I.turned (λb o J e=>kk b o (by simpa using J) e) f0 f1 f3 f4 f5;refine⟨_,rfl,sy (s:={ s with heap:=h',toks:=tk }) (n:="range_iterator") L rfl rfl (by decide) ⟨.int (lo+i),H,I1,⟨t,?_⟩,⟨rfl,rfl⟩,L,λb J=>(U b J).1⟩⟩;rw[Int.mul_one]
 done:=by
  intro X Y hw hK hc i pins s σ H E I U st hg;subst Y hw hK;obtain⟨f0,f1,f2,f3,f4,f5⟩:=U it (by simp);exact wpAny_pyNext_range_end (I.ok.hd hc) st (by have:n<=i:=hg;omega) λh' eb=>⟨rfl,I.turned (t':=s.toks) (λb o J e=>eb b o J e) f0 f1 f3 f4 f5⟩
 self:=λ_ _ _ _ _ st h=>wpAny_pyIter_rangeiter st h
section
variable {X:Cx}{tg:Expr}
def HI (K:W.Frag) (tl:TE):TI:=λσ H R=>tl σ H λx H1=>∃a,x=.ref a/\(∃xs,f_ K H1 a xs)/\R (pA K a) H1
def HJ (K:W.Frag) (tl:TE):TI:=λσ H R=>tl σ H λx H1=>∃a,x=.ref a/\(∃xs,f9 K H1 a xs)/\R (pB K a) H1
theorem kP {l:Expr}{tl:TE}(hl:PE X l tl):PI X tg l (HI X.K tl):=by
 intro pins s σ H R I h;refine gB (hl pins s σ H _ I h) λv J zq=>?_;obtain⟨x,H1,L,U,Y⟩:=zq;obtain⟨a,e,⟨xs,hq⟩,q⟩:=Y;subst e
 cases U;obtain⟨aa,rv,p,hz⟩:=L.list hq;refine wpAny_pyIter_list p.isList ?_;refine⟨J.heap.objs.size,[J.heap.objs.size],_,_,H1,rfl,L.kept (t':=J.toks) λb o e=>Q0a _ e,HF a _,⟨_,Q0i _ rfl,rfl,rfl⟩,λb hb=>?_,q⟩;have e:b=J.heap.objs.size:=by simpa using hb
 subst e;exact L.nh (Q00 _) (L.hok.fresh (Q00 _))
theorem lb {l:Expr}{tl:TE}(hl:PE X l tl):PI X tg l (HJ X.K tl):=by
 intro pins s σ H R I h;refine gB (hl pins s σ H _ I h) λv J zq=>?_;obtain⟨x,H1,L,Y,q1⟩:=zq;obtain⟨a,e,⟨xs,hq⟩,q⟩:=q1;subst e
 cases Y;obtain⟨U,rv,p,hz⟩:=L.tuple hq;refine wpAny_pyIter_tuple (show J.heap.IsTuple a U.toArray from p) ?_;refine⟨J.heap.objs.size,[J.heap.objs.size],_,_,H1,rfl,L.kept (t':=J.toks) λb o e=>Q0a _ e,HG a _,⟨_,Q0i _ rfl,rfl,rfl⟩,λb hb=>?_,q⟩;have e:b=J.heap.objs.size:=by simpa using hb
 subst e;exact L.nh (Q00 _) (L.hok.fresh (Q00 _))
theorem BU {pins:List (Addr × Obj)}{σ:St}{H:Hp}{s:Shared}{R:It->Hp->Prop}{E:Value->Shared->Prop}{lo hi:Int}{t u v:Tok}{tk:Nat}(I:Inv X pins σ H s)(h1: -(2 ^ 62)<=lo)(h2:lo<2 ^ 62)(L: -(2 ^ 62)<=hi)(U:hi<2 ^ 62)
 (q:R (oz lo (hi - lo).toNat) H):wpAny (model X.prog X.w) X.A (pyIter (.ref s.heap.objs.size)) (PIE X pins σ tg R) E { s with heap:=s.heap.push { cls:=.type "range",data:=.fields #[.int lo t,.int hi u,.int 1 v] },toks:=tk }:=by
 refine wpAny_pyIter_range (IsRange.new ..) (small_one h1 h2 L U) ?_;have J:Inv X pins σ H { s with heap:=s.heap.push { cls:=.type "range",data:=.fields #[.int lo t,.int hi u,.int 1 v] },toks:=tk }:=I.kept λb o e=>Q0a _ e
 refine⟨(s.heap.push { cls:=.type "range",data:=.fields #[.int lo t,.int hi u,.int 1 v] }).objs.size,[(s.heap.push { cls:=.type "range",data:=.fields #[.int lo t,.int hi u,.int 1 v] }).objs.size],_,_,H,rfl,
  J.kept (t':=tk) λb o e=>Q0a _ e,HH _ lo (hi - lo).toNat,?_,λb Y=>?_,q⟩
 . have e1:lo+((0:Nat):Int) * 1=lo:=by simp
   have e2:(((hi - lo).toNat:Nat):Int) - ((0:Nat):Int)=Builtin.Range.rangeSize lo hi 1:=by rw[rangeSize_one];split <;> omega
   show IsRangeIter _ _ (lo+((0:Nat):Int) * 1) ((((hi - lo).toNat:Nat):Int) - ((0:Nat):Int)) 1;rw[e1,e2];exact Q0i _ rfl
 . have e:b=(s.heap.push { cls:=.type "range",data:=.fields #[.int lo t,.int hi u,.int 1 v] }).objs.size:=by simpa using Y
   subst e;exact J.nh (Q00 _) (J.hok.fresh (Q00 _))
def HK (ta:TA):TI:=λσ H R=>ta σ H λvs H1=>∃j:Int,vs=[.int j]/\ -(2 ^ 62)<=j/\j<2 ^ 62/\R (oz 0 j.toNat) H1
def HL (ta:TA):TI:=λσ H R=>ta σ H λvs H1=>∃i j:Int,vs=[.int i,.int j]/\(-(2 ^ 62)<=i/\i<2 ^ 62/\ -(2 ^ 62)<=j/\j<2 ^ 62)/\R (oz i (j - i).toNat) H1
theorem oA {a:Expr}{ta:TA}{p pos:Pos}(L:Gl X "range")(U:X.mg "range"=none)(Y:PA X [a] ta)(hs:starEach [a] X.env=[(false,eval a X.env)]:=by rfl):PI X tg (.Call (.Name "range" p) [a] [] pos) (HK ta):=by
 intro pins s σ H R I h;refine Call_ (mC I L U boot_range (PyProof.Rows.callWith_type1 (gB (Y pos pins s σ H _ I h) λus s1 zq=>?_) hs rfl));obtain⟨vs,H1,I1,r1,J⟩:=zq;obtain⟨j,e,J,q2,q⟩:=J;subst e
 cases r1 with
 |cons r rr=>
  cases rr;obtain⟨t,rfl⟩:=r;exact call_range_1 (BU I1 (by omega) (by omega) J q2 (by simpa using q))
theorem HM {a b:Expr}{ta:TA}{p pos:Pos}(Y:Gl X "range")(hm:X.mg "range"=none)(ha:PA X [a,b] ta)(hs:starEach [a,b] X.env=[(false,eval a X.env),(false,eval b X.env)]:=by rfl)(J:starEach [b] X.env=[(false,eval b X.env)]:=by rfl):
 PI X tg (.Call (.Name "range" p) [a,b] [] pos) (HL ta):=by
 intro pins s σ H R I h;refine Call_ (mC I Y hm boot_range (PyProof.Rows.callWith_type1 (gB (ha pos pins s σ H _ I h) λus s1 zq=>?_) (by rw[hs,J]) (by rw[J];rfl)));obtain⟨vs,H1,I1,r1,L⟩:=zq;obtain⟨i,j,e,⟨L,q2,q3,q4⟩,q⟩:=L;subst e
 cases r1 with
 |cons r U=>
  cases U with
  |cons r' U=>
   cases U;obtain⟨t,rfl⟩:=r;obtain⟨t',rfl⟩:=r';exact call_range_2 (BU I1 L q2 q3 q4 q)
def HN (Y:TI) (g:TG) (tb:TS):TS:=λD σ H=>Y σ H λJ H1=>∃W:Nat->Nat->St->Hp->Prop,(∃m,W 0 m σ H1)/\∀i m σ H,W i m σ H->
 (J.stop i H/\D.nx σ H)\/(J.go i H/\∃N:St->Hp->Prop,(∀I H',N I H'->∃U,U<m/\W (i+1) U I H')/\∀x H',J.lV i H x H'->g x σ H' λL H2=>tb { D with nx:=N,ct:=N,bk:=D.nx } L H2)
noncomputable def sA (I:List Addr) (h:Heap):List (Addr × Obj):=I.filterMap λb=>(h.get? b).map λo=>(b,o)
theorem qI {I:List Addr}{h:Heap}{b:Addr}{o:Obj}(J:b∈I)(e:h.get? b=some o):(b,o)∈sA I h:=List.mem_filterMap.mpr ⟨b,J,by rw[e];rfl⟩
theorem HP {I:List Addr}{h:Heap}{p:Addr × Obj}(hp:p∈sA I h):p.1∈I/\h.get? p.1=some p.2:=by
 obtain⟨b,J,e⟩:=List.mem_filterMap.mp hp
 cases q:h.get? b with
 |none=>rw[q] at e;cases e
 |some o=>
  rw[q] at e;have L:(b,o)=p:=Option.some.inj e;subst L;exact⟨J,q⟩
theorem Inv.pinned {pins:List (Addr × Obj)}{σ:St}{H:Hp}{s:Shared}{J:List Addr}(I:Inv X pins σ H s)(Y:∀b∈J,jA X pins H b)(ho:∀b∈J,∃o,s.heap.get? b=some o/\∀v,o.data≠ .cell v):Inv X (pins++sA J s.heap) σ H s:=
 I.om λp hp=>(List.mem_append.mp hp).elim (λz=>I.pin p (Q08 _ z)) λz=>by
   obtain⟨L,e⟩:=HP z;obtain⟨f0,f1,f2,_⟩:=Y p.1 L;obtain⟨o,U,d⟩:=ho p.1 L;rw[e] at U;cases U;exact⟨e,f0,f1,f2,d⟩
theorem Inv.mE {pins pl:List (Addr × Obj)}{σ:St}{H:Hp}{s:Shared}(I:Inv X (pins++pl) σ H s):Inv X pins σ H s:=I.om λp hp=>I.pin p (Q08 _ (Q0t _ hp))
theorem jk {iter:Expr}{body:List Stmt}{wi:TI}{g:TG}{tb:TS}{pos:Pos}(hp:PassesOwn (model X.prog X.w) X.A X.env X.xe)(hc:X.calm=true)(hi:PI X tg iter wi)(hg:PG X tg g)(U:jX X body tb)
 (hs:∀x,foldedSetIterable iter X.env x=pure x:=by intro _;rfl):PS X (.For tg iter body [] pos) (HN wi g tb):=by
 intro pins s σ H D I h;refine wpAny_For (gB (hi pins s σ H _ I h) λv s1 h1=>gB h1 λal s2 h2=>?_) hs;obtain⟨it,fp,tn,J,H2,e,I2,T,ah,f2,W,⟨m0,w0⟩,turn⟩:=h2;subst e;have ac:∀{H':Hp},(∀b∈fp,H' b=none)->∀b∈fp,jA X pins H' b:=λhn b U=>⟨hn b U,(f2 b U).2⟩;refine codeAny_forLoop_any (λn s'=>∃i aa H',Inv X pins aa H' s'/\tn i s'.heap/\(∀b∈fp,H' b=none)/\W i n aa H') ?_ m0 ⟨0,σ,H2,I2,ah,λb U=>(f2 b U).1,w0⟩;intro n s3 zq;obtain⟨i,ab,H3,I3,af,ag,w3⟩:=zq;rcases turn i n ab H3 w3 with⟨stop,qn⟩|⟨go,N,hN,step⟩
 . refine wpAny_passesOwn hp (gB (T.done X rfl rfl rfl hc i pins s3 ab H3 X.xe I3 (ac ag) af stop) λr s4 ⟨hr,I4⟩=>?_);subst hr;exact wpAny_execs_nil ⟨ab,H3,I4,qn⟩
 . refine wpAny_passesOwn hp (gB (T.item X rfl rfl rfl hc i pins s3 ab H3 X.xe I3 (ac ag) af go) λr s4 ⟨u,hr,h4⟩=>?_);subst hr;refine wpAny_passesOwn hp (gB h4 λ_ s5 zq=>?_);obtain⟨x,H5,I5,r5,y5,ae,ai⟩:=zq;have aj:=I5.pinned (ac ai) (T.obj _ _ ae);refine wpAny_passesOwn hp (gB (hg _ s5 ab H5 x u _ aj r5 (step x H5 y5)) λ_ s6 zq=>?_);obtain⟨ak,H6,I6,q6⟩:=zq;refine wpAny_passesOwn hp (gB (U _ s6 ak H6 _ I6 q6) λf s7 q7=>?_)
   have again:∀{L:St} {Y:Hp},Inv X (pins++sA fp s5.heap) L Y s7->N L Y->∃m,m<n/\∃i aa H',Inv X pins aa H' s7/\tn i s7.heap/\(∀b∈fp,H' b=none)/\W i m aa H':=λ{L Y} I7 n7=>by
    obtain⟨m',hm,w7⟩:=hN L Y n7;refine⟨m',hm,i+1,L,Y,I7.mE,T.keep _ _ _ ae λb U o e=>(I7.pin (b,o) (Q08 _ (Q08 _ (qI U e)))).1,λb U=>?_,w7⟩;obtain⟨o,e,d⟩:=T.obj _ _ ae b U;exact(I7.pin (b,o) (Q08 _ (Q08 _ (qI U e)))).2.1
   cases f with
   |next=>obtain⟨L,Y,I7,n7⟩:=q7;exact again I7 n7
   |cont=>obtain⟨L,Y,I7,n7⟩:=q7;exact again I7 n7
   |brk=>obtain⟨L,Y,I7,q7⟩:=q7;exact⟨L,Y,I7.mE,q7⟩
   |ret v=>obtain⟨x7,L,Y,I7,r7,q7⟩:=q7;exact⟨x7,L,Y,I7.mE,r7,q7⟩
end
theorem oB {K:PySem.W.Frag}{a:Addr}{xs:List V}{g:TG}{tb:TS}{D:Ends}{σ:St}{H:Hp}(Pv:Nat->St->Hp->Prop)(Y:Pv 0 σ H)(hl:∀i σ H,i<=xs.length->Pv i σ H->f_ K H a xs)
 (hs:∀i x σ H,xs[i]? =some x->Pv i σ H->g x σ H λI H2=>tb { D with nx:=Pv (i+1),ct:=Pv (i+1),bk:=D.nx } I H2) (hd:∀σ H,Pv xs.length σ H->D.nx σ H):
 ∃W:Nat->Nat->St->Hp->Prop,(∃m,W 0 m σ H)/\∀i m σ H,W i m σ H->
  ((pA K a).stop i H/\D.nx σ H)\/((pA K a).go i H/\∃N:St->Hp->Prop,(∀J H',N J H'->∃U,U<m/\W (i+1) U J H')/\∀x H',(pA K a).lV i H x H'->g x σ H' λI H2=>tb { D with nx:=N,ct:=N,bk:=D.nx } I H2):=by
 refine⟨λi m σ H=>m=xs.length - i/\i<=xs.length/\Pv i σ H,⟨xs.length,by simp,Q0g _,Y⟩,?_⟩;rintro i m σ H ⟨rfl,hi,p⟩;have q:=hl i σ H hi p;by_cases L:i<xs.length
 . refine .inr ⟨⟨xs,xs[i],q,by simp[L]⟩,Pv (i+1),λJ H' p'=>⟨xs.length - (i+1),by omega,rfl,L,p'⟩,λx H' y=>?_⟩;obtain⟨e,y⟩:=y;subst e;exact hs i x σ _ (y xs q) p
 . have e:i=xs.length:=by omega
   subst e;exact .inl ⟨⟨xs,q,Q00 _⟩,hd σ H p⟩
theorem sE {K:PySem.W.Frag}{a:Addr}{xs:List V}{g:TG}{tb:TS}{D:Ends}{σ:St}{H:Hp}(Pv:Nat->St->Hp->Prop)(Y:Pv 0 σ H)(hl:∀i σ H,i<=xs.length->Pv i σ H->f9 K H a xs)
 (hs:∀i x σ H,xs[i]? =some x->Pv i σ H->g x σ H λI H2=>tb { D with nx:=Pv (i+1),ct:=Pv (i+1),bk:=D.nx } I H2) (hd:∀σ H,Pv xs.length σ H->D.nx σ H):
 ∃W:Nat->Nat->St->Hp->Prop,(∃m,W 0 m σ H)/\∀i m σ H,W i m σ H->
  ((pB K a).stop i H/\D.nx σ H)\/((pB K a).go i H/\∃N:St->Hp->Prop,(∀J H',N J H'->∃U,U<m/\W (i+1) U J H')/\∀x H',(pB K a).lV i H x H'->g x σ H' λI H2=>tb { D with nx:=N,ct:=N,bk:=D.nx } I H2):=by
 refine⟨λi m σ H=>m=xs.length - i/\i<=xs.length/\Pv i σ H,⟨xs.length,by simp,Q0g _,Y⟩,?_⟩;rintro i m σ H ⟨rfl,hi,p⟩;have q:=hl i σ H hi p;by_cases L:i<xs.length
 . refine .inr ⟨⟨xs,xs[i],q,by simp[L]⟩,Pv (i+1),λJ H' p'=>⟨xs.length - (i+1),by omega,rfl,L,p'⟩,λx H' y=>?_⟩;obtain⟨e,y⟩:=y;subst e;exact hs i x σ _ (y xs q) p
 . have e:i=xs.length:=by omega
   subst e;exact .inl ⟨⟨xs,q,Q00 _⟩,hd σ H p⟩
theorem nj {lo:Int}{n:Nat}{g:TG}{tb:TS}{D:Ends}{σ:St}{H:Hp}(Pv:Nat->St->Hp->Prop)(Y:Pv 0 σ H)
 (hs:∀i σ H,i<n->Pv i σ H->g (.int (lo+i)) σ H λI H2=>tb { D with nx:=Pv (i+1),ct:=Pv (i+1),bk:=D.nx } I H2) (hd:∀σ H,Pv n σ H->D.nx σ H):
 ∃W:Nat->Nat->St->Hp->Prop,(∃m,W 0 m σ H)/\∀i m σ H,W i m σ H->
  ((oz lo n).stop i H/\D.nx σ H)\/((oz lo n).go i H/\∃N:St->Hp->Prop,(∀J H',N J H'->∃U,U<m/\W (i+1) U J H')/\∀x H',(oz lo n).lV i H x H'->g x σ H' λI H2=>tb { D with nx:=N,ct:=N,bk:=D.nx } I H2):=by
 refine⟨λi m σ H=>m=n - i/\i<=n/\Pv i σ H,⟨n,by simp,Q0g _,Y⟩,?_⟩;rintro i m σ H ⟨rfl,hi,p⟩;by_cases L:i<n
 . refine .inr ⟨L,Pv (i+1),λJ H' p'=>⟨n - (i+1),by omega,rfl,L,p'⟩,λx H' y=>?_⟩;obtain⟨e,y⟩:=y;subst e y;exact hs i σ _ L p
 . have e:i=n:=by omega
   subst e;exact .inl ⟨Q00 _,hd σ H p⟩
noncomputable abbrev R2:=V->V->Hp->VK->Prop
def iZ (X:Cx) (f:Value->Value->Sem Value) (r:R2):Prop:=
 ∀(pins:List (Addr × Obj)) (s:Shared) (σ:St) (H:Hp) (x y:V) (v u:Value) (Q:VK),Inv X pins σ H s->RelV x v->RelV y u->r x y H Q->
  wpAny (model X.prog X.w) X.A (f v u) (EP X pins σ Q) X.xe s
def uT (X:Cx) (f:Value->Sem Value) (r:V->Hp->VK->Prop):Prop:=
 ∀(pins:List (Addr × Obj)) (s:Shared) (σ:St) (H:Hp) (x:V) (v:Value) (Q:VK),Inv X pins σ H s->RelV x v->r x H Q->
  wpAny (model X.prog X.w) X.A (f v) (EP X pins σ Q) X.xe s
def jZ (X:Cx) (f:Value) (r:List V->Hp->VK->Prop):Prop:=
 ∀(pins:List (Addr × Obj)) (s:Shared) (σ:St) (H:Hp) (xs:List V) (us:List Value) (Q:VK),Inv X pins σ H s->Vals xs us->r xs H Q->
  wpAny (model X.prog X.w) X.A (call f us) (EP X pins σ Q) X.xe s
def ie (r:R2) (ta tb:TE):TE:=λσ H Q=>ta σ H λx H1=>tb σ H1 λy H2=>r x y H2 Q
def HQ (r:V->Hp->VK->Prop) (ta:TE):TE:=λσ H Q=>ta σ H λx H1=>r x H1 Q
def rI (C:Int->Int->Prop) (g:Int->Int->V):R2:=λx y H Q=>∃i j,x=.int i/\y=.int j/\C i j/\Q (g i j) H
def oE (g:Int->Int->V):R2:=λx y H Q=>∃i j,x=.int i/\y=.int j/\Q (g i j) H
def rU (g:Int->V):V->Hp->VK->Prop:=λx H Q=>∃i,x=.int i/\Q (g i) H
section
variable {X:Cx}{a b c:Expr}{ta tb tc:TE}{pos:Pos}
theorem uU (Y:PE X a ta)(hb:PE X b tb){pins:List (Addr × Obj)}{s:Shared}{σ:St}{H:Hp}{R:V->V->Hp->Prop}(I:Inv X pins σ H s)
 (h:ta σ H λx H1=>tb σ H1 λy H2=>R x y H2) {Q:Value->Shared->Prop} {f:Value->Value->Sem Value}
 (hf:∀v u U x y H2,Inv X pins σ H2 U->RelV x v->RelV y u->R x y H2->wpAny (model X.prog X.w) X.A (f v u) Q X.xe U):
 wpAny (model X.prog X.w) X.A (eval a X.env) (λv J=>wpAny (model X.prog X.w) X.A (eval b X.env) (λu L=>wpAny (model X.prog X.w) X.A (f v u) Q X.xe L) X.xe J) X.xe s:=by
 refine gB (Y pins s σ H _ I h) λv s1 zq=>?_;obtain⟨x,H1,I1,r1,q1⟩:=zq;refine gB (hb pins s1 σ H1 _ I1 q1) λu U zq=>?_;obtain⟨y,H2,I2,r2,q2⟩:=zq;exact hf v u U x y H2 I2 r1 r2 q2
theorem gn {op:Operator}{r:R2}(J:iZ X (binaryOp op) r)(L:PE X a ta)(U:PE X b tb):PE X (.BinOp a op b pos) (ie r ta tb):=by
 intro pins s σ H Q I h;exact wpAny_BinOp (uU L U I h λv u Y x y H2 I2 rx ry q=>J pins Y σ H2 x y v u Q I2 rx ry q)
theorem HS {op:UnaryOp}{r:V->Hp->VK->Prop}(J:uT X (unaryOp op) r)(L:PE X a ta):PE X (.UnaryOp op a pos) (HQ r ta):=by
 intro pins s σ H Q I h;exact UnaryOp_ (gB (L pins s σ H _ I h) λv U ⟨x,H1,Y,r1,q1⟩=>J pins U σ H1 x v Q Y r1 q1)
theorem sF {f:Value->Value->Sem Value}{C:Int->Int->Prop}{g:Int->Int->Int}
 (rule:∀(i j:Int) (t u:Tok) (s:Shared) (Q:Value->Shared->Prop) (E:Value->Shared->Prop),C i j->Q (.int (g i j) s.toks) { s with toks:=s.toks+1 }->wpAny (model X.prog X.w) X.A (f (.int i t) (.int j u)) Q E s):
 iZ X f (rI C λi j=>.int (g i j)):=by
 intro pins s σ H x y v u Q I J L h;obtain⟨i,j,rfl,rfl,hc,q⟩:=h;obtain⟨t,rfl⟩:=J;obtain⟨t',rfl⟩:=L;exact rule i j t t' s _ _ hc ⟨.int (g i j),H,I.tok _,⟨_,rfl⟩,q⟩
theorem BV {f:Value->Value->Sem Value}{g:Int->Int->Int}
 (rule:∀(i j:Int) (t u:Tok) (s:Shared) (Q:Value->Shared->Prop) (E:Value->Shared->Prop),Q (.int (g i j) s.toks) { s with toks:=s.toks+1 }->wpAny (model X.prog X.w) X.A (f (.int i t) (.int j u)) Q E s):
 iZ X f (oE λi j=>.int (g i j)):=by
 intro pins s σ H x y v u Q I J L h;obtain⟨i,j,rfl,rfl,q⟩:=h;obtain⟨t,rfl⟩:=J;obtain⟨t',rfl⟩:=L;exact rule i j t t' s _ _ ⟨.int (g i j),H,I.tok _,⟨_,rfl⟩,q⟩
theorem uV {f:Value->Value->Sem Value}{g:Int->Int->Bool}
 (rule:∀(i j:Int) (t u:Tok) (s:Shared) (Q:Value->Shared->Prop) (E:Value->Shared->Prop),Q (.bool (g i j)) s->wpAny (model X.prog X.w) X.A (f (.int i t) (.int j u)) Q E s):
 iZ X f (oE λi j=>.bl (g i j)):=by
 intro pins s σ H x y v u Q I J L h;obtain⟨i,j,rfl,rfl,q⟩:=h;obtain⟨t,rfl⟩:=J;obtain⟨t',rfl⟩:=L;exact rule i j t t' s _ _ ⟨.bl (g i j),H,I,rfl,q⟩
def HU (i j:Int):Prop:=0<j/\j<1073741824
def uW (i j:Int):Prop:=0<=j/\j<=1000000/\i.natAbs<2 ^ 64
def uX (i j:Int):Prop:=(-(2 ^ 64)<i/\i<2 ^ 64)\/(-(2 ^ 64)<j/\j<2 ^ 64)
theorem uX.ok {i j:Int}(h:uX i j):IntMulOk i j:=by
 rcases h with⟨h1,h2⟩|⟨h1,h2⟩
 . exact .of_left (intBits_le_64 h1 h2)
 . exact .of_right (intBits_le_64 h1 h2)
theorem j0:iZ X (binaryOp .Add) (oE λi j=>.int (i+j)):=BV λ_ _ _ _ _ _ _ q=>add_int q
theorem nq:iZ X (binaryOp .Sub) (oE λi j=>.int (i - j)):=BV λ_ _ _ _ _ _ _ q=>sub_int q
theorem mF:iZ X (binaryOp .Mult) (rI uX λi j=>.int (i * j)):=sF λ_ _ _ _ _ _ _ hc q=>mul_int q hc.ok
theorem jc:iZ X (binaryOp .FloorDiv) (rI HU λi j=>.int (i / j)):=sF λi j _ _ _ _ _ hc q=>by
 have h1:(0:Int)<j:=hc.1;have h2:j<1073741824:=hc.2;exact floordiv_int (by omega) (by rw[Int.fdiv_eq_ediv_of_nonneg i (by omega)];exact q) (.inl (PyProof.noPylong_small (by omega)))
theorem ir:iZ X (binaryOp .Mod) (rI (λ_ j=>0<j) λi j=>.int (i % j)):=sF λi j _ _ _ _ _ hc q=>by
 have h1:(0:Int)<j:=hc;exact mod_int' (by omega) (by rw[Int.fmod_eq_emod_of_nonneg i (by omega)];exact q)
theorem sG:iZ X (binaryOp .Pow) (rI uW λi j=>.int (i ^ j.toNat)):=sF λ_ _ _ _ _ _ _ hc q=>pow_int_small hc.1 hc.2.1 hc.2.2 q
theorem HV {f:Value->Sem Value}{g:Int->Int}
 (rule:∀(i:Int) (t:Tok) (s:Shared) (Q:Value->Shared->Prop) (E:Value->Shared->Prop),Q (.int (g i) s.toks) { s with toks:=s.toks+1 }->wpAny (model X.prog X.w) X.A (f (.int i t)) Q E s):
 uT X f (rU λi=>.int (g i)):=by
 intro pins s σ H x v Q I J h;obtain⟨i,rfl,q⟩:=h;obtain⟨t,rfl⟩:=J;exact rule i t s _ _ ⟨.int (g i),H,I.tok _,⟨_,rfl⟩,q⟩
theorem HW:uT X (unaryOp .USub) (rU λi=>.int (-i)):=HV λ_ _ _ _ _ q=>neg_int q
end
noncomputable def BW:V->V->Bool
 | .non,.non=>true| .non,.int _=>true| .int _,.non=>true| .non,.bl _=>true| .bl _,.non=>true| .non,.str _=>true| .str _,.non=>true
 | .int _,.int _=>true| .bl _,.bl _=>true| .str _,.str _=>true| .k_ _,.k_ _=>true
 | .int _,.str _=>true| .str _,.int _=>true| .bl _,.str _=>true| .str _,.bl _=>true
 |_,_=>false
def mG:R2:=λx y H Q=>BW x y=true/\Q (.bl (decide (x=y))) H
def HX:R2:=λx y H Q=>BW x y=true/\Q (.bl (!decide (x=y))) H
theorem BX {i j:Int}:decide (V.int i=V.int j)=(i == j):=by
 rw[Bool.eq_iff_iff];simp
theorem BY {i j:Bool}:decide (V.bl i=V.bl j)=(i == j):=by
 rw[Bool.eq_iff_iff];simp
theorem BZ {i j:Str}:decide (V.str i=V.str j)=(i == j):=by
 rw[Bool.eq_iff_iff];simp
theorem B0 {i j:Array UInt8}:decide (V.k_ i=V.k_ j)=(i.toList == j.toList):=by
 rw[Bool.eq_iff_iff]
 cases i
 cases j;simp
section
variable {X:Cx}{a b c:Expr}{ta tb tc:TE}{pos:Pos}
theorem iO {pins:List (Addr × Obj)}{σ:St}{H:Hp}{s:Shared}{Q:VK}{k J:Bool}(I:Inv X pins σ H s)(q:Q (.bl k) H)(e:k=J):EP X pins σ Q (.bool J) s:=by
 subst e;exact⟨.bl k,H,I,rfl,q⟩
theorem iu:iZ X (compareOp .Eq) mG:=by
 intro pins s σ H x y v u Q I U J h;obtain⟨L,q⟩:=h
 cases x with
 |non=>
  cases U
  cases y with
  |non=>cases J;exact PySem.EqNone.eq_none_none (iO I q (by simp))
  |bl j=>cases J;exact PySem.EqNone.eq_none_bool (iO I q (by simp))
  |int j=>obtain⟨t',rfl⟩:=J;exact PySem.EqNone.eq_none_int (iO I q (by simp))
  |str j=>obtain⟨t',rfl⟩:=J;exact PySem.EqNone.eq_none_str (iO I q (by simp))
  |_=>exact absurd (show false=true from L) Bool.false_ne_true
 |bl i=>
  cases U
  cases y with
  |non=>cases J;exact PySem.EqNone.eq_bool_none (iO I q (by simp))
  |bl j=>cases J;exact eq_bool (iO I q BY)
  |str j=>obtain⟨t',rfl⟩:=J;exact PySem.EqMixed.eq_bool_str (iO I q (by simp))
  |_=>exact absurd (show false=true from L) Bool.false_ne_true
 |int i=>
  obtain⟨t,rfl⟩:=U
  cases y with
  |non=>cases J;exact PySem.EqNone.eq_int_none (iO I q (by simp))
  |int j=>obtain⟨t',rfl⟩:=J;exact eq_int (iO I q BX)
  |str j=>obtain⟨t',rfl⟩:=J;exact PySem.EqMixed.eq_int_str (iO I q (by simp))
  |_=>exact absurd (show false=true from L) Bool.false_ne_true
 |str i=>
  obtain⟨t,rfl⟩:=U
  cases y with
  |non=>cases J;exact PySem.EqNone.eq_str_none (iO I q (by simp))
  |bl j=>cases J;exact PySem.EqMixed.eq_str_bool (iO I q (by simp))
  |int j=>obtain⟨t',rfl⟩:=J;exact PySem.EqMixed.eq_str_int (iO I q (by simp))
  |str j=>obtain⟨t',rfl⟩:=J;exact eq_str (iO I q BZ)
  |_=>exact absurd (show false=true from L) Bool.false_ne_true
 |k_ i=>
  obtain⟨t,rfl⟩:=U
  cases y with
  |k_ j=>obtain⟨t',rfl⟩:=J;exact W.eq_bytes (iO I q B0)
  |_=>exact absurd (show false=true from L) Bool.false_ne_true
 |_=>cases y <;> exact absurd (show false=true from L) Bool.false_ne_true
theorem j1:iZ X (compareOp .NotEq) HX:=by
 intro pins s σ H x y v u Q I U J h;obtain⟨L,q⟩:=h
 cases x with
 |non=>
  cases U
  cases y with
  |non=>cases J;exact PySem.EqNone.ne_none_none (iO I q (by simp))
  |bl j=>cases J;exact PySem.EqNone.ne_none_bool (iO I q (by simp))
  |int j=>obtain⟨t',rfl⟩:=J;exact PySem.EqNone.ne_none_int (iO I q (by simp))
  |str j=>obtain⟨t',rfl⟩:=J;exact PySem.EqNone.ne_none_str (iO I q (by simp))
  |_=>exact absurd (show false=true from L) Bool.false_ne_true
 |bl i=>
  cases U
  cases y with
  |non=>cases J;exact PySem.EqNone.ne_bool_none (iO I q (by simp))
  |bl j=>cases J;exact ne_bool (iO I q (congrArg not BY))
  |str j=>obtain⟨t',rfl⟩:=J;exact PySem.EqMixed.ne_bool_str (iO I q (by simp))
  |_=>exact absurd (show false=true from L) Bool.false_ne_true
 |int i=>
  obtain⟨t,rfl⟩:=U
  cases y with
  |non=>cases J;exact PySem.EqNone.ne_int_none (iO I q (by simp))
  |int j=>obtain⟨t',rfl⟩:=J;exact ne_int (iO I q (congrArg not BX))
  |str j=>obtain⟨t',rfl⟩:=J;exact PySem.EqMixed.ne_int_str (iO I q (by simp))
  |_=>exact absurd (show false=true from L) Bool.false_ne_true
 |str i=>
  obtain⟨t,rfl⟩:=U
  cases y with
  |non=>cases J;exact PySem.EqNone.ne_str_none (iO I q (by simp))
  |bl j=>cases J;exact PySem.EqMixed.ne_str_bool (iO I q (by simp))
  |int j=>obtain⟨t',rfl⟩:=J;exact PySem.EqMixed.ne_str_int (iO I q (by simp))
  |str j=>obtain⟨t',rfl⟩:=J;exact ne_str (iO I q (congrArg not BZ))
  |_=>exact absurd (show false=true from L) Bool.false_ne_true
 |k_ i=>
  obtain⟨t,rfl⟩:=U
  cases y with
  |k_ j=>obtain⟨t',rfl⟩:=J;exact W.ne_bytes (iO I q (congrArg not B0))
  |_=>exact absurd (show false=true from L) Bool.false_ne_true
 |_=>cases y <;> exact absurd (show false=true from L) Bool.false_ne_true
theorem sI:iZ X (compareOp .Lt) (oE λi j=>.bl (decide (i<j))):=uV λ_ _ _ _ _ _ _ q=>lt_int q
theorem B1:iZ X (compareOp .LtE) (oE λi j=>.bl (decide (i<=j))):=uV λ_ _ _ _ _ _ _ q=>le_int q
theorem nr:iZ X (compareOp .Gt) (oE λi j=>.bl (decide (j<i))):=uV λ_ _ _ _ _ _ _ q=>gt_int q
theorem B2:iZ X (compareOp .Is) (λx y H Q=>y=.non/\Q (.bl (decide (x=.non))) H):=by
 intro pins s σ H x y v u Q I J L h;obtain⟨rfl,q⟩:=h
 cases L;refine is_none_gen (iO I q ?_)
 cases x <;> first
  |(cases J;rfl)
  |(obtain⟨t,rfl⟩:=J;rfl)
theorem pC:iZ X (compareOp .IsNot) (λx y H Q=>y=.non/\Q (.bl (!decide (x=.non))) H):=by
 intro pins s σ H x y v u Q I J L h;obtain⟨rfl,q⟩:=h
 cases L;refine isnot_none_gen (iO I q ?_)
 cases x <;> first
  |(cases J;rfl)
  |(obtain⟨t,rfl⟩:=J;rfl)
theorem gC (b:Expr){op:CmpOp}(h:op≠ .In:=by decide)(h2:op≠ .NotIn:=by decide):behindInMarks op b=false:=by
 have I:(op == CmpOp.In)=false:=by cases op <;> first|rfl|exact absurd rfl h
 have J:(op == CmpOp.NotIn)=false:=by cases op <;> first|rfl|exact absurd rfl h2
 cases b <;> simp[behindInMarks,I,J]
theorem mH {op:CmpOp}{r:R2}(J:iZ X (compareOp op) r)(L:PE X a ta)(U:PE X b tb)(Y:behindInMarks op b=false):PE X (.Compare a [op] [b] pos) (ie r ta tb):=by
 intro pins s σ H Q I h;exact wpAny_Compare1 (uU L U I h λv u s2 x y H2 I2 rx ry q=>J pins s2 σ H2 x y v u Q I2 rx ry q) Y
def jI (t:TE):TT:=λσ H Q=>t σ H λx H'=>∃k,x=.bl k/\Q k H'
theorem gE {op:CmpOp}{r:R2}(J:iZ X (compareOp op) r)(L:PE X a ta)(U:PE X b tb)(Y:behindInMarks op b=false):PT X (.Compare a [op] [b] pos) (jI (ie r ta tb)):=by
 intro pins s σ H Q I h
 refine wpAny_isTrue_Compare1 (gB (L pins s σ H _ I h) λv s1 ⟨x,H1,I1,r1,q1⟩=>gB (U pins s1 σ H1 _ I1 q1) λu s2 ⟨y,H2,I2,r2,q2⟩=>
  gB (J pins s2 σ H2 x y v u _ I2 r1 r2 q2) λc s3 ⟨z,H3,I3,r3,k,e,q3⟩=>?_) Y
 subst e
 cases r3;exact wpAny_truthy_bool ⟨H3,I3,q3⟩
theorem pE:(sizeLine:Nat)<2 ^ 63:=by rw[sizeLine_eq];decide
theorem qJ:iZ X (binaryOp .Add) (λx y H Q=>∃i j,x=.str i/\y=.str j/\i.length+j.length<=sizeLine/\Q (.str (i++j)) H):=by
 intro pins s σ H x y v u Q I J L h;obtain⟨i,j,rfl,rfl,U,q⟩:=h;obtain⟨t,rfl⟩:=J;obtain⟨t',rfl⟩:=L;exact add_str (λt' tk=>⟨.str (i++j),H,I.tok _,⟨_,rfl⟩,q⟩) U
theorem vals1 {x:V}{us:List Value}(r:Vals [x] us):∃u,us=[u]/\RelV x u:=by
 cases r with
 |cons I J=>cases J;exact⟨_,rfl,I⟩
theorem vals2 {x y:V}{us:List Value}(r:Vals [x,y] us):∃u I,us=[u,I]/\RelV x u/\RelV y I:=by
 cases r with
 |cons J L=>
  cases L with
  |cons U Y=>cases Y;exact⟨_,_,rfl,J,U⟩
end
structure oF (h:Heap) (x dx C:Addr) (mA:Str->Option Value):Prop where
 obj:h.get? x=some (W.instObj C dx)
 ns:h.Ns1 dx mA
 ne:dx≠x
theorem HY {h:Heap}{dx:Addr}{mA:Str->Option Value}(n:h.Ns1 dx mA):∃J,h.get? dx=some J/\∀name,W.lookIn name J=some (mA name):=by
 obtain⟨o,es,ep,L,U,Y,_,hm⟩:=n;refine⟨o,L,λname=>?_⟩;have e:=hm name;unfold nsFind findBy at e;rw[<-Array.find?_toList] at e;unfold W.lookIn;rw[U];dsimp only;split
 . rename_i y q;rw[q] at e;exact congrArg some e
 . rename_i q;rw[q] at e
   have a:es.toList.any (·.refKey)=false:=by
    rw[List.any_eq_false];intro y hy;obtain⟨z,t,I⟩:=Y y (Array.mem_toList_iff.mp hy);simp[DictEntry.refKey,I]
   have a':¬es.toList.any (·.refKey)=true:=by rw[a];exact Bool.false_ne_true
   rw[if_neg a'];exact congrArg some e
theorem oF.look {h:Heap}{x dx C:Addr}{mA:Str->Option Value}(I:oF h x dx C mA):∃J,W.InstAt h x (W.instObj C dx) C (some J)/\∀name,W.lookIn name J=some (mA name):=
 let⟨J,L,hl⟩:=HY I.ns
 ⟨J,⟨I.obj,rfl,rfl,L⟩,hl⟩
section
variable {prog:Program}{w:World}{A:Around}{E:Value->Shared->Prop}{s:Shared}{K:W.Frag}{x dx C f:Addr}{mA:Str->Option Value}{name:Str}{v:Value}
theorem get_map {L:Bool}{Q:Value->Shared->Prop}(X:K.In s.heap)(I:oF s.heap x dx C mA)(Y:W.plainGet K C name=true)(hh:W.hasDictIn K C=true)
 (ha:W.findIn K (.ref C) name=some none) (hv:mA name=some v) (U:W.handedIn v=true) (h:Q v { s with toks:=s.toks+1 }):
 wpAny (model prog w) A (getAttr (.ref x) name L) Q E s:=by
 obtain⟨od,J,hl⟩:=I.look;exact W.get_value X J (W.plainGet_of Y).1 (W.findObj_own hh ha rfl (by rw[hl,hv])) U h
theorem HZ {pl:Sem Bool}{Q:Value × List Value->Shared->Prop}(X:K.In s.heap)(I:oF s.heap x dx C mA)(L:W.plainGet K C name=true)
 (U:W.findIn K (.ref C) name=some (some (.ref f))) (ht:W.isFn K (.ref f)=true) (Y:mA name=none) (h:Q (.ref f,[.ref x]) s):
 wpAny (model prog w) A (getMethod (.ref x) name pl) Q E s:=by
 obtain⟨od,J,hl⟩:=I.look;exact W.method_fn X J (W.plainGet_of L).1 (W.plainGet_of L).2 U (beq_iff_eq.mp ht) (by show(W.lookIn name od).map (·.isSome)=some false;rw[hl,Y];rfl) h
theorem H0 {ns:List Str}{Q:Unit->Shared->Prop}(X:K.In s.heap)(I:oF s.heap x dx C mA)
 (hs:W.findIn K (.ref C) "__setattr__"=some (some (.builtin "object.__setattr__"))) (hp:W.plainOver K C=true) (ht:W.takerIn K C name=some none) (hh:W.hasDictIn K C=true)
 (hw:PySem.Within mA ns) (hsz:ns.length<=sizeLine)
 (h:∀h',oF h' x dx C (λy=>if y=name then some v else mA y)->Heap.SameBut dx s.heap h'->Q () { s with heap:=h',toks:=s.toks+2 }):
 wpAny (model prog w) A (setAttr (.ref x) name v) Q E s:=by
 obtain⟨od,J,hl⟩:=I.look;refine W.set_plain X J hs (W.osa_open (s:={ s with toks:=s.toks+1 }) (r:=none) X J hp ht λb=>?_);obtain⟨cd,hc,Y⟩:=W.any_some hh;have hx:s.heap.get? x=some ⟨.ref C,some dx,.plain,#[]⟩:=I.obj;refine Q01 (Q0e (Q01 (Q01 (wpAny_loadPart hx (Q01 (W.Looks.here (s:={ s with toks:=s.toks+1 }) (W.looks_clsIn X hc) ?_))))));rw[Y];refine Q0e (a:=some dx) (Q01 (Q0e (Q01 ?_)));refine wpAny_nsSet1 (s:={ s with toks:=s.toks+1 }) I.ns λh' L U=>?_;obtain⟨oD,ae,af,aa,ab,ac⟩:=L.count (PySem.Within.cons name v hw);refine Q01 (wpAny_lookBehind aa (by rw[ab];exact pastItsLine_dict (Q0d ac (by rw[Q0k];omega))) ?_);exact Q0e (h _ ⟨(U.2 _ (Ne.symm I.ne)).trans I.obj,L,I.ne⟩ U)
theorem H_ {R:Result->Shared->Prop}{vs:List Value}{I:List (Str × Value)}(X:K.In s.heap)(J:W.makesIn K C=true)
 (hi:W.findIn K (.ref C) "__init__"=some (some (.ref f))) (L:W.typeIn K (.ref f)=some (.type "function"))
 (h:codeAny (model prog w) (A.under (.builtin "type.__call__" ⟨.ref C::vs,I⟩)) (.call (.ref f) ⟨.ref (s.heap.objs.size+1)::vs,I⟩) (W.InitBack (s.heap.objs.size+1) R)
   { s with heap:=(s.heap.push W.emptyDict).push (W.instObj C s.heap.objs.size) }):
 codeAny (model prog w) A (.call (.ref C) ⟨vs,I⟩) R s:=by
 obtain⟨U,g,d,t,os⟩:=s;exact W.make_core (W.makes_of X J) (W.looks_findIn X hi) (λself=>W.bind_fn X self L) (.inl rfl) h
end
noncomputable def jP (f:Str) (v:V):List (Str × V)->List (Str × V)
 |[]=>[(f,v)]
 |(g,x)::r=>if g=f then(g,v)::r else(g,x)::jP f v r
theorem B3 (f g:Str)(v:V):∀fs:List (Str × V),(jP f v fs).lookup g=if g=f then some v else fs.lookup g
 |[]=>by
  show List.lookup g [(f,v)]=_;by_cases h:g=f
  . have I:(g == f)=true:=beq_iff_eq.mpr h;simp only[List.lookup,I,if_pos h]
  . have I:(g == f)=false:=beq_eq_false_iff_ne.mpr h;simp only[List.lookup,I,if_neg h]
 |(k,x)::r=>by
  have L:=B3 f g v r;rw[show jP f v ((k,x)::r)=(if k=f then(k,v)::r else(k,x)::jP f v r) from rfl];by_cases J:k=f
  . rw[if_pos J];by_cases h:g=k
    . have I:(g == k)=true:=beq_iff_eq.mpr h;simp only[List.lookup,I,if_pos (h.trans J)]
    . have I:(g == k)=false:=beq_eq_false_iff_ne.mpr h;simp only[List.lookup,I,if_neg (λe:g=f=>h (e.trans J.symm))]
  . rw[if_neg J];by_cases h:g=k
    . have I:(g == k)=true:=beq_iff_eq.mpr h;simp only[List.lookup,I,if_neg (λe:g=f=>J (h.symm.trans e))]
    . have I:(g == k)=false:=beq_eq_false_iff_ne.mpr h;simp only[List.lookup,I];exact L
theorem uY (f:Str)(v:V):∀fs:List (Str × V),f∈(jP f v fs).map (·.1)/\∀g,g∈fs.map (·.1)->g∈(jP f v fs).map (·.1)
 |[]=>⟨by simp[jP],λg h=>by simp at h⟩
 |(k,x)::r=>by
  obtain⟨J,L⟩:=uY f v r;rw[show jP f v ((k,x)::r)=(if k=f then(k,v)::r else(k,x)::jP f v r) from rfl];by_cases I:k=f
  . rw[if_pos I];subst I;exact⟨by simp,λg h=>by simpa using h⟩
  . rw[if_neg I];refine⟨?_,λg h=>?_⟩
    . rw[Q0v];exact Q07 _ J
    . rw[Q0v] at h ⊢;rcases List.mem_cons.mp h with e|e
      . exact List.mem_cons.mpr (.inl e)
      . exact Q07 _ (L g e)
theorem B4 (f:Str)(v:V):∀fs:List (Str × V),(jP f v fs).length<=fs.length+1
 |[]=>by simp[jP]
 |(k,x)::r=>by
  have J:=B4 f v r;rw[show jP f v ((k,x)::r)=(if k=f then(k,v)::r else(k,x)::jP f v r) from rfl];by_cases I:k=f
  . rw[if_pos I,Q0k,Q0k];omega
  . rw[if_neg I,Q0k,Q0k];omega
theorem jG.some_of {v:V}{o:Option Value}(r:jG (some v) o):∃u,o=some u/\RelV v u:=by
 cases o with
 |none=>exact(show False from r).elim
 |some u=>exact⟨u,rfl,r⟩
theorem jG.none_of {o:Option Value}(r:jG none o):o=none:=by
 cases o with
 |none=>rfl
 |some u=>exact(show False from r).elim
theorem Ia {v:V}{u:Value}(r:RelV v u):W.handedIn u=true:=by
 cases v with
 |non=>cases(show u=Value.none from r);rfl
 |bl b=>cases(show u=Value.bool b from r);rfl
 |int i=>obtain⟨t,e⟩:=(show ∃t,u=Value.int i t from r);cases e;rfl
 |str x=>obtain⟨t,e⟩:=(show ∃t,u=Value.str x t from r);cases e;rfl
 |k_ b=>obtain⟨t,e⟩:=(show ∃t,u=Value.bytes b t from r);cases e;rfl
 |flt b=>obtain⟨t,e⟩:=(show ∃t,u=Value.float b t from r);cases e;rfl
 |ref a=>cases(show u=Value.ref a from r);rfl
 |ty n=>cases(show u=Value.type n from r);rfl
section
variable {P:Program}{w:World}{H H':Hp}{h h':Heap}{a C dx:Addr}{fs fs':List (Str × V)}
theorem sJ (I:iN P w H h)(e:H a=some (.ins C dx fs)):∃mA,oF h a dx C mA/\(∀f,jG (fs.lookup f) (mA f))/\PySem.Within mA (fs.map (·.1))/\fs.length<=1000/\H dx=some (.own a):=by
 obtain⟨d,z,ne,J,mA,n,r,q⟩:=(show iQ P w H h a (.ins C dx fs) from I a _ e);exact⟨mA,⟨J,n,ne⟩,r,q,z,d⟩
end
structure Cls (K:W.Frag) (C:Addr):Prop where
 pg:W.plainGet K C Str.empty=true
 hd:W.hasDictIn K C=true
 po:W.plainOver K C=true
 sa:W.findIn K (.ref C) "__setattr__"=some (some (.builtin "object.__setattr__"))
theorem Cls.get {K:W.Frag}{C:Addr}(c:Cls K C)(f:Str):W.plainGet K C f=true:=c.pg
def nt (K:W.Frag) (C:Addr) (f:Str):Prop:=W.findIn K (.ref C) f=some none
theorem nt.taker {K:W.Frag}{C:Addr}{f:Str}(n:nt K C f):W.takerIn K C f=some none:=by
 unfold W.takerIn;rw[show W.findIn K (.ref C) f=some none from n];rfl
structure Meth (K:W.Frag) (C:Addr) (m:Str) (f:Addr):Prop where
 at_:W.findIn K (.ref C) m=some (some (.ref f))
 fn:W.isFn K (.ref f)=true
 kp:W.keepIn K (.ref f)=true
section
variable {X:Cx}{pins:List (Addr × Obj)}{σ:St}{H:Hp}{s:Shared}{a C dx:Addr}{fs:List (Str × V)}{f:Str}{v:V}{A:Around}{E:Value->Shared->Prop}
theorem Ib {b:Bool}{Q:Value->Shared->Prop}(I:Inv X pins σ H s)(e:H a=some (.ins C dx fs))(c:Cls X.K C)(n:nt X.K C f)(l:fs.lookup f=some v)
 (h:∀u s',Inv X pins σ H s'->RelV v u->Q u s'):wpAny (model X.prog X.w) A (getAttr (.ref a) f b) Q E s:=by
 obtain⟨mA,O,r,_,_,_⟩:=sJ I.hok e;obtain⟨u,L,J⟩:=jG.some_of (v:=v) (o:=mA f) (by rw[<-l];exact r f);exact get_map I.i4 O (c.get f) c.hd n L (Ia J) (h u _ (I.tok _) J)
theorem B5 {m:Str}{g:Addr}{pl:Sem Bool}{Q:Value × List Value->Shared->Prop}(I:Inv X pins σ H s)(e:H a=some (.ins C dx fs))(c:Cls X.K C)(k:Meth X.K C m g)(l:fs.lookup m=none)
 (h:Q (.ref g,[.ref a]) s):wpAny (model X.prog X.w) A (getMethod (.ref a) m pl) Q E s:=by
 obtain⟨mA,O,r,_,_,_⟩:=sJ I.hok e;have J:mA m=none:=jG.none_of (by rw[<-l];exact r m);exact HZ I.i4 O (c.get m) k.at_ k.fn J h
theorem Ic {y:V}{u:Value}{Q:Unit->Shared->Prop}(I:Inv X pins σ H s)(e:H a=some (.ins C dx fs))(c:Cls X.K C)(n:nt X.K C f)(hl:fs.length<1000)(Y:RelV y u)
 (h:∀s',Inv X pins σ (upd H a (.ins C dx (jP f y fs))) s'->Q () s'):wpAny (model X.prog X.w) A (setAttr (.ref a) f u) Q E s:=by
 obtain⟨mA,O,r,L,_,U⟩:=sJ I.hok e;have hz:(fs.map (·.1)).length<=sizeLine:=by rw[Q0,sizeLine_eq];omega
 refine H0 I.i4 O c.sa c.po n.taker c.hd L hz λh' J sb=>h _ ?_;have hd:∃o,h'.get? dx=some o:=let⟨o,_,_,e',_⟩:=J.ns;⟨o,e'⟩
 refine I.write (x:=a) (e:=dx) (by rw[e];exact True.intro) (.inr U) (λb q hb z=>(sb.2 b hb).trans z) hd ?_;refine⟨by rw[d_ O.ne];exact U,?_,O.ne,J.obj,_,J.ns,λg=>?_,λg hg=>?_⟩
 . have:=B4 f y fs;omega
 . show jG ((jP f y fs).lookup g) (if g=f then some u else mA g);rw[B3];by_cases q:g=f
   . rw[if_pos q,if_pos q];exact Y
   . rw[if_neg q,if_neg q];exact r g
 . by_cases q:g=f
   . rw[q];exact(uY f y fs).1
   . refine(uY f y fs).2 g (L g λz=>hg ?_);show(if g=f then some u else mA g)=none;rw[if_neg q];exact z
theorem Inv.made (I:Inv X pins σ H s):Inv X pins σ (upd (upd H s.heap.objs.size (.own (s.heap.objs.size+1))) (s.heap.objs.size+1) (.ins C s.heap.objs.size []))
 { s with heap:=(s.heap.push W.emptyDict).push (W.instObj C s.heap.objs.size) }:=by
 have J:(s.heap.push W.emptyDict).get? s.heap.objs.size=some W.emptyDict:=Q0i s.heap rfl
 have L:((s.heap.push W.emptyDict).push (W.instObj C s.heap.objs.size)).get? (s.heap.objs.size+1)=some (W.instObj C s.heap.objs.size):=by
  have:=Q0i (s.heap.push W.emptyDict) (o:=W.instObj C s.heap.objs.size) rfl
  rwa [Q2a] at this
 have U:(s.heap.push W.emptyDict).Ns s.heap.objs.size (λ_=>none):=⟨W.emptyDict,#[],_,J,rfl,(λe Y=>absurd Y (by simp)),λ_=>rfl⟩;have I1:=I.laid (a:=s.heap.objs.size) (o:=.own (s.heap.objs.size+1)) (h':=s.heap.push W.emptyDict) (t':=s.toks) (λb u q=>Q0a _ q) (Q00 _) ⟨_,J⟩;refine I1.laid (a:=s.heap.objs.size+1) (o:=.ins C s.heap.objs.size []) (t':=s.toks) (λb u q=>Q0a _ q) (Q1w (Q2a _ _)) ?_;have ne:s.heap.objs.size≠s.heap.objs.size+1:=Q0c (Q19 _);refine⟨by rw[d_ ne,gh],Q0g _,ne,L,λ_=>none,(Heap.Ns1.of_empty U).at λo q=>Q0a _ q,λ_=>True.intro,λy hy=>absurd rfl hy⟩
theorem Ie {prog:Program}{w:World}{env:Env}{e:Expr}{f:Str}{pos:Pos}{s:Shared}{Q:Value->Shared->Prop}(J:attributeBase e f env (eval e env)=eval e env)
 (h:wpAny (model prog w) A (eval e env) (λo I=>wpAny (model prog w) A (getAttr o f true) Q E I) E s):wpAny (model prog w) A (eval (.Attribute e f pos) env) Q E s:=
 Attribute_any_ h (by rw[arm_eval_Attribute,J])
end
def uZ (K:W.Frag) (ta:TE) (f:Str):TE:=λσ H Q=>ta σ H λx H1=>∃a C dx fs v,x=.ref a/\H1 a=some (.ins C dx fs)/\Cls K C/\nt K C f/\fs.lookup f=some v/\Q v H1
def Ig (K:W.Frag) (ta tv:TE) (f:Str):TS:=λD σ H=>tv σ H λy H1=>ta σ H1 λx H2=>∃a C dx fs,x=.ref a/\H2 a=some (.ins C dx fs)/\Cls K C/\nt K C f/\fs.length<1000/\
 D.nx σ (upd H2 a (.ins C dx (jP f y fs)))
section
variable {X:Cx}{o e value:Expr}{f:Str}{pos pos' tpos:Pos}{ta tv:TE}
theorem jJ (J:PE X e ta)(L:attributeBase e f X.env (eval e X.env)=eval e X.env):PE X (.Attribute e f pos) (uZ X.K ta f):=by
 intro pins s σ H Q I h;refine Ie L (gB (J pins s σ H _ I h) λu s1 zq=>?_);obtain⟨x,H1,U,Y,a,C,dx,fs,v,ex,ea,c,n,l,q⟩:=zq;subst ex;obtain rfl:u=Value.ref a:=Y;exact Ib U ea c n l λu' s2 I2 ru=>⟨v,H1,I2,ru,q⟩
theorem B6 (J:PE X o ta)(L:PE X value tv)(U:swapsWith value (some (.Attribute o f pos')) pos.line X.env=pure false):PS X (.Assign [.Attribute o f pos'] value pos) (Ig X.K ta tv f):=by
 intro pins s σ H D I h;refine plainObj_wpAny_Assign_Attribute (gB (L pins s σ H _ I h) λu Y ⟨y,H1,I1,ry,q⟩=>gB (J pins Y σ H1 _ I1 q) λov s2 zq=>?_) U;obtain⟨x,H2,I2,rx,a,C,dx,fs,ex,ea,c,n,l,q2⟩:=zq;subst ex;obtain rfl:ov=Value.ref a:=rx;exact Ic I2 ea c n l ry λs3 I3=>⟨σ,_,I3,q2⟩
end
section
variable {X:Cx}{pins:List (Addr × Obj)}{σ:St}{H:Hp}{s:Shared}{A:Around}{E:Value->Shared->Prop}{Q:Value->Shared->Prop}{c:Value}{b:Bool}
inductive kQ (K:W.Frag) (H:Hp):V->Value->Prop where
 |non:kQ K H .non (.type "NoneType")
 |bl (x:Bool):kQ K H (.bl x) (.type "bool")
 |int (i:Int):kQ K H (.int i) (.type "int")
 |str (x:Str):kQ K H (.str x) (.type "str")
 |flt (x:UInt64):kQ K H (.flt x) (.type "float")
 |lst {a:Addr} {xs:List V} (e:H a=some (.lst xs)):kQ K H (.ref a) (.type "list")
 |iU {a:Addr} {o:Obj} {xs:List V} (e:H a=some (.iU o (.lst xs))):kQ K H (.ref a) (.type "list")
 |tup {a:Addr} {xs:List V} (e:H a=some (.tup xs)):kQ K H (.ref a) (.type "tuple")
 |dK {a:Addr} {kvs:List (Key × V)} (e:H a=some (.dK kvs)):kQ K H (.ref a) (.type "dict")
 |dT {a:Addr} {kvs:List (List Key × V)} (e:H a=some (.dT kvs)):kQ K H (.ref a) (.type "dict")
 |ins {a C dx:Addr} {fs:List (Str × V)} (e:H a=some (.ins C dx fs)) (cl:Cls K C) (ha:W.findIn K (.ref C) "__class__"=some (some (.builtin "object.__class__")))
   (hn:W.specialIn K (.builtin "object.__class__") "__get__"=some (some (.builtin "getset_descriptor.__get__"))) (htk:W.takesIn K (.builtin "object.__class__")=some true)
   (hm:W.mroIn K C (.type "object")=some true):kQ K H (.ref a) (.ref C)
theorem Ih {x:V}{u t:Value}(I:Inv X pins σ H s)(L:RelV x u)(ty:kQ X.K H x t)(e:W.kitOne X.K t c=some b)(h:∀tk,Q (.bool b) { s with toks:=tk }):
 wpAny (model X.prog X.w) A (call (.builtin "isinstance") [u,c]) Q E s:=by
 cases ty with
 |non=>cases(show u=Value.none from L);exact W.kia_one W.kitx_none I.i4 True.intro e (λz=>nomatch z) h
 |bl y=>cases(show u=Value.bool y from L);exact W.kia_one W.kitx_bool I.i4 True.intro e (λz=>nomatch z) h
 |int i=>obtain⟨t,q⟩:=(show ∃t,u=Value.int i t from L);cases q;exact W.kia_one W.kitx_int I.i4 True.intro e (λz=>nomatch z) h
 |str y=>obtain⟨t,q⟩:=(show ∃t,u=Value.str y t from L);cases q;exact W.kia_one W.kitx_str I.i4 True.intro e (λz=>nomatch z) h
 |flt y=>obtain⟨t,q⟩:=(show ∃t,u=Value.float y t from L);cases q;exact W.kia_one W.kitx_float I.i4 True.intro e (λz=>nomatch z) h
 |@lst a xs U=>
  cases(show u=Value.ref a from L);obtain⟨_,_,n,_,h1⟩:=(show iQ X.prog X.w H s.heap a (.lst xs) from I.hok a _ U);exact W.kia_one W.kitx_list I.i4 ⟨_,h1,rfl⟩ e (λz=>nomatch z) h
 |@iU a ob xs U=>
  cases(show u=Value.ref a from L);obtain⟨_,_,_,n,_,h1⟩:=(show iQ X.prog X.w H s.heap a (.iU ob (.lst xs)) from I.hok a _ U);exact W.kia_one W.kitx_list I.i4 ⟨_,h1,rfl⟩ e (λz=>nomatch z) h
 |@tup a xs U=>
  cases(show u=Value.ref a from L);obtain⟨_,_,_,p⟩:=(show iQ X.prog X.w H s.heap a (.tup xs) from I.hok a _ U);obtain⟨o,h1,h2,_⟩:=p;exact W.kia_one W.kitx_tuple I.i4 ⟨o,h1,h2⟩ e (λz=>nomatch z) h
 |@dK a kvs U=>
  cases(show u=Value.ref a from L);obtain⟨_,_,vs,_,p⟩:=(show iQ X.prog X.w H s.heap a (.dK kvs) from I.hok a _ U);obtain⟨o,es,ep,h1,h2,_⟩:=p;exact W.kia_one W.kitx_dict I.i4 ⟨o,h1,h2.1⟩ e (λz=>nomatch z) h
 |@dT a kvs U=>
  cases(show u=Value.ref a from L);obtain⟨_,_,xs,_,o,es,ep,h1,h2,_⟩:=(show iQ X.prog X.w H s.heap a (.dT kvs) from I.hok a _ U);exact W.kia_one W.kitx_dict I.i4 ⟨o,h1,h2.1⟩ e (λz=>nomatch z) h
 |@ins a C dx fs U cl ha hn Y hm=>
  cases(show u=Value.ref a from L);obtain⟨mA,O,_⟩:=sJ I.hok U;obtain⟨od,J,_⟩:=O.look;exact W.kia_one (W.kitx_own (cl.get _) cl.hd ha hn Y hm) I.i4 J e (λz=>nomatch z) h
end
structure ig (k:Nat) (A:Around):Prop where
 hd:A.handled=none
 dp:A.depth+3 * k+5<recursionLimit
 un:A.units+16 * k+200<cLine
theorem ig.mono {j k:Nat}{A:Around}(r:ig k A)(h:j<=k):ig j A:=⟨r.hd,by have:=r.dp;omega,by have:=r.un;omega⟩
theorem ig.deeper {k:Nat}{A:Around}(r:ig (k+1) A)(env:Env):ig k (A.deeper env):=
 ⟨r.hd,by have:=r.dp;show A.depth+1+3 * k+5<_;omega,by have:=r.un;show A.units+3+16 * k+200<_;omega⟩
theorem ig.in1 {k:Nat}{A:Around}(r:ig (k+1) A):ig k A.in1:=
 ⟨r.hd,by have:=r.dp;show A.depth+3 * k+5<_;omega,by have:=r.un;show A.units+1+16 * k+200<_;omega⟩
theorem Ii {A:Around}{C:Addr}{us:List Value}{I:List (Str × Value)}:(A.under (.builtin "type.__call__" ⟨.ref C::us,I⟩)).depth=A.depth+1:=by
 first|rfl|simp[Around.under,Code.weight,Code.isCreation,Code.isGuard,Code.isCaller,Code.frames,Code.isFrame,guardIds]
theorem Ij {A:Around}{C:Addr}{us:List Value}{I:List (Str × Value)}:(A.under (.builtin "type.__call__" ⟨.ref C::us,I⟩)).units=A.units+1:=by
 first|rfl|simp[Around.under,Code.cUnits,Code.frames,Code.isFrame]
theorem ig.make {k:Nat}{A:Around}(r:ig (k+1) A)(C:Addr)(us:List Value)(I:List (Str × Value)):ig k (A.under (.builtin "type.__call__" ⟨.ref C::us,I⟩)):=
 ⟨r.hd,by have:=r.dp;rw[Ii];omega,by have:=r.un;rw[Ij];omega⟩
theorem ig.depth {k:Nat}{A:Around}(r:ig k A):A.depth<recursionLimit:=by have:=r.dp;omega
theorem ig.units {k:Nat}{A:Around}(r:ig k A):A.units+64<cLine:=by have:=r.un;omega
theorem ig.B7 {k:Nat}{A:Around}(r:ig k A):A.units<cLine:=by have:=r.un;omega
def j2:TA:=λ_ H Q=>Q [] H
def i5 (ta:TE) (I:TA):TA:=λσ H Q=>ta σ H λx H1=>I σ H1 λxs H2=>Q (x::xs) H2
section
variable {X:Cx}{e:Expr}{es:List Expr}{te:TE}{t:TA}{pos:Pos}
theorem b_:PA X [] j2:=λ_ _ _ _ H Q I h=>Calls.spliced_nil ⟨[],H,I,.nil,h⟩
theorem a_ (J:PE X e te)(L:PA X es t)(U:starEach (e::es) X.env=(false,eval e X.env)::starEach es X.env:=by rfl):PA X (e::es) (i5 te t):=by
 intro pos pins s σ H Q I h;rw[U];show wpAny _ _ (spliced ((false,eval e X.env)::backTo pos (starEach es X.env))) _ _ s;refine Calls.spliced_cons (gB (J pins s σ H _ I h) λu Y zq=>?_);obtain⟨x,H1,I1,r1,q1⟩:=zq;exact gB (L pos pins Y σ H1 _ I1 q1) λus s2 ⟨xs,H2,I2,r2,q2⟩=>⟨x::xs,H2,I2,.cons r1 r2,q2⟩
def qK (t:TA):TE:=λσ H Q=>t σ H λxs H1=>xs.length<=sizeLine/\∀p,H1 p=none->Q (.ref p) (upd H1 p (.tup xs))
def Ik (t:TA):TE:=λσ H Q=>t σ H λxs H1=>xs.length<=sizeLine/\∀p,H1 p=none->Q (.ref p) (upd H1 p (.lst xs))
theorem iP {U}(h:PA X es t):PE X (.Tuple es U pos) (qK t):=by
 intro pins s σ H Q I Y;refine wpAny_Tuple_spliced (gB (h pos pins s σ H _ I Y) λus J ⟨xs,H1,L,r,z,q⟩=>⟨by rw[<-r.length];exact z,?_⟩);have hf:H1 J.heap.objs.size=none:=L.hok.fresh (Q00 _);refine⟨.ref J.heap.objs.size,upd H1 J.heap.objs.size (.tup xs),L.laid (t':=J.toks) (λb u e=>Q0a _ e) (Q00 _) ?_,rfl,q _ hf⟩;exact⟨z,us,r,⟨_,Q0i _ rfl,rfl,_,rfl⟩⟩
theorem iV (h:PA X es t):PE X (.List es pos) (Ik t):=by
 intro pins s σ H Q I U;refine wpAny_List_spliced (gB (h pos pins s σ H _ I U) λus J ⟨xs,H1,L,r,z,q⟩=>⟨by rw[<-r.length];exact z,?_⟩);have Y:H1 J.heap.objs.size=none:=L.hok.fresh (Q00 _);refine⟨.ref J.heap.objs.size,upd H1 J.heap.objs.size (.lst xs),L.laid (t':=J.toks) (λb u e=>Q0a _ e) (Q00 _) ?_,rfl,q _ Y⟩;exact⟨z,us,0,r,Q0i _ rfl⟩
end
noncomputable abbrev Sp:=List V->Hp->VK->XK->Prop
noncomputable abbrev j3:=List Env->Hp->Shared->XK->Value->Shared->Prop
structure oG (P:Program) (w:World) (K:W.Frag) (mg:Str->Option Value) (base:Heap) (A:Around) (outer:List Env) (s:Shared) (H:Hp):Prop where
 frames:A.frames=some outer
 mod:Mod K mg base
 bs:∀b o,base.get? b=some o->s.heap.get? b=some o/\H b=none
 kL:base.objs.size<=s.heap.objs.size
 jW:s.heap.FunFrames base outer
 md:∀b∈frs outer,H b=none
 hok:iN P w H s.heap
 bare:AllBare s.gens
def CE (outer:List Env) (P:Program) (w:World) (H:Hp) (s:Shared) (Q:VK) (u:Value) (s':Shared):Prop:=
 ∃v H',s'.os=s.os/\AllBare s'.gens/\Un (frs outer) [] H H' s.heap s'.heap/\iN P w H' s'.heap/\RelV v u/\Q v H'
def CR (CX:j3) (outer:List Env) (P:Program) (w:World) (H:Hp) (s:Shared) (Q:VK) (E:XK) (r:Result) (s':Shared):Prop:=
 match r with
 | .ok (.ret u)=>CE outer P w H s Q u s'
 | .ok _=>False
 | .error e=>CX outer H s E e s'
structure gc (P:Program) (w:World) (K:W.Frag) (mg:Str->Option Value) (base:Heap) (CX:j3) (k:Nat) (f:Addr) (fd:FuncData) (ps:List Str) (sp:Sp):Prop where
 len:∀vs H Q E,sp vs H Q E->vs.length=ps.length
 run:∀(A:Around) (outer:List Env) (s:Shared) (H:Hp) (args:Args) (us:List Value) (vs:List V) (Q:VK) (E:XK),ig k A->oG P w K mg base A outer s H->BindsTo s fd args (ps.zip us)->Vals vs us->sp vs H Q E->
  codeAny (model P w) A (.call (.ref f) args) (CR CX outer P w H s Q E) s
theorem gc.mono {P:Program}{w:World}{K:W.Frag}{mg:Str->Option Value}{base:Heap}{CX:j3}{j k:Nat}{f:Addr}{fd:FuncData}{ps:List Str}{sp:Sp}(F:gc P w K mg base CX j f fd ps sp)(h:j<=k):
 gc P w K mg base CX k f fd ps sp:=⟨F.len,λA outer s H args us vs Q E I=>F.run A outer s H args us vs Q E (I.mono h)⟩
theorem gc.imp {P:Program}{w:World}{K:W.Frag}{mg:Str->Option Value}{base:Heap}{CX:j3}{k:Nat}{f:Addr}{fd:FuncData}{ps:List Str}{sp I:Sp}(F:gc P w K mg base CX k f fd ps sp)
 (h:∀vs H Q E,I vs H Q E->sp vs H Q E):gc P w K mg base CX k f fd ps I:=
 ⟨λvs H Q E q=>F.len vs H Q E (h _ _ _ _ q),λA outer s H args us vs Q E J L U Y hs=>F.run A outer s H args us vs Q E J L U Y (h _ _ _ _ hs)⟩
theorem oG.make {P:Program}{w:World}{K:W.Frag}{mg:Str->Option Value}{base:Heap}{A:Around}{outer:List Env}{s:Shared}{H:Hp}(e:oG P w K mg base A outer s H)(C:Addr)(us:List Value)(I:List (Str × Value)):
 oG P w K mg base (A.under (.builtin "type.__call__" ⟨.ref C::us,I⟩)) outer s H:=⟨by first|exact e.frames|(simpa[Around.under,Code.envs,Code.isFrame,pushEnvs] using e.frames),e.mod,e.bs,e.kL,e.jW,e.md,e.hok,e.bare⟩
section
variable {X:Cx}{pins:List (Addr × Obj)}{σ:St}{H:Hp}{s s':Shared}
theorem Inv.env0 (I:Inv X pins σ H s):oG X.prog X.w X.K X.mg X.base X.A X.stack s H:=
 ⟨I.ok.frames,I.ok.mod,I.bs,Q0d I.ok.kL I.sz,I.stack,I.rZ,I.hok,I.bare⟩
theorem Inv.after {Q:VK}{u:Value}(I:Inv X pins σ H s)(h:CE X.stack X.prog X.w H s Q u s'):EP X pins σ Q u s':=by
 obtain⟨v,H',os,J,un,L,r,q⟩:=h;obtain⟨Y,g,d,t,U⟩:=s';obtain rfl:U=s.os:=os;exact⟨v,H',I.call (h':=Y) (g':=g) (d':=d) (t':=t) (ch:=[]) un L J (λb z=>absurd z (by simp)),r,q⟩
end
def nu (sp:Sp) (jg:List V) (E:XK) (t:TA):TE:=λσ H Q=>t σ H λvs H1=>sp (vs++jg) H1 Q E
def B8 (C:Addr) (m:Str) (sp:Sp) (jg:List V) (E:XK) (ta:TE) (t:TA):TE:=λσ H Q=>ta σ H λx H1=>∃a dx fs,x=.ref a/\H1 a=some (.ins C dx fs)/\fs.lookup m=none/\
 t σ H1 λvs H2=>sp (x::(vs++jg)) H2 Q E
def Il (C:Addr) (sp:Sp) (jg:List V) (E:XK) (t:TA):TE:=λσ H Q=>t σ H λvs H1=>∀x dx,H1 x=none->H1 dx=none->dx≠x->
 sp (.ref x::(vs++jg)) (upd (upd H1 dx (.own x)) x (.ins C dx [])) (λv H2=>v=.non/\Q (.ref x) H2) E
def Binds (K:W.Frag) (fd:FuncData) (ps:List Str) (ds:List Value):Prop:=
 ∀(s:Shared) (us:List Value),K.In s.heap->(us++ds).length=ps.length->BindsTo s fd ⟨us,[]⟩ (ps.zip (us++ds))
theorem Binds.all {K:W.Frag}{fd:FuncData}{ps:List Str}(h:∀us:List Value,us.length=ps.length->bindArgs fd ⟨us,[]⟩=pure (ps.zip us)):Binds K fd ps []:=λs us _ hl=>by
 rw[Q1a] at hl ⊢;exact .of_eq (h us hl)
def Passes (CX:j3) (X:Cx) (E:XK):Prop:=∀(pins:List (Addr × Obj)) (σ:St) (H:Hp) (s:Shared) (e:Value) (s':Shared),Inv X pins σ H s->CX X.stack H s E e s'->X.xe e s'
section
variable {X:Cx}{CX:j3}{k:Nat}{f C:Addr}{fd:FuncData}{ps:List Str}{sp:Sp}{jg:List V}{ds:List Value}{E:XK}{x m:Str}{p pos apos:Pos}{e o:Expr}{es:List Expr}{ta:TE}{t:TA}
theorem u0 {pins:List (Addr × Obj)}{σ:St}{H:Hp}{s:Shared}{Q:VK}{us:List Value}{vs:List V}(F:gc X.prog X.w X.K X.mg X.base CX k f fd ps sp)(U:ig k X.A)(Y:Binds X.K fd ps ds)(hd:Vals jg ds)(hx:Passes CX X E)
 (I:Inv X pins σ H s) (r:Vals vs us) (h:sp (vs++jg) H Q E):wpAny (model X.prog X.w) X.A (call (.ref f) us) (EP X pins σ Q) X.xe s:=by
 have L:Vals (vs++jg) (us++ds):=r.append hd;have hl:(us++ds).length=ps.length:=by rw[<-L.length];exact F.len _ _ _ _ h
 refine wpAny_call (codeAny_mono (F.run X.A X.stack s H ⟨us,[]⟩ (us++ds) (vs++jg) Q E U I.env0 (Y s us I.i4 hl) L h) λr s' J=>?_)
 cases r with
 |error e=>exact hx pins σ H s e s' I J
 |ok fl=>
  cases fl with
  |ret u=>exact I.after J
  |next=>exact False.elim J
  |brk=>exact False.elim J
  |cont=>exact False.elim J
theorem qL (F:gc X.prog X.w X.K X.mg X.base CX k f fd ps sp)(Y:ig k X.A)(hg:Gl X x)(hm:X.mg x=some (.ref f))(hk:W.keepIn X.K (.ref f)=true)(hb:Binds X.K fd ps ds)(hd:Vals jg ds)(hx:Passes CX X E)
 (ha:PA X (e::es) t) (J:(x == ("__debug__":Str))=false:=by decide) (he:starEach (e::es) X.env=(false,eval e X.env)::starEach es X.env:=by rfl) (L:(backTo pos (starEach es X.env)).any (·.1)=false:=by rfl):
 PE X (.Call (.Name x p) (e::es) [] pos) (nu sp jg E t):=by
 intro pins s σ H Q I h;refine wpAny_Call_Name_kw (uQ I hg hm ?_ J);refine W.callWith_K (h₀:=X.base) I.ok.mod.qE hk (gB (ha pos pins s σ H _ I h) λus s1 ⟨vs,H1,U,r,q⟩=>⟨U.i4,?_⟩) he L;exact u0 F Y hb hd hx U r q
theorem qM {pl:Sem Bool}(he:PE X o ta)(c:Cls X.K C)(U:Meth X.K C m f)(F:gc X.prog X.w X.K X.mg X.base CX k f fd ps sp)(hr:ig k X.A)(hb:Binds X.K fd ps ds)(hd:Vals jg ds)(hx:Passes CX X E)(ha:PA X (e::es) t)
 (J:starEach (e::es) X.env=(false,eval e X.env)::starEach es X.env:=by rfl) (L:(backTo pos (starEach es X.env)).any (·.1)=false:=by rfl)
 (ht:eval (.Call (.Attribute o m apos) (e::es) [] pos) X.env=(do
   let Y <-eval o X.env
   standAt apos.atName
   let(f,first) <-holding [Y] (getMethod Y m pl)
   callWith pos f first (backTo pos (starEach (e::es) X.env)) (backToKw pos (keywordEach [] X.env))):=by rfl):
 PE X (.Call (.Attribute o m apos) (e::es) [] pos) (B8 C m sp jg E ta t):=by
 intro pins s σ H Q I h;refine W.methodCall_KW (pl:=pl) (gB (he pins s σ H _ I h) λu s1 zq=>?_) ht;obtain⟨x,H1,I1,rx,a,dx,fs,ex,ea,l,q⟩:=zq;subst ex;obtain rfl:u=Value.ref a:=rx;refine B5 I1 ea c U l ?_;refine W.callWith_K (first:=[.ref a]) (h₀:=X.base) I.ok.mod.qE U.kp (gB (ha pos pins s1 σ H1 _ I1 q) λus s2 ⟨vs,H2,I2,r,q2⟩=>⟨I2.i4,?_⟩) J L;exact u0 (us:=.ref a::us) (vs:=.ref a::vs) F hr hb hd hx I2 (.cons rfl r) q2
theorem Im {pl:Sem Bool}(Y:PE X o ta)(c:Cls X.K C)(L:Meth X.K C m f)(F:gc X.prog X.w X.K X.mg X.base CX k f fd ps sp)(hr:ig k X.A)(hb:Binds X.K fd ps ds)(hd:Vals jg ds)(hx:Passes CX X E)
 (ht:eval (.Call (.Attribute o m apos) [] [] pos) X.env=(do
   let U <-eval o X.env
   standAt apos.atName
   let(f,first) <-holding [U] (getMethod U m pl)
   callWith pos f first (backTo pos (starEach [] X.env)) (backToKw pos (keywordEach [] X.env))):=by rfl):
 PE X (.Call (.Attribute o m apos) [] [] pos) (B8 C m sp jg E ta j2):=by
 intro pins s σ H Q I h;refine W.methodCall_KW (pl:=pl) (gB (Y pins s σ H _ I h) λu s1 zq=>?_) ht;obtain⟨x,H1,J,rx,a,dx,fs,ex,ea,l,q⟩:=zq;subst ex;obtain rfl:u=Value.ref a:=rx;refine B5 J ea c L l ?_;exact W.callWith_K0 (first:=[.ref a]) J.i4 L.kp (u0 (us:=[.ref a]) (vs:=[.ref a]) F hr hb hd hx J (.cons rfl .nil) q)
structure Mk (K:W.Frag) (C f:Addr):Prop where
 makes:W.makesIn K C=true
 init:W.findIn K (.ref C) "__init__"=some (some (.ref f))
 fn:W.isFn K (.ref f)=true
 kp:W.keepIn K (.ref C)=true
theorem Io {pins:List (Addr × Obj)}{σ:St}{H:Hp}{s:Shared}{Q:VK}{us:List Value}{vs:List V}(M:Mk X.K C f)(F:gc X.prog X.w X.K X.mg X.base CX k f fd ps sp)(hr:ig (k+1) X.A)(hb:Binds X.K fd ps ds)(hd:Vals jg ds)
 (hx:Passes CX X E) (I:Inv X pins σ H s) (r:Vals vs us)
 (h:∀x dx,H x=none->H dx=none->dx≠x->sp (.ref x::(vs++jg)) (upd (upd H dx (.own x)) x (.ins C dx [])) (λv H2=>v=.non/\Q (.ref x) H2) E):
 wpAny (model X.prog X.w) X.A (call (.ref C) us) (EP X pins σ Q) X.xe s:=by
 have U:=h (s.heap.objs.size+1) s.heap.objs.size (I.hok.fresh (Q1b _)) (I.hok.fresh (Q00 _)) (Q0c (Q19 _));have L:=Inv.made (C:=C) I;have Y:Vals (V.ref (s.heap.objs.size+1)::(vs++jg)) (Value.ref (s.heap.objs.size+1)::(us++ds)):=.cons rfl (r.append hd)
 have hl:(Value.ref (s.heap.objs.size+1)::us++ds).length=ps.length:=by
  have e:=Y.length;rw[F.len _ _ _ _ U] at e;exact e.symm
 refine wpAny_call (H_ (f:=f) I.i4 M.makes M.init (beq_iff_eq.mp M.fn) (codeAny_mono (F.run _ X.stack _ _ ⟨Value.ref (s.heap.objs.size+1)::us,[]⟩ (Value.ref (s.heap.objs.size+1)::(us++ds)) _ _ E (hr.make C us [])
  (L.env0.make C us []) (hb _ (Value.ref (s.heap.objs.size+1)::us) L.i4 hl) Y U) λr s' J=>?_))
 cases r with
 |error e=>exact hx pins σ _ _ e s' L J
 |ok fl=>
  cases fl with
  |ret u=>
   obtain⟨v,H',I3,rv,ev,q3⟩:=L.after J;subst ev;exact⟨rv,⟨V.ref (s.heap.objs.size+1),H',I3,rfl,q3⟩⟩
  |next=>exact False.elim J
  |brk=>exact False.elim J
  |cont=>exact False.elim J
theorem Iq (M:Mk X.K C f)(F:gc X.prog X.w X.K X.mg X.base CX k f fd ps sp)(Y:ig (k+1) X.A)(hg:Gl X x)(hm:X.mg x=some (.ref C))(hb:Binds X.K fd ps ds)(hd:Vals jg ds)(hx:Passes CX X E)
 (ha:PA X (e::es) t) (J:(x == ("__debug__":Str))=false:=by decide) (he:starEach (e::es) X.env=(false,eval e X.env)::starEach es X.env:=by rfl) (L:(backTo pos (starEach es X.env)).any (·.1)=false:=by rfl):
 PE X (.Call (.Name x p) (e::es) [] pos) (Il C sp jg E t):=by
 intro pins s σ H Q I h;refine wpAny_Call_Name_kw (uQ I hg hm ?_ J);refine W.callWith_K (h₀:=X.base) I.ok.mod.qE M.kp (gB (ha pos pins s σ H _ I h) λus s1 ⟨vs,H1,U,r,q⟩=>⟨U.i4,?_⟩) he L;exact Io M F Y hb hd hx U r q
end
section
variable {X:Cx}{CX:j3}{k:Nat}{f C:Addr}{fd:FuncData}{ps ks:List Str}{sp:Sp}{E:XK}{x m:Str}{p pos apos kpos:Pos}{e o:Expr}{es:List Expr}{kws:List Keyword}{te ta:TE}{t tk:TA}{nm:Option Str}
variable {g:List Value->List Value->List Value}{gV:List V->List V->List V}
end
structure gQ (N P:List Str) (sc:Scope):Prop where
 kind:sc.kind=.function
 co:sc.isCoroutine=false
 gen:sc.isGenerator=false
 nd:N.Nodup
 pre:N.take P.length=P
 par:∀x∈P,sc.names.lookup x=some .local\/sc.names.lookup x=some .cell
 Ir:∀y∈sc.names,y.2≠ .free
theorem Od {N Q:List Str}{sc:Scope}(h1:sc.kind=.function:=by rfl)(h2:sc.isCoroutine=false:=by rfl)(I:sc.isGenerator=false:=by rfl)(J:N.Nodup:=by decide +kernel)(L:N.take Q.length=Q:=by rfl)(U:∀x∈Q,sc.names.lookup x=some .local\/sc.names.lookup x=some .cell:=by decide +kernel)(Y:∀y∈sc.names,y.2≠ .free:=by decide +kernel):gQ N Q sc:=⟨h1,h2,I,J,L,U,Y⟩
theorem B9 {kindOf:Str->Option NameKind}{x:Str}:∀{binds:List (Str × Value)}{m:Str->Option Value},(∀v,(x,v) ∉ binds)->bindL kindOf binds m x=m x
 |[],_,_=>rfl
 |(n,v)::r,m,h=>by
  unfold bindL;rw[B9 λw hw=>h w (Q07 _ hw)];split
  . have:x≠n:=by rintro rfl;exact h v Q02
    simp[this]
  . rfl
theorem B_ {kindOf:Str->Option NameKind}{x:Str}:∀{binds:List (Str × Value)}{m:Str->Option Value},(∀v,(x,v) ∉ binds)->bindC kindOf binds m x=m x
 |[],_,_=>rfl
 |(n,v)::r,m,h=>by
  unfold bindC;rw[B_ λw hw=>h w (Q07 _ hw)];split
  . rfl
  . have:x≠n:=by rintro rfl;exact h v Q02
    simp[this]
theorem Ca {kindOf:Str->Option NameKind}{x:Str}{v:Value}:∀{P:List Str}{vs:List Value}{i:Nat}{m:Str->Option Value},P.Nodup->P[i]? =some x->vs[i]? =some v->kindOf x=some .local->
 bindL kindOf (P.zip vs) m x=some v
 |[],_,_,_,_,h,_,_=>by simp at h
 |_::_,[],_,_,_,_,h,_=>by simp at h
 |p::P,w::vs,0,m,nd,h1,h2,I=>by
  simp at h1 h2;subst h1;subst h2;show bindL kindOf ((p,w)::P.zip vs) m p=_;unfold bindL;rw[B9 λv J=>(List.nodup_cons.mp nd).1 (Q2b J).1,if_pos I];simp
 |p::P,w::vs,i+1,m,nd,h1,h2,I=>by
  show bindL kindOf ((p,w)::P.zip vs) m x=_;unfold bindL;exact Ca (i:=i) (List.nodup_cons.mp nd).2 (by simpa using h1) (by simpa using h2) I
theorem Cb {kindOf:Str->Option NameKind}{x:Str}{v:Value}:∀{P:List Str}{vs:List Value}{i:Nat}{m:Str->Option Value},P.Nodup->P[i]? =some x->vs[i]? =some v->kindOf x≠some .local->
 bindC kindOf (P.zip vs) m x=some v
 |[],_,_,_,_,h,_,_=>by simp at h
 |_::_,[],_,_,_,_,h,_=>by simp at h
 |p::P,w::vs,0,m,nd,h1,h2,I=>by
  simp at h1 h2;subst h1;subst h2;show bindC kindOf ((p,w)::P.zip vs) m p=_;unfold bindC;rw[B_ λv J=>(List.nodup_cons.mp nd).1 (Q2b J).1,if_neg I];simp
 |p::P,w::vs,i+1,m,nd,h1,h2,I=>by
  show bindC kindOf ((p,w)::P.zip vs) m x=_;unfold bindC;exact Cb (i:=i) (List.nodup_cons.mp nd).2 (by simpa using h1) (by simpa using h2) I
noncomputable def start (N:List Str) (vs:List V):St:=vs.map some++List.replicate (N.length - vs.length) none
noncomputable def gO (CX:j3) (P:Program) (w:World) (K:W.Frag) (mg:Str->Option Value) (base:Heap) (N:List Str) (qual:Str) (scope:Scope) (f:Addr) (J:Value) (A:Around) (outer:List Env) (s:Shared) (H:Hp) (E:XK):Cx where
 prog:=P
 w:=w
 K:=K
 mg:=mg
 base:=base
 A:=A.deeper (envOfC qual scope s.heap.objs.size f J)
 N:=N
 s₀:=s
 H₀:=H
 env:=envOfC qual scope s.heap.objs.size f J
 outer:=outer
 stack:=envOfC qual scope s.heap.objs.size f J::outer
 ex:=[]
 calm:=true
 fn:=λ_=>true
 pn:=[]
 xe:=λe s'=>wpAny (model P w) (A.deeper (envOfC qual scope s.heap.objs.size f J)) (leaving (envOfC qual scope s.heap.objs.size f J) e) (λ_ I=>CX outer H s E e I) (λL I=>CX outer H s E L I) s'
theorem Cc {sc:Scope}{n:Nat}{x:Str}(h:sc.names.lookup x=some .cell):∃c,(cellsFrom n sc.names []).lookup x=some c:=by
 have q:=W.cellsFrom_some sc.names n [] (.inl h);exact Option.isSome_iff_exists.mp q
theorem Iu {CX:j3}{P:Program}{w:World}{K:W.Frag}{mg:Str->Option Value}{base:Heap}{N ps:List Str}{qual:Str}{scope:Scope}{f:Addr}{Y:Value}{A:Around}{outer:List Env}{s s1:Shared}{H:Hp}{E:XK}{us:List Value}{vs:List V}
 (S:gQ N ps scope) (hd:A.handled=none) (I:oG P w K mg base A outer s H) (hl:vs.length=ps.length) (r:Vals vs us)
 (x:InCallC s s.heap.objs.size (bindL (envOfC qual scope s.heap.objs.size f Y).kindOf (ps.zip us) λ_=>none) (cellsFrom (s.heap.objs.size+1) scope.names []) (bindC (envOfC qual scope s.heap.objs.size f Y).kindOf (ps.zip us) λ_=>none) s1):
 Inv (gO CX P w K mg base N qual scope f Y A outer s H E) [] (start N vs) H s1:=by
 have aa:ps.length<=N.length:=by have:=congrArg List.length S.pre;rw[Q0l] at this;omega
 obtain⟨h1,tk,rfl,hk⟩:=x.done;have L:∀b:Addr,b ∉ (gO CX P w K mg base N qual scope f Y A outer s H E).ex:=λb z=>absurd (show b∈([]:List Addr) from z) (by simp)
 refine⟨⟨I.mod,S.kind,rfl,rfl,Q00 _,λy z c h1 h2=>?_,λy J=>?_,λy c _ h=>?_,λ_=>hd,Around.frames_deeper I.frames,.inr ⟨rfl,rfl⟩,λb z=>absurd z (L b),I.bs,I.kL,λb _ _=>L b,λb z=>absurd z (L b),I.jW,I.md⟩,
  rfl,I.bare,Un.kept hk,⟨_,x.toInCall.ns,λi y v h1 h2 h3=>?_⟩,λy c h=>⟨_,x.cell y c h⟩,I.hok.fresh (Q00 _),λy c h=>?_,λp hp=>absurd (show p∈([]:List (Addr × Obj)) from hp) (by simp),I.hok.kept hk,?_⟩
 . exact name_of_addr x.apart (PySem.mem_of_lookup h1) (PySem.mem_of_lookup h2)
 . have J:scope.names.lookup y=some .cell\/scope.names.lookup y=some .free:=J;rcases J with J|J
   . exact Cc J
   . exact absurd rfl (S.Ir _ (PySem.mem_of_lookup J))
 . exact Q0w (x.above y c (PySem.mem_of_lookup h))
 . have hi:i<vs.length:=by
    unfold start at h2;by_cases hi:i<vs.length
    . exact hi
    . rw[Q2c (by simpa using hi)] at h2;rw[Q2v] at h2;split at h2 <;> cases h2
   have ha:vs[i]? =some v:=by
    unfold start at h2;rw[Q2w (by simpa using hi),Q0h] at h2
    cases e:vs[i]? with
    |none=>rw[e] at h2;cases h2
    |some a=>rw[e] at h2;cases h2;rfl
   obtain⟨u,hu,rv⟩:=r.get ha
   have hp:ps[i]? =some y:=by
    rw[<-S.pre,Q2x (by omega)];exact h1
   have U:ps.Nodup:=by rw[<-S.pre];exact S.nd.sublist (List.take_sublist _ _)
   refine⟨u,rv,?_⟩;rcases S.par y (Q0j hp) with k|k
   . exact .inl ⟨k,Ca U hp hu k⟩
   . obtain⟨c,e⟩:=Cc (n:=s.heap.objs.size+1) k;refine .inr ⟨.inl k,c,e,?_⟩;have q:=x.cell y c e;rw[Cb U hp hu (by show scope.names.lookup y≠_;rw[k];decide)] at q;exact q
 . exact I.hok.fresh (Q0w (x.above y c (PySem.mem_of_lookup h)))
 . unfold start;show _=N.length;rw[Q09,Q0,Q1l];omega
theorem Cd {CX:j3}{P:Program}{w:World}{K:W.Frag}{mg:Str->Option Value}{base:Heap}{k:Nat}{f:Addr}{name qual:Str}{U:Arguments}{body:List Stmt}{scope:Scope}{dV kV ac pm L ct oc:Value}{an od:Option Addr}
 {af:Array (Option Value)} {N ps:List Str} {sp:Sp} (lk:K.lookup f=some ⟨oc,od,.func (W.fnOf name qual U body scope dV kV ac pm an L ct),af⟩) (ag:W.codeIn K L qual=true) (S:gQ N ps scope)
 (len:∀vs H Q E,sp vs H Q E->vs.length=ps.length)
 (aa:∀(A:Around) (outer:List Env) (s:Shared) (H:Hp) (vs:List V) (Q:VK) (E:XK),ig k (A.deeper (envOfC qual scope s.heap.objs.size f L))->sp vs H Q E->
   ∃t,jX (gO CX P w K mg base N qual scope f L A outer s H E) body t/\t { nx:=λ_ H'=>Q .non H',rt:=Q } (start N vs) H):
 gc P w K mg base CX (k+1) f (W.fnOf name qual U body scope dV kV ac pm an L ct) ps sp:=by
 refine⟨len,λA outer s H args us vs Q E hr e0 hb r ae=>?_⟩;have hl:=len _ _ _ _ ae;have KX:K.In s.heap:=e0.mod.qE.keeps λb o e=>(e0.bs b o e).1;have ah:s.heap.NoLimit:=e0.mod.nolimit.keeps λb o e=>(e0.bs b o e).1
 have ab:∀y∈ps.zip us,scope.names.lookup y.1=some .local\/(scope.names.lookup y.1=some .cell/\((cellsFrom (s.heap.objs.size+1) scope.names []).lookup y.1).isSome=true):=λ⟨n,v⟩ hy=>by
  rcases S.par n (Q2b hy).1 with q|q
  . exact .inl q
  . exact .inr ⟨q,W.cellsFrom_some _ _ _ (.inl q)⟩
 refine codeAny_call_function hr.depth (KX _ _ lk) rfl S.co S.gen rfl (W.codeRec_of KX ag) (hb _ _ _ _ ?_);refine wpAny_newFunctionEnv_cells S.kind ab λenv he s1 x=>?_;subst he;refine⟨ah.keeps x.toInCall.keep,codeAny_func ?_⟩;obtain⟨t,ht,hq⟩:=aa A outer s H vs Q E (hr.deeper _) ae;have I:Inv (gO CX P w K mg base N qual scope f L A outer s H E) [] (start N vs) H s1:=Iu S hr.hd e0 hl r x;refine Q0s (ht [] s1 (start N vs) H _ I hq) (λfl s' hs=>?_) λe s' hs=>hs
 have fin:∀{Y:St} {H':Hp} {v:V} {u:Value},Inv (gO CX P w K mg base N qual scope f L A outer s H E) [] Y H' s'->RelV v u->Q v H'->CE outer P w H s Q u s':=
  λ{Y H' v u} J rv q=>⟨v,H',J.os,J.bare,J.base,J.hok,rv,q⟩
 cases fl with
 |ret u=>
  obtain⟨v,Y,H',J,rv,q⟩:=hs;exact fin J rv q
 |next=>
  obtain⟨Y,H',J,q⟩:=hs;exact fin (v:=V.non) (u:=Value.none) J rfl q
 |brk=>
  obtain⟨_,_,_,q⟩:=hs;exact False.elim q
 |cont=>
  obtain⟨_,_,_,q⟩:=hs;exact False.elim q
section
variable {X:Cx}{x:Str}{p pos:Pos}{e:Expr}{es:List Expr}{t:TA}{id T:String}{r:List V->Hp->VK->Prop}
def Ce (r:List V->Hp->VK->Prop) (t:TA):TE:=λσ H Q=>t σ H λvs H1=>r vs H1 Q
theorem ij (hc:jZ X (.builtin id) r)(U:Gl X x)(Y:X.mg x=none)(hv:bootBuiltins x=some (.builtin id))(ha:PA X (e::es) t)(hn:x≠"__name__":=by decide)(J:(x == ("__debug__":Str))=false:=by decide)
 (he:starEach (e::es) X.env=(false,eval e X.env)::starEach es X.env:=by rfl) (L:(backTo pos (starEach es X.env)).any (·.1)=false:=by rfl):PE X (.Call (.Name x p) (e::es) [] pos) (Ce r t):=by
 intro pins s σ H Q I h;refine wpAny_Call_Name_kw (mC I U Y hv ?_ hn J);exact PyProof.Rows.callWith_builtin1 (gB (ha pos pins s σ H _ I h) λus s1 ⟨vs,H1,I1,r1,q1⟩=>hc pins s1 σ H1 vs us Q I1 r1 q1) he L
theorem lW (hc:jZ X (.type T) r)(U:Gl X x)(Y:X.mg x=none)(hv:bootBuiltins x=some (.type T))(ha:PA X (e::es) t)(hn:x≠"__name__":=by decide)(J:(x == ("__debug__":Str))=false:=by decide)
 (he:starEach (e::es) X.env=(false,eval e X.env)::starEach es X.env:=by rfl) (L:(backTo pos (starEach es X.env)).any (·.1)=false:=by rfl):PE X (.Call (.Name x p) (e::es) [] pos) (Ce r t):=by
 intro pins s σ H Q I h;refine wpAny_Call_Name_kw (mC I U Y hv ?_ hn J);exact PyProof.Rows.callWith_type1 (gB (ha pos pins s σ H _ I h) λus s1 ⟨vs,H1,I1,r1,q1⟩=>hc pins s1 σ H1 vs us Q I1 r1 q1) he L
end
end L2
local macro_rules|`(tactic|ac_rfl)=>`(tactic|try dsimp only[L2.gO,L2.Cx.gN])
namespace HT
open PyProof.Rows
section
open SeqAt
open PySem.AutoSeq1 (wpAny_loadPart')
open MeetsSeq MeetsSeq2 MeetsSeq3
end
section
variable {prog:Program}{w:World}{A:Around}{E:Value->Shared->Prop}{s:Shared}
noncomputable def j4 (n d:Nat):Option Int->Nat
 |none=>d
 |some v=>if v<0 then(v+(n:Int)).toNat else min v.toNat n
end
end HT
namespace L2
open Spec PyProof.Rows
noncomputable abbrev TO:=St->Hp->(Option Int->Hp->Prop)->Prop
def PO (X:Cx) (e:Option Expr) (t:TO):Prop:=
 ∀(pins:List (Addr × Obj)) (s:Shared) (σ:St) (H:Hp) (Q:Option Int->Hp->Prop),Inv X pins σ H s->t σ H Q->
  wpAny (model X.prog X.w) X.A (evalPart e X.env) (λu s'=>∃o H',Inv X pins σ H' s'/\IsPart u o/\Q o H') X.xe s
def Iv:TO:=λ_ H Q=>Q none H
def Iw (t:TE):TO:=λσ H Q=>t σ H λx H1=>∃i,x=.int i/\Q (some i) H1
theorem intsAre_of {ns:List Int}:∀{us:List Value},Vals (ns.map V.int) us->IntsAre us ns:=by
 induction ns with
 |nil=>intro us r;rw[Q1f] at r;cases r;exact .nil
 |cons n ns I=>
  intro us r;rw[Q0v] at r
  cases r with
  |cons J L=>
   obtain⟨t,e⟩:=J;subst e;exact .cons n t (I L)
section
variable {X:Cx}{e:Expr}{te:TE}{lo hi:Option Expr}{tl th:TO}{pos p2:Pos}
theorem u4:PO X none Iv:=by
 intro pins s σ H Q I h;rw[evalPart_none];exact Q0e ⟨none,H,I,.none,h⟩
theorem u5 (h:PE X e te):PO X (some e) (Iw te):=by
 intro pins s σ H Q I hw;rw[evalPart_some];refine gB (h pins s σ H _ I hw) λu Y zq=>?_;obtain⟨x,H1,J,L,U⟩:=zq;obtain⟨i,rfl,q⟩:=U;obtain⟨t,rfl⟩:=L;exact⟨some i,H1,J,.int i t,q⟩
def u6 (X:Cx) (r:V->Option Int->Option Int->Hp->VK->Prop):Prop:=
 ∀(pins:List (Addr × Obj)) (s:Shared) (σ:St) (H:Hp) (x:V) (v I J:Value) (lo hi:Option Int) (L:Addr) (Q:VK),Inv X pins σ H s->RelV x v->s.heap.IsSliceOf L I J .none->IsPart I lo->IsPart J hi->r x lo hi H Q->
  ∃T id,typeLookup (.type T) "__getitem__"=pure (some (.builtin id))/\s.TypeIs v T/\wpAny (model X.prog X.w) X.A (getItem v (.ref L)) (EP X pins σ Q) X.xe s
def Iy (r:V->Option Int->Option Int->Hp->VK->Prop) (te:TE) (tl th:TO):TE:=λσ H Q=>te σ H λx H1=>tl σ H1 λl H2=>th σ H2 λu I=>r x l u I Q
theorem u7 {r:V->Option Int->Option Int->Hp->VK->Prop}(hr:u6 X r)(he:PE X e te)(hl:PO X lo tl)(hu:PO X hi th):PE X (.Subscript e (.Slice lo hi none p2) pos) (Iy r te tl th):=by
 intro pins s σ H Q I h;refine Subscript_ (gB (he pins s σ H _ I h) λv s1 zq=>?_);obtain⟨x,H1,I1,r1,q1⟩:=zq;refine wpAny_Slice (gB (hl pins s1 σ H1 _ I1 q1) λL s2 ⟨l,H2,I2,pl,q2⟩=>gB (hu pins s2 σ H2 _ I2 q2) λU J zq=>?_);obtain⟨u,Y,I3,pu,q3⟩:=zq;rw[evalPart_none];refine Q0e ?_;have I4:Inv X pins σ Y { J with heap:=J.heap.push { cls:=.type "slice",data:=.fields #[L,U,.none] } }:=I3.kept (t':=J.toks) λb ob q=>Q0a _ q;obtain⟨T,id,hT,ht,hg⟩:=hr pins { J with heap:=J.heap.push { cls:=.type "slice",data:=.fields #[L,U,.none] } } σ Y x v L U l u J.heap.objs.size Q I4 r1 (Heap.IsSliceOf.new ..) pl pu q3;show wpAny (model X.prog X.w) X.A (subscriptTail e (.Slice lo hi none p2) v (.ref J.heap.objs.size)) (EP X pins σ Q) X.xe { J with heap:=J.heap.push { cls:=.type "slice",data:=.fields #[L,U,.none] } };exact tail_any (ops:=[.ref J.heap.objs.size,v]) ht hT hg (by with_unfolding_all rfl)
noncomputable def pF (xs:List V) (lo hi:Option Int):List V:=(xs.drop (HT.j4 xs.length 0 lo)).take (HT.j4 xs.length xs.length hi - HT.j4 xs.length 0 lo)
theorem Cf (xs:List V)(lo hi:Option Int):(pF xs lo hi).length<=xs.length:=by
 unfold pF;rw[Q0l,List.length_drop];omega
end
noncomputable def mf (n:Nat) (i:Int):Option Nat:=if 0<=i then(if i<n then some i.toNat else none) else if -(n:Int)<=i then some (i+n).toNat else none
noncomputable def i8 {α:Type}(xs:List α) (i:Int):Option α:=(mf xs.length i).bind λj=>xs[j]?
theorem Cg {n:Nat}{i:Int}{j:Nat}(h:mf n i=some j):seqIndex? i n=some j/\j<n/\ -(n:Int)<=i/\i<n:=by
 unfold mf at h;by_cases I:0<=i
 . rw[if_pos I] at h;by_cases h1:i<n
   . rw[if_pos h1] at h;have e:i.toNat=j:=Option.some.inj h;exact⟨by rw[seqIndex_of I h1,e],by omega,by omega,h1⟩
   . rw[if_neg h1] at h;cases h
 . rw[if_neg I] at h;by_cases h1: -(n:Int)<=i
   . rw[if_pos h1] at h;have e:(i+n).toNat=j:=Option.some.inj h;exact⟨by rw[seqIndex_neg (by omega) h1,e],by omega,h1,by omega⟩
   . rw[if_neg h1] at h;cases h
theorem u9 {α:Type}{xs:List α}{i:Int}{v:α}(h:i8 xs i=some v):∃j,seqIndex? i xs.length=some j/\xs[j]? =some v/\j<xs.length/\ -(xs.length:Int)<=i/\i<xs.length:=by
 unfold i8 at h
 cases e:mf xs.length i with
 |none=>rw[e] at h;cases h
 |some j=>
  rw[e] at h;obtain⟨h1,h2,I,J⟩:=Cg e;exact⟨j,h1,h,h2,I,J⟩
theorem ki {α:Type}{xs:List α}{j:Nat}{v:α}(h:xs[j]? =some v):i8 xs (j:Int)=some v:=by
 have I:j<xs.length:=(List.getElem?_eq_some_iff.mp h).1
 have e:mf xs.length (j:Int)=some j:=by
  unfold mf;rw[if_pos (by omega),if_pos (by omega)];simp
 unfold i8;rw[e];exact h
def u_ (b:Expr):Prop:=∀o i,subscripted b false o i=operate [o,i] (getItem o i)
def sL (X:Cx) (r:R2):Prop:=
 ∀(value I:Expr) (pins:List (Addr × Obj)) (s:Shared) (σ:St) (H:Hp) (x y:V) (v u:Value) (Q:VK),Inv X pins σ H s->RelV x v->RelV y u->r x y H Q->
  subscripted I false v u=operate [v,u] (getItem v u)->wpAny (model X.prog X.w) X.A (subscriptTail value I v u) (EP X pins σ Q) X.xe s
def pG (X:Cx) (id:String) (r:V->List V->Hp->VK->Prop):Prop:=
 ∀(pins:List (Addr × Obj)) (s:Shared) (σ:St) (H:Hp) (x:V) (xs:List V) (v:Value) (us:List Value) (Q:VK),Inv X pins σ H s->RelV x v->Vals xs us->r x xs H Q->
  wpAny (model X.prog X.w) X.A (call (.builtin id) (v::us)) (EP X pins σ Q) X.xe s
section
variable {X:Cx}{a b:Expr}{ta tb:TE}{pos:Pos}
theorem oH {r:R2}(J:sL X r)(L:PE X a ta)(U:PE X b tb)(Y:u_ b):PE X (.Subscript a b pos) (ie r ta tb):=by
 intro pins s σ H Q I h;exact Subscript_ (uU L U I h λv u s2 x y H2 I2 rx ry q=>J a b pins s2 σ H2 x y v u Q I2 rx ry q (Y _ _))
def Ci (K:W.Frag):R2:=λx y H Q=>∃p xs i v,x=.ref p/\y=.int i/\f_ K H p xs/\i8 xs i=some v/\Q v H
def i9 (K:W.Frag):R2:=λx y H Q=>∃p xs i v,x=.ref p/\y=.int i/\f9 K H p xs/\i8 xs i=some v/\Q v H
def Iz:R2:=λx y H Q=>∃z i c,x=.str z/\y=.int i/\z.length<=sizeLine/\i8 z.cps.toList i=some c/\Q (.str ⟨#[c]⟩) H
theorem IA:sL X (Ci X.K):=by
 intro value Y pins s σ H x y v u Q I rx ry h hs;obtain⟨p,xs,i,z,rfl,rfl,hq,he,q⟩:=h
 cases rx;obtain⟨t,rfl⟩:=ry;obtain⟨L,r,pl,hz⟩:=I.list hq;obtain⟨j,h1,h2,h3,h4,h5⟩:=u9 he;obtain⟨w,ew,U⟩:=r.get h2;have hl:=r.length;have hn:=pE;have fin:EP X pins σ Q w s:=⟨z,H,I,U,q⟩;by_cases h0:0<=i
 . have J:i.toNat=j:=by
    rw[seqIndex_of h0 h5] at h1;exact Option.some.inj h1
   exact item_listR pl.isList h0 (by omega) (by rw[J];simpa using ew) fin hs
 . have J:(i+(L.toArray.size:Int)).toNat=j:=by
    rw[seqIndex_neg (by omega) h4] at h1;rw[Q06,<-hl];exact Option.some.inj h1
   exact subscriptTail_builtinR (x:=w) pl.isList.typeIs slot_list_getitem.lookup
    (wpAny_getItem_list_neg (Q:=λr s'=>r=w/\EP X pins σ Q r s') pl.isList (by omega) (by rw[Q06] <;> omega) (by omega) (by rw[J];simpa using ew) ⟨rfl,fin⟩) hs
theorem IB:sL X (i9 X.K):=by
 intro value L pins s σ H x y v u Q I U Y h hs;obtain⟨p,xs,i,z,rfl,rfl,hq,he,q⟩:=h
 cases U;obtain⟨t,rfl⟩:=Y;obtain⟨aa,r,pl,hz⟩:=I.tuple hq;obtain⟨j,h1,h2,h3,h4,h5⟩:=u9 he;obtain⟨w,ew,J⟩:=r.get h2;have hl:=r.length;have hn:=pE;have fin:EP X pins σ Q w s:=⟨z,H,I,J,q⟩
 exact subscriptTail_builtinR (x:=w) pl.typeIs slot_tuple_getitem.lookup
  (getItem_tuple (j:=j) (Q:=λr s'=>r=w/\EP X pins σ Q r s') pl (by omega) (by omega) (by rw[Q06,<-hl];exact h1) (by simpa using ew) ⟨rfl,fin⟩) hs
theorem qN:sL X Iz:=by
 intro value J pins s σ H x y v u Q I L U h Y;obtain⟨z,i,c,rfl,rfl,hz,he,q⟩:=h;obtain⟨t,rfl⟩:=L;obtain⟨t',rfl⟩:=U;obtain⟨j,h1,h2,h3,h4,h5⟩:=u9 he;have hl:z.cps.toList.length=z.length:=by simp[Str.length]
 rw[hl] at h1 h4 h5;have hn:=pE
 exact tail_any (typeIs_str s z t) slot_str_getitem.lookup (getItem_str (c:=c) (by
  have e1:decide (i< -(2 ^ 63:Int))=false:=decide_eq_false (by omega);have e2:decide (i ≥ 2 ^ 63)=false:=decide_eq_false (by omega);rw[e1,e2,Bool.or_false]) (by rw[h1];simpa using h2) ⟨.str ⟨#[c]⟩,H,I.tok _,⟨_,rfl⟩,q⟩) Y
theorem IC (I:List Value)(n j:Nat)(u:Value):Obj.mapSeq (·.setIfInBounds j u) { cls:=.type "list",data:=.seq I.toArray n }={ cls:=.type "list",data:=.seq (I.set j u).toArray n }:=by
 simp[Obj.mapSeq]
theorem Inv.lst {pins:List (Addr × Obj)}{σ:St}{H:Hp}{s:Shared}{p:Addr}{xs:List V}(I:Inv X pins σ H s)(h:H p=some (.lst xs)):
 ∃(J:List Value) (n:Nat),Vals xs J/\s.heap.get? p=some { cls:=.type "list",data:=.seq J.toArray n }/\xs.length<=sizeLine:=by
 obtain⟨z,J,n,r,e⟩:=I.hok p _ h;exact⟨J,n,r,e,z⟩
theorem Inv.ID {pins:List (Addr × Obj)}{σ:St}{H:Hp}{s:Shared}{p:Addr}{xs ys:List V}{J its':List Value}{n n':Nat}{f:Obj->Obj}(I:Inv X pins σ H s)(h:H p=some (.lst xs))
 (U:s.heap.get? p=some { cls:=.type "list",data:=.seq J.toArray n }) (L:f { cls:=.type "list",data:=.seq J.toArray n }={ cls:=.type "list",data:=.seq its'.toArray n' }) (r:Vals ys its') (Y:ys.length<=sizeLine) (t:Nat):
 Inv X pins σ (upd H p (.lst ys)) { s with heap:=s.heap.update p f,toks:=t }:=by
 have e:(s.heap.update p f).get? p=some { cls:=.type "list",data:=.seq its'.toArray n' }:=by
  rw[Q1x f U (by rw[L] <;> rfl),L]
 refine I.write (x:=p) (e:=p) (by rw[h];trivial) (.inl rfl) (λb u hb q=>(Q1c _ _ (Ne.symm hb)).trans q) ⟨_,e⟩ ?_;exact⟨Y,its',n',r,e⟩
def IE:V->V->V->Hp->(Hp->Prop)->Prop:=λo i v H Q=>∃p xs k j,o=.ref p/\i=.int k/\H p=some (.lst xs)/\mf xs.length k=some j/\Q (upd H p (.lst (xs.set j v)))
theorem set_list:BQ X IE:=by
 intro pins s σ H o i v ov iv u Q I ro ri rv h;obtain⟨p,xs,k,j,rfl,rfl,hp,hj,q⟩:=h
 cases ro;obtain⟨t,rfl⟩:=ri;obtain⟨J,n,r,L,hz⟩:=I.lst hp;obtain⟨h1,h2,Y,h4⟩:=Cg hj;have hl:=r.length;have hn:=pE
 have I':Inv X pins σ (upd H p (.lst (xs.set j v))) { s with heap:=s.heap.update p (Obj.mapSeq (·.setIfInBounds j u)) }:=
  I.ID hp L (IC J n j u) (r.set rv j) (by rw[Q2y];exact hz) s.toks
 by_cases h0:0<=k
 . have U:k.toNat=j:=by
    rw[seqIndex_of h0 h4] at h1;exact Option.some.inj h1
   exact W.ki_setAt L h0 (by omega) (by rw[Q06,<-hl];exact h4) (by rw[U];exact⟨_,I',q⟩)
 . have U:(k+(J.toArray.size:Int)).toNat=j:=by
    rw[seqIndex_neg (by omega) Y] at h1;rw[Q06,<-hl];exact Option.some.inj h1
   exact W.ki_setBack L (by omega) (by rw[Q06,<-hl];exact Y) (by omega) (by rw[U];exact⟨_,I',q⟩)
theorem IF (lo hi:Option Int)(n:Nat):(sliceBounds lo hi none n).1=((HT.j4 n 0 lo:Nat):Int)/\(sliceBounds lo hi none n).2.1=((HT.j4 n n hi:Nat):Int)/\(sliceBounds lo hi none n).2.2=1:=by
 refine⟨?_,?_,rfl⟩
 . cases lo with
   |none=>simp[sliceBounds,HT.j4]
   |some i=>
    simp only[sliceBounds,HT.j4,Q2z,show(1:Int) > 0 by decide,if_true];by_cases h:i<0
    . simp only[h,if_true] <;> omega
    . simp only[h,if_false] <;> omega
 . cases hi with
   |none=>simp[sliceBounds,HT.j4]
   |some i=>
    simp only[sliceBounds,HT.j4,Q2z,show(1:Int) > 0 by decide,if_true];by_cases h:i<0
    . simp only[h,if_true] <;> omega
    . simp only[h,if_false] <;> omega
theorem IG (I:List Value)(lo hi:Option Int):slicePick I.toArray lo hi none=((I.drop (HT.j4 I.length 0 lo)).take (HT.j4 I.length I.length hi - HT.j4 I.length 0 lo)).toArray:=by
 obtain⟨h1,h2,J⟩:=IF lo hi I.toArray.size;unfold slicePick;rw[h1,h2,J];simp only[sliceRange_one,pick_run,Q06] <;> rfl
def IH (K:W.Frag):V->Option Int->Option Int->Hp->VK->Prop:=λx lo hi H Q=>∃a xs,x=.ref a/\f_ K H a xs/\∀p,H p=none->Q (.ref p) (upd H p (.lst (pF xs lo hi)))
theorem II:u6 X (IH X.K):=by
 intro pins s σ H x v vl vu lo hi sl Q I L U pl Y h;obtain⟨a,xs,rfl,hx,q⟩:=h
 cases L;obtain⟨aa,r,ht,hz⟩:=I.list hx;have J:=r.length;refine⟨"list",_,slot_list_getitem.lookup,ht.isList.typeIs,?_⟩;refine wpAny_getItem_list_slice ht.isList U pl Y .none (by simp) ?_ (by rw[Q06] <;> omega);rw[IG,<-J];refine⟨.ref s.heap.objs.size,_,I.laid (t':=s.toks) (o:=.lst (pF xs lo hi)) (λb ob q=>Q0a _ q) (Q00 _) ?_,rfl,q _ (I.hok.fresh (Q00 _))⟩;exact⟨Q0d (Cf xs lo hi) hz,_,0,(r.drop (HT.j4 xs.length 0 lo)).take (HT.j4 xs.length xs.length hi - HT.j4 xs.length 0 lo),Q0i _ rfl⟩
noncomputable def lX:V->Bool
 | .non=>true
 | .bl _=>true
 | .int _=>true
 | .str _=>true
 |_=>false
noncomputable def mh:V->V->Bool
 | .non,.non=>true
 | .bl a,.bl b=>a == b
 | .bl a,.int b=>(if a then 1 else 0) == b
 | .int a,.bl b=>a == (if b then 1 else 0)
 | .int a,.int b=>a == b
 | .str a,.str b=>a == b
 |_,_=>false
theorem IJ {A:Around}{s:Shared}{y x:V}{u v:Value}(J:RelV y u)(I:RelV x v)(U:lX y=true)(L:lX x=true):SeqAt.EqAt A s u v (mh y x):=by
 cases y with
 |non=>
  cases J
  cases x with
  |non=>cases I;exact SeqAt.EqAt.same _
  |bl b=>cases I;exact SeqAt.EqAt.none_bool b
  |int b=>obtain⟨t,rfl⟩:=I;exact SeqAt.EqAt.none_int b t
  |str b=>obtain⟨t,rfl⟩:=I;exact SeqAt.EqAt.none_str b t
  |_=>exact absurd (show false=true from L) Bool.false_ne_true
 |bl a=>
  cases J
  cases x with
  |non=>cases I;exact SeqAt.EqAt.bool_none a
  |bl b=>cases I;exact SeqAt.EqAt.bool_bool a b
  |int b=>obtain⟨t,rfl⟩:=I;exact SeqAt.EqAt.bool_int a b t
  |str b=>obtain⟨t,rfl⟩:=I;exact SeqAt.EqAt.bool_str a b t
  |_=>exact absurd (show false=true from L) Bool.false_ne_true
 |int a=>
  obtain⟨t',rfl⟩:=J
  cases x with
  |non=>cases I;exact SeqAt.EqAt.int_none a t'
  |bl b=>cases I;exact SeqAt.EqAt.int_bool a t' b
  |int b=>obtain⟨t,rfl⟩:=I;exact SeqAt.EqAt.int_int a t' b t
  |str b=>obtain⟨t,rfl⟩:=I;exact SeqAt.EqAt.int_str a t' b t
  |_=>exact absurd (show false=true from L) Bool.false_ne_true
 |str a=>
  obtain⟨t',rfl⟩:=J
  cases x with
  |non=>cases I;exact SeqAt.EqAt.str_none a t'
  |bl b=>cases I;exact SeqAt.EqAt.str_bool a t' b
  |int b=>obtain⟨t,rfl⟩:=I;exact SeqAt.EqAt.str_int a t' b t
  |str b=>obtain⟨t,rfl⟩:=I;exact SeqAt.EqAt.str_str a t' b t
  |_=>exact absurd (show false=true from L) Bool.false_ne_true
 |_=>exact absurd (show false=true from U) Bool.false_ne_true
noncomputable def mI (x:V) (u:Value):Bool:=match u with
 | .none=>mh .non x
 | .bool b=>mh (.bl b) x
 | .int i _=>mh (.int i) x
 | .str z _=>mh (.str z) x
 |_=>false
theorem Cj {x y:V}{u:Value}(r:RelV y u)(f:lX y=true):mI x u=mh y x:=by
 cases y with
 |non=>cases r;rfl
 |bl b=>cases r;rfl
 |int i=>obtain⟨t,rfl⟩:=r;rfl
 |str z=>obtain⟨t,rfl⟩:=r;rfl
 |_=>exact absurd (show false=true from f) Bool.false_ne_true
theorem va {x:V}:∀{xs:List V}{us:List Value},Vals xs us->xs.all lX=true->us.any (mI x)=xs.any λy=>mh y x
 |_,_,.nil,_=>rfl
 |y::xs,u::us,.cons r t,f=>by
  rw[Q1y,Bool.and_eq_true] at f;rw[Q1g,Q1g,Cj r f.1,va t f.2]
theorem vb {A:Around}{s:Shared}{x:V}{v:Value}(J:RelV x v)(L:lX x=true):∀{xs:List V}{us:List Value},Vals xs us->xs.all lX=true->∀u∈us,SeqAt.EqAt A s u v (mI x u)
 |_,_,.nil,_=>λu I=>by cases I
 |y::xs,u::us,.cons r t,f=>λU I=>by
  rw[Q1y,Bool.and_eq_true] at f;rcases List.mem_cons.mp I with rfl|I
  . rw[Cj r f.1];exact IJ r J f.1 L
  . exact vb J L t f.2 U I
noncomputable def inV (x:V) (xs:List V):Bool:=xs.any λy=>mh y x
def sM (K:W.Frag) (I:Bool):R2:=λx y H Q=>∃p xs,y=.ref p/\(f_ K H p xs\/f9 K H p xs)/\lX x=true/\xs.all lX=true/\Q (.bl (if I then !inV x xs else inV x xs)) H
theorem qO:iZ X (compareOp .NotIn) (sM X.K true):=by
 intro pins s σ H x y v u Q I U ry h;obtain⟨p,xs,rfl,L,Y,fs,q⟩:=h
 cases ry;rcases L with L|L
 . obtain⟨J,r,pl,hz⟩:=I.list L;refine SeqAt.notIn_listAt (mI x) pl.isList (λw hw=>vb U Y r fs w (by simpa using hw)) ⟨.bl _,H,I,rfl,?_⟩;rw[show J.toArray.any (mI x)=J.any (mI x) by simp,va r fs];exact q
 . obtain⟨J,r,pl,hz⟩:=I.tuple L;refine SeqAt.notIn_tupleAt (mI x) pl (λw hw=>vb U Y r fs w (by simpa using hw)) ⟨.bl _,H,I,rfl,?_⟩;rw[show J.toArray.any (mI x)=J.any (mI x) by simp,va r fs];exact q
theorem jr:jZ X (.builtin "len") (λxs H Q=>∃p ys,xs=[.ref p]/\(f_ X.K H p ys\/f9 X.K H p ys)/\Q (.int ys.length) H):=by
 intro pins s σ H xs us Q I r h;obtain⟨p,ys,rfl,L,q⟩:=h;obtain⟨u,rfl,rx⟩:=vals1 r
 cases rx;have hn:=pE;rcases L with L|L
 . obtain⟨Y,U,pl,hz⟩:=I.list L;have J:=U.length;exact Calls.call_len_list pl.isList (by simp only[Q06] <;> omega) ⟨.int ys.length,H,I.tok _,⟨s.toks+1,by rw[Q06,J]⟩,q⟩
 . obtain⟨Y,U,pl,hz⟩:=I.tuple L;have J:=U.length;exact len_tuple pl (by simp only[Q06] <;> omega) ⟨.int ys.length,H,I.tok _,⟨s.toks+1,by rw[Q06,J]⟩,q⟩
theorem IK:jZ X (.builtin "len") (λxs H Q=>∃z,xs=[.str z]/\z.length<=sizeLine/\Q (.int z.length) H):=by
 intro pins s σ H xs us Q I r h;obtain⟨z,rfl,J,q⟩:=h;obtain⟨u,rfl,t,rfl⟩:=vals1 r;have L:=pE;exact len_str (by omega) ⟨.int z.length,H,I.tok _,⟨_,rfl⟩,q⟩
theorem IL:jZ X (.type "list") (λxs H Q=>∃p ys,xs=[.ref p]/\(f_ X.K H p ys\/f9 X.K H p ys)/\∀l,H l=none->Q (.ref l) (upd H l (.lst ys))):=by
 intro pins s σ H xs us Q I r h;obtain⟨p,ys,rfl,U,q⟩:=h;obtain⟨u,rfl,rx⟩:=vals1 r
 cases rx
 have fin:∀(J:List Value),Vals ys J->ys.length<=sizeLine->∀(h':Heap) (c':Nat),(∀b o',s.heap.get? b=some o'->h'.get? b=some o')->
  h'.get? s.heap.objs.size=some { cls:=.type "list",dict:=none,data:=.seq J.toArray c',slots:=#[] }->EP X pins σ Q (.ref s.heap.objs.size) { s with heap:=h' }:=λJ L Y h' c' kp e=>
  ⟨.ref s.heap.objs.size,_,I.laid (t':=s.toks) kp (Q00 _) (show iQ X.prog X.w _ h' _ (.lst ys) from⟨Y,J,c',L,e⟩),rfl,q _ (I.hok.fresh (Q00 _))⟩
 rcases U with U|U
 . obtain⟨J,L,pl,Y⟩:=I.list U;have aa:=L.length;obtain⟨o,ho,hc,n,hd⟩:=pl.isList;exact call_list_seq p (.inl rfl) ho hc hd (λh' c' kp e=>fin J L Y h' c' kp e) (by simp only[Q06] <;> omega)
 . obtain⟨J,L,pl,Y⟩:=I.tuple U;have aa:=L.length;obtain⟨o,ho,hc,n,hd⟩:=pl;exact call_list_seq p (.inr rfl) ho hc hd (λh' c' kp e=>fin J L Y h' c' kp e) (by simp only[Q06] <;> omega)
theorem pH:jZ X (.type "tuple") (λxs H Q=>∃p ys,xs=[.ref p]/\((f_ X.K H p ys/\∀l,H l=none->Q (.ref l) (upd H l (.tup ys)))\/(f9 X.K H p ys/\Q (.ref p) H))):=by
 intro pins s σ H xs us Q I r h;obtain⟨p,ys,rfl,h⟩:=h;obtain⟨u,rfl,rx⟩:=vals1 r
 cases rx;rcases h with⟨L,q⟩|⟨L,q⟩
 . obtain⟨J,U,pl,Y⟩:=I.list L;have aa:=U.length;refine call_tuple_list pl.isList (λh' kp=>?_) (by simp only[Q06] <;> omega);have I1:Inv X pins σ H { s with heap:=h' }:=I.kept (t':=s.toks) kp
   have I2:Inv X pins σ (upd H h'.objs.size (.tup ys)) { s with heap:=h'.push { cls:=.type "tuple",data:=.seq J.toArray } }:=
    I1.laid (t':=s.toks) (λb o e=>Q0a _ e) (Q00 _) (show iQ X.prog X.w _ _ _ (.tup ys) from⟨Y,J,U,IsTup.new _ _⟩)
   exact⟨.ref h'.objs.size,_,I2,rfl,q _ (I1.hok.fresh (Q00 _))⟩
 . obtain⟨J,U,pl,Y⟩:=I.tuple L;exact call_tuple_same pl ⟨.ref p,H,I,rfl,q⟩
def vc (K:W.Frag) (T:String) (x:V) (H:Hp):Prop:=match x with
 | .str _=>T="str"
 | .int _=>T="int"
 | .ref p=>(T="list"/\∃xs,f_ K H p xs)\/(T="tuple"/\∃o,K.lookup p=some o/\o.cls=.type "tuple"/\o.dict=none)\/
    (T="dict"/\((∃kvs,H p=some (.dK kvs))\/∃kvs,H p=some (.dT kvs)))\/(T="set"/\∃S n,H p=some (.set S n))
 |_=>False
theorem Ck {pins:List (Addr × Obj)}{σ:St}{H:Hp}{s:Shared}{T:String}{x:V}{v:Value}(I:Inv X pins σ H s)(r:RelV x v)(ty:vc X.K T x H):
 s.TypeIs v T/\∀a,v=.ref a->∃Y,s.heap.get? a=some Y/\Y.dict=none:=by
 cases x with
 |str z=>
  obtain⟨t,rfl⟩:=r
  cases(show T="str" from ty);exact⟨typeIs_str s z t,λ_ e=>nomatch e⟩
 |int i=>
  obtain⟨t,rfl⟩:=r
  cases(show T="int" from ty);exact⟨typeIs_int s i t,λ_ e=>nomatch e⟩
 |ref p=>
  cases r;rcases ty with⟨rfl,xs,hq⟩|⟨rfl,o,J,hc,L⟩|⟨rfl,J⟩|⟨rfl,S,n,J⟩
  . obtain⟨aa,_,pl,_⟩:=I.list hq;refine⟨pl.isList.typeIs,λa e=>?_⟩
    cases e;obtain⟨o,n,e,c,L,_⟩:=pl;exact⟨o,e,L⟩
  . refine⟨⟨o,I.i4 p o J,hc⟩,λa e=>?_⟩
    cases e;exact⟨o,I.i4 _ o J,L⟩
  . have z:∃o,s.heap.get? p=some o/\o.ExactDict:=by
     rcases J with⟨kvs,J⟩|⟨kvs,J⟩
     . obtain⟨_,_,_,_,o,_,_,e,ex,_⟩:=I.hok p _ J;exact⟨o,e,ex⟩
     . obtain⟨_,_,_,_,o,_,_,e,ex,_⟩:=I.hok p _ J;exact⟨o,e,ex⟩
    obtain⟨o,e,ex⟩:=z;refine⟨⟨o,e,ex.1⟩,λa U=>?_⟩
    cases U;exact⟨o,e,ex.2.1⟩
  . obtain⟨o,_,_,_,e,ex,_⟩:=I.hok p _ J;refine⟨⟨o,e,ex.1⟩,λa U=>?_⟩
    cases U;exact⟨o,e,ex.2.1⟩
 |_=>exact False.elim ty
def IM (K:W.Frag) (T:String) (r:V->List V->Hp->VK->Prop) (to:TE):TE:=λσ H Q=>to σ H λx H1=>vc K T x H1/\r x [] H1 Q
def IQ (K:W.Frag) (T:String) (r:V->List V->Hp->VK->Prop) (to:TE) (t:TA):TE:=λσ H Q=>to σ H λx H1=>vc K T x H1/\t σ H1 λxs H2=>r x xs H2 Q
variable {o e:Expr}{es:List Expr}{to:TE}{t:TA}{name:Str}{apos cpos:Pos}{T id:String}{r:V->List V->Hp->VK->Prop}
theorem IS (pa:PlainAttrs T)(slot:Slot T name id)(U:typeOf (.builtin id)=pure (.type "method_descriptor"))(hm:pG X id r)(ho:PE X o to)
 (J:attributeBase o name X.env (eval o X.env)=eval o X.env:=by rfl) (L:(apos.endLine == cpos.line)=true:=by rfl):PE X (.Call (.Attribute o name apos) [] [] cpos) (IM X.K T r to):=by
 intro pins s σ H Q I h;refine wpAny_Call_method0_late J L (gB (ho pins s σ H _ I h) λv s1 zq=>?_);obtain⟨x,H1,Y,r1,ty,q1⟩:=zq;obtain⟨h1,h2⟩:=Ck Y r1 ty;exact⟨T,id,pa,slot,U,h1,h2,Calls.callWith_builtin rfl (PySem.evalArgs_none (hm pins s1 σ H1 x [] v [] Q Y r1 .nil q1))⟩
theorem lg (pa:PlainAttrs T)(slot:Slot T name id)(ab:typeOf (.builtin id)=pure (.type "method_descriptor"))(hm:pG X id r)(ho:PE X o to)(ha:PA X (e::es) t)
 (L:attributeBase o name X.env (eval o X.env)=eval o X.env:=by rfl)
 (aa:((backTo cpos (starEach (e::es) X.env)).all (λx=> !x.1) && (backToKw cpos (keywordEach [] X.env)).all (λx=>x.1.isSome)
   && decide ((e::es).length+([]:List Keyword).length+(if([]:List Keyword).isEmpty then 0 else 1)<30))=true:=by rfl)
 (U:(apos.endLine == cpos.line)=true:=by rfl) (hs:starEach (e::es) X.env=(false,eval e X.env)::starEach es X.env:=by rfl) (J:(backTo cpos (starEach es X.env)).any (·.1)=false:=by rfl):
 PE X (.Call (.Attribute o name apos) (e::es) [] cpos) (IQ X.K T r to t):=by
 intro pins s σ H Q I h;refine wpAny_Call_method_late L aa U rfl (gB (ho pins s σ H _ I h) λv s1 zq=>?_);obtain⟨x,H1,I1,r1,ty,q1⟩:=zq;obtain⟨h1,h2⟩:=Ck I1 r1 ty;refine⟨T,id,pa,slot,ab,h1,h2,?_⟩;have hA:=ha cpos pins s1 σ H1 _ I1 q1;rw[hs] at hA ⊢;refine Calls.callWith_builtin (by show(false || (backTo cpos (starEach es X.env)).any (·.1))=false;rw[J] <;> rfl) (Calls.evalArgs_plain ?_);exact gB hA λus s2 ⟨vs,H2,I2,r2,q2⟩=>hm pins s2 σ H2 x vs v us Q I2 r1 r2 q2
/- xs.append(e),list.index on a Y tuple .. ae pG ac of 06m -/
end
def IT (X:Cx) (id:String) (r:V->List V->Hp->VK->Prop):Prop:=
 ∀(pins:List (Addr × Obj)) (s:Shared) (σ:St) (H:Hp) (x:V) (xs:List V) (v:Value) (us:List Value) (Q:VK),Inv X pins σ H s->RelV x v->Vals xs us->r x xs H Q->
  wpAny (model X.prog X.w) X.A (call (.builtin id) (v::us)) (EP X pins σ Q) X.xe s
theorem Vals.one:∀{x:V}{us:List Value},Vals [x] us->∃u,us=[u]/\RelV x u
 |_,_,.cons r .nil=>⟨_,rfl,r⟩
theorem Vals.zero:∀{us:List Value},Vals [] us->us=[]
 |_,.nil=>rfl
section
variable {X:Cx}{pins:List (Addr × Obj)}{σ:St}{H:Hp}{s:Shared}{l b:Addr}{xs ys zs:List V}
theorem Inv.IU {J its':List Value}{n:Nat}{f:Array Value->Array Value}{t':Nat}(I:Inv X pins σ H s)(L:H l=some (.lst xs))
 (e:s.heap.get? l=some { cls:=.type "list",data:=.seq J.toArray n }) (U:f J.toArray=its'.toArray) (Y:Vals ys its') (hz:ys.length<=sizeLine):
 Inv X pins σ (upd H l (.lst ys)) { s with heap:=s.heap.update l (Obj.mapSeq f),toks:=t' }:=by
 have q:=PySem.IsL.update e f;rw[U] at q;refine I.write (x:=l) (e:=l) (by rw[L];exact trivial) (.inl rfl) (λb' u hb hu=>(Q1c s.heap (Obj.mapSeq f) (Ne.symm hb)).trans hu) ⟨_,q⟩ ?_;exact⟨hz,its',_,Y,q⟩
theorem Inv.IV {J:List Value}{t':Nat}(I:Inv X pins σ H s)(L:Vals ys J)(U:ys.length<=sizeLine):
 Inv X pins σ (upd H s.heap.objs.size (.lst ys)) { s with heap:=s.heap.push { cls:=.type "list",data:=.seq J.toArray },toks:=t' }:=
 I.laid (λ_ _ q=>Q0a _ q) (Q00 _) ⟨U,J,0,L,Q0i _ rfl⟩
theorem Inv.fresh (I:Inv X pins σ H s):H s.heap.objs.size=none:=I.hok.fresh (Q00 _)
theorem Inv.vd (I:Inv X pins σ H s)(L:H l=some (.lst xs)):xs.length<=sizeLine/\∃(J:List Value) (n:Nat),Vals xs J/\xs.length=J.length/\s.heap.get? l=some { cls:=.type "list",data:=.seq J.toArray n }:=by
 obtain⟨z,J,n,r,e⟩:=I.hok l _ L;exact⟨z,J,n,r,r.length,e⟩
end
section
variable {X:Cx}
def IW:V->List V->Hp->VK->Prop:=λx vs H Q=>∃l xs y,x=.ref l/\vs=[y]/\H l=some (.lst xs)/\xs.length<sizeLine/\Q .non (upd H l (.lst (xs++[y])))
theorem mi:IT X "list.append" IW:=by
 intro pins s σ H x vs v us Q I U Y h;obtain⟨l,xs,y,rfl,rfl,L,hz,q⟩:=h
 cases U;obtain⟨u,rfl,ru⟩:=Y.one;obtain⟨z,J,n,r,hl,e⟩:=I.vd L;refine call_meets F.slot_list_append ⟨_,e,rfl⟩ F.entry_list_append (F.args_list_append_2 _ _) (PySem.list_append l J.toArray n u (by rw[Q06];omega)) ⟨e,?_⟩;refine⟨.non,_,I.IU (its':=J++[u]) L e (by simp) (r.append (.cons ru .nil)) ?_,rfl,q⟩;rw[Q09,Q1m];omega
def IX:R2:=λx y H Q=>∃l b xs zs,x=.ref l/\y=.ref b/\H l=some (.lst xs)/\H b=some (.lst zs)/\xs.length+zs.length<=sizeLine/\∀p,H p=none->Q (.ref p) (upd H p (.lst (xs++zs)))
theorem Cm:iZ X (binaryOp .Add) IX:=by
 intro pins s σ H x y v u Q I U Y h;obtain⟨l,b,xs,zs,rfl,rfl,hH,hB,hz,q⟩:=h
 cases U
 cases Y;obtain⟨z,L,n,r,hl,e⟩:=I.vd hH;obtain⟨z2,J,n2,r2,aa,e2⟩:=I.vd hB;refine PySem.P.add_list e e2 ?_ (by rw[Q06,Q06];omega);have ea:L.toArray++J.toArray=(L++J).toArray:=by simp
 rw[ea];exact⟨.ref _,_,I.IV (t':=s.toks) (r.append r2) (by rw[Q09];omega),rfl,q _ I.fresh⟩
end
section
variable {prog:Program}{w:World}{A:Around}{E:Value->Shared->Prop}{s:Shared}
end
section
variable {X:Cx}
end
section
variable {κ:Type} [DecidableEq κ]
noncomputable def iw (kvs:List (κ × V)) (k:κ):Option V:=(kvs.find? λI=>decide (I.1=k)).map (·.2)
noncomputable def putK (kvs:List (κ × V)) (k:κ) (v:V):List (κ × V):=
 if(kvs.any λI=>decide (I.1=k))=true then kvs.map (λI=>if I.1=k then(I.1,v) else I) else kvs++[(k,v)]
noncomputable def jK (kvs:List (κ × V)) (k:κ):List (κ × V):=kvs.filter λI=>decide (I.1≠k)
theorem nv {p:κ × V}{r:List (κ × V)}{k:κ}(e:p.1=k):iw (p::r) k=some p.2:=by simp[iw,Q1h,e]
theorem oI {p:κ × V}{r:List (κ × V)}{k:κ}(e:¬p.1=k):iw (p::r) k=iw r k:=by simp[iw,Q1h,e]
theorem qP (k:κ):∀kvs:List (κ × V),(kvs.any λI=>decide (I.1=k))=(iw kvs k).isSome
 |[]=>rfl
 |p::r=>by
  rw[Q1g];by_cases e:p.1=k
  . simp only[nv e,decide_eq_true e,Bool.true_or,Option.isSome_some]
  . rw[oI e,decide_eq_false e,Bool.false_or];exact qP k r
theorem vf (kvs:List (κ × V))(k:κ)(v:V):(putK kvs k v).length<=kvs.length+1:=by
 unfold putK;split
 . rw[Q0];omega
 . rw[Q09,Q0k,Q2d];omega
theorem jG.qQ {o:Option V}{u:Option Value}(r:jG o u):o.isSome=u.isSome:=by
 cases o with
 |none=>cases u with
  |none=>rfl
  |some _=>exact(show False from r).elim
 |some _=>cases u with
  |none=>exact(show False from r).elim
  |some _=>rfl
theorem KV.val {kvs:List (κ × V)}{vs:List (κ × Value)}(r:KV kvs vs)(k:κ):jG (iw kvs k) (valueAt vs k):=by
 unfold KV at r
 induction r with
 |nil=>exact True.intro
 |@cons p q ps qs h t J=>
  obtain⟨h1,h2⟩:=h;by_cases e:p.1=k
  . have I:q.1=k:=h1.symm.trans e;have b:valueAt (q::qs) k=some q.2:=by simp[valueAt,Q1h,I]
    rw[nv e,b];exact h2
  . have I:¬q.1=k:=λz=>e (h1.trans z);have b:valueAt (q::qs) k=valueAt qs k:=by simp[valueAt,Q1h,I]
    rw[oI e,b];exact J
theorem KV.any {kvs:List (κ × V)}{vs:List (κ × Value)}(r:KV kvs vs)(k:κ):(kvs.any λI=>decide (I.1=k))=vs.any λI=>decide (I.1=k):=by
 unfold KV at r
 induction r with
 |nil=>rfl
 |cons h t J=>rw[Q1g,Q1g,J,h.1]
theorem KV.repl {kvs:List (κ × V)}{vs:List (κ × Value)}(r:KV kvs vs)(k:κ){y:V}{u:Value}(J:RelV y u):
 KV (kvs.map λI=>if I.1=k then(I.1,y) else I) (vs.map λI=>if I.1=k then(I.1,u) else I):=by
 unfold KV at r ⊢
 induction r with
 |nil=>exact .nil
 |@cons p q ps qs h t L=>
  rw[Q0v,Q0v];refine .cons ?_ L;obtain⟨h1,h2⟩:=h;by_cases e:p.1=k
  . rw[if_pos e,if_pos (h1.symm.trans e)];exact⟨h1,J⟩
  . rw[if_neg e,if_neg (λz=>e (h1.trans z))];exact⟨h1,h2⟩
theorem KV.put {kvs:List (κ × V)}{vs:List (κ × Value)}(r:KV kvs vs)(k:κ){y:V}{u:Value}(I:RelV y u):KV (putK kvs k y) (stored vs k u):=by
 unfold putK stored;rw[r.any k];by_cases e:(vs.any λJ=>decide (J.1=k))=true
 . rw[if_pos e,if_pos e];exact r.repl k I
 . rw[if_neg e,if_neg e];exact Paired.snoc r ⟨rfl,I⟩
theorem KV.drop {kvs:List (κ × V)}{vs:List (κ × Value)}(r:KV kvs vs)(k:κ):KV (jK kvs k) (without vs k):=by
 unfold KV at r ⊢;unfold jK without
 induction r with
 |nil=>exact .nil
 |@cons p q ps qs h t I=>
  obtain⟨h1,h2⟩:=h;rw[Q11,Q11];by_cases e:p.1=k
  . have a:¬decide (p.1≠k)=true:=by simp[e]
    have b:¬decide (q.1≠k)=true:=by simp[h1.symm.trans e]
    rw[if_neg a,if_neg b];exact I
  . have J:¬q.1=k:=λz=>e (h1.trans z);have a:decide (p.1≠k)=true:=by simp[e]
    have b:decide (q.1≠k)=true:=by simp[J]
    rw[if_pos a,if_pos b];exact .cons ⟨h1,h2⟩ I
theorem KV.length {kvs:List (κ × V)}{vs:List (κ × Value)}(r:KV kvs vs):kvs.length=vs.length:=Paired.length r
theorem IY (kvs:List (κ × V))(k:κ):(jK kvs k).length<=kvs.length:=Q1 _ _
end
theorem ny {P:Program}{w:World}{k:Key}{u:Value}(r:RelV (kV k) u):(je P w).is k u=true:=by
 cases k with
 |inl i=>obtain⟨t,e⟩:=(show ∃t,u=Value.int i t from r);subst e;exact Hf P w i t
 |inr x=>obtain⟨t,e⟩:=(show ∃t,u=Value.str x t from r);subst e;exact Hg P w x t
theorem Cn {P:Program}{w:World}:∀{ks:List Key}{us:List Value},Vals (ks.map kV) us->ItemsAre (je P w) ks us
 |[],_,r=>by rw[Q1f] at r;cases r;exact .nil
 |k::ks,_,r=>by
  rw[Q0v] at r
  cases r with
  |cons h t=>exact .cons (ny h) (Cn t)
abbrev KT (H:Hp):List (List Key × V)->List (List Key × Addr × Value)->Prop:=Paired λp q=>p.1=q.1/\H q.2.1=some (.tup (p.1.map kV))/\RelV p.2 q.2.2
theorem KT.val {H:Hp}{kvs:List (List Key × V)}{xs:List (List Key × Addr × Value)}(r:KT H kvs xs)(k:List Key):jG (iw kvs k) ((atKey xs k).map (·.2)):=by
 induction r with
 |nil=>exact True.intro
 |@cons p q ps qs h t J=>
  obtain⟨h1,_,h2⟩:=h;by_cases e:p.1=k
  . have I:q.1=k:=h1.symm.trans e;have b:atKey (q::qs) k=some q.2:=by simp[atKey,Q1h,I]
    rw[nv e,b];exact h2
  . have I:¬q.1=k:=λz=>e (h1.trans z);have b:atKey (q::qs) k=atKey qs k:=by simp[atKey,Q1h,I]
    rw[oI e,b];exact J
theorem KT.repl {H:Hp}{kvs:List (List Key × V)}{xs:List (List Key × Addr × Value)}(r:KT H kvs xs)(k:List Key){y:V}{u:Value}(J:RelV y u):
 KT H (kvs.map λI=>if I.1=k then(I.1,y) else I) (xs.map (putAt k u)):=by
 induction r with
 |nil=>exact .nil
 |@cons p q ps qs h t L=>
  rw[Q0v,Q0v];refine .cons ?_ L;obtain⟨h1,h2,U⟩:=h;unfold putAt;by_cases e:p.1=k
  . rw[if_pos e,if_pos (h1.symm.trans e)];exact⟨h1,h2,J⟩
  . rw[if_neg e,if_neg (λz=>e (h1.trans z))];exact⟨h1,h2,U⟩
theorem KT.put {H:Hp}{kvs:List (List Key × V)}{xs:List (List Key × Addr × Value)}(r:KT H kvs xs)(k:List Key){b:Addr}{y:V}{u:Value}(J:H b=some (.tup (k.map kV)))(I:RelV y u):
 KT H (putK kvs k y) (storedH xs k b u):=by
 have e:(kvs.any λL=>decide (L.1=k))=(atKey xs k).isSome:=by
  rw[qP,(r.val k).qQ,Q2e]
 unfold putK storedH;rw[e];by_cases q:(atKey xs k).isSome=true
 . rw[if_pos q,if_pos q];exact r.repl k I
 . rw[if_neg q,if_neg q];exact Paired.snoc r ⟨rfl,J,I⟩
theorem KT.keeps {H H':Hp}{kvs:List (List Key × V)}{xs:List (List Key × Addr × Value)}(r:KT H kvs xs)(ht:∀b ys,H b=some (.tup ys)->H' b=some (.tup ys)):KT H' kvs xs:=
 Paired.qC r λ_ _ z=>⟨z.1,ht _ _ z.2.1,z.2.2⟩
section
variable {P:Program}{w:World}{H:Hp}{h:Heap}{a:Addr}
theorem Co {u:HO}(ok:iN P w H h)(e:Rd H a u):iQ P w H h a u:=e.ok ok
theorem pI {kvs:List (Key × V)}(ok:iN P w H h)(e:Rd H a (.dK kvs)):kvs.length<=sizeLine/\(a == sysModules)=false/\∃vs,KV kvs vs/\h.DictOf (je P w) a vs:=
 show iQ P w H h a (.dK kvs) from Co ok e
theorem nz {kvs:List (Key × V)}(ok:iN P w H h)(e:H a=some (.dK kvs)):kvs.length<=sizeLine/\(a == sysModules)=false/\∃vs,KV kvs vs/\h.DictOf (je P w) a vs:=pI ok (.inl e)
theorem qR {ks:List Key}(ok:iN P w H h)(e:H a=some (.tup (ks.map kV))):(tupleKind (je P w)).is h ks a:=by
 obtain⟨_,I,r,o,h1,h2,n,J⟩:=(show iQ P w H h a (.tup (ks.map kV)) from ok a _ e);exact⟨o,I.toArray,n,h1,h2,J,by simpa using Cn r⟩
theorem qS {kvs:List (List Key × V)}(ok:iN P w H h)(e:Rd H a (.dT kvs)):kvs.length<=sizeLine/\(a == sysModules)=false/\
 ∃xs,KT H kvs xs/\h.DictOfH (tupleKind (je P w)) a xs:=by
 obtain⟨z,y,xs,r,o,es,ep,h1,h2,L,U,Y⟩:=(show iQ P w H h a (.dT kvs) from Co ok e);refine⟨z,y,xs,r,o,es,ep,h1,h2,L,U,λx I=>?_,Y⟩
 have all:∀{l:List (List Key × V)} {m:List (List Key × Addr × Value)},KT H l m->∀x∈m,(tupleKind (je P w)).is h x.1 x.2.1:=by
  intro l m q
  induction q with
  |nil=>intro x I;exact nomatch I
  |@cons p q ps qs J t ih=>
   intro x I;rcases List.mem_cons.mp I with e|I
   . subst e;exact qR ok (by rw[<-J.1];exact J.2.1)
   . exact ih x I
 exact all r x I
theorem IZ {kvs:List (List Key × V)}(ok:iN P w H h)(e:H a=some (.dT kvs)):kvs.length<=sizeLine/\(a == sysModules)=false/\
 ∃xs,KT H kvs xs/\h.DictOfH (tupleKind (je P w)) a xs:=qS ok (.inl e)
end
def il (H:Hp) (a:Addr) (y:V) (r:Option V):Prop:=
 (∃kvs k,Rd H a (.dK kvs)/\y=kV k/\r=iw kvs k)\/∃kvs k b,Rd H a (.dT kvs)/\y=.ref b/\H b=some (.tup (k.map kV))/\r=iw kvs k
def km (H:Hp) (a:Addr) (y v:V) (H':Hp):Prop:=
 (∃kvs k,H a=some (.dK kvs)/\y=kV k/\kvs.length<sizeLine/\H'=upd H a (.dK (putK kvs k v)))\/
 ∃kvs k b,H a=some (.dT kvs)/\y=.ref b/\H b=some (.tup (k.map kV))/\kvs.length<sizeLine/\H'=upd H a (.dT (putK kvs k v))
theorem il.k {H:Hp}{a:Addr}{kvs:List (Key × V)}{k:Key}(e:H a=some (.dK kvs)):il H a (kV k) (iw kvs k):=.inl ⟨kvs,k,.inl e,rfl,rfl⟩
theorem km.k {H:Hp}{a:Addr}{kvs:List (Key × V)}{k:Key}{v:V}(e:H a=some (.dK kvs))(hl:kvs.length<sizeLine):km H a (kV k) v (upd H a (.dK (putK kvs k v))):=.inl ⟨kvs,k,e,rfl,hl,rfl⟩
section
variable {X:Cx}{pins:List (Addr × Obj)}{σ:St}{H:Hp}{s:Shared}{a:Addr}{y v:V}{u r:Value}{o:Option V}{A:Around}{E:Value->Shared->Prop}
theorem Inv.big (I:Inv X pins σ H s):sysModules<s.heap.objs.size:=by
 have h:mainGlobals<s.heap.objs.size:=(I.mod.glob.keeps I.bk).lt;exact Nat.lt_trans (by decide) h
theorem I0 {Q:Value->Shared->Prop}(hu:A.units+1<cLine)(I:Inv X pins σ H s)(g:il H a y (some v))(ry:RelV y u)(h:∀U s',Inv X pins σ H s'->RelV v U->Q U s'):
 wpAny (model X.prog X.w) A (getItem (.ref a) u) Q E s:=by
 rcases g with⟨kvs,k,e,Y,l⟩|⟨kvs,k,b,e,Y,eb,l⟩
 . subst Y;obtain⟨z,hd,vs,J,dd⟩:=pI I.hok e;obtain⟨U,hw,L⟩:=jG.some_of (v:=v) (o:=valueAt vs k) (by rw[l];exact J.val k);exact wpAny_getItem_of (ny ry) dd.mapOf hw (h U _ (I.tok _) L)
 . subst Y
   cases(show u=Value.ref b from ry);obtain⟨z,hd,xs,J,dd⟩:=qS I.hok e;obtain⟨U,hw,L⟩:=jG.some_of (v:=v) (o:=(atKey xs k).map (·.2)) (by rw[l];exact J.val k);obtain⟨p,hp,aa⟩:=Option.map_eq_some_iff.mp hw;refine wpAny_getItem_heap (tupleKind_room_in1 hu) (qR I.hok eb) dd hp ?_;rw[aa];exact h U _ (I.tok _) L
theorem I_ {Q:Value->Shared->Prop}(hu:A.units+1<cLine)(I:Inv X pins σ H s)(g:il H a y o)(ry:RelV y u)(h:∀s',Inv X pins σ H s'->Q (.bool o.isSome) s'):
 wpAny (model X.prog X.w) A (compareOp .In u (.ref a)) Q E s:=by
 rcases g with⟨kvs,k,e,L,l⟩|⟨kvs,k,b,e,L,eb,l⟩
 . subst L;obtain⟨z,U,vs,J,Y⟩:=pI I.hok e;refine wpAny_in_of (ny ry) U Y.mapOf ?_;rw[<-(J.val k).qQ,<-l];exact h _ (I.tok _)
 . subst L
   cases(show u=Value.ref b from ry);obtain⟨z,U,xs,J,Y⟩:=qS I.hok e;refine wpAny_in_heap (tupleKind_room_in1 hu) (qR I.hok eb) U Y ?_;have q:=(J.val k).qQ;rw[Q2e] at q;rw[<-q,<-l];exact h _ (I.tok _)
theorem Ja {Q:Value->Shared->Prop}(hu:A.units+1<cLine)(I:Inv X pins σ H s)(g:il H a y o)(ry:RelV y u)(h:∀s',Inv X pins σ H s'->Q (.bool (!o.isSome)) s'):
 wpAny (model X.prog X.w) A (compareOp .NotIn u (.ref a)) Q E s:=by
 rcases g with⟨kvs,k,e,L,l⟩|⟨kvs,k,b,e,L,eb,l⟩
 . subst L;obtain⟨z,U,vs,J,Y⟩:=pI I.hok e;refine wpAny_notIn_of (ny ry) U Y.mapOf ?_;rw[<-(J.val k).qQ,<-l];exact h _ (I.tok _)
 . subst L
   cases(show u=Value.ref b from ry);obtain⟨z,U,xs,J,Y⟩:=qS I.hok e;refine wpAny_notIn_heap (tupleKind_room_in1 hu) (qR I.hok eb) U Y ?_;have q:=(J.val k).qQ;rw[Q2e] at q;rw[<-q,<-l];exact h _ (I.tok _)
theorem qT {h':Heap}{t':Nat}{J:HO}(I:Inv X pins σ H s)(mu:qD (H a))(L:Heap.SameBut a s.heap h')(U:∃q,h'.get? a=some q)(new:iQ X.prog X.w (upd H a J) h' a J):
 Inv X pins σ (upd H a J) { s with heap:=h',toks:=t' }:=
 I.write (x:=a) (e:=a) mu (.inl rfl) (λb q Y z=>(L.2 b Y).trans z) U new
theorem sN {P:Program}{w:World}{H':Hp}{h':Heap}{kvs:List (Key × V)}{vs:List (Key × Value)}(z:kvs.length<=sizeLine)(J:(a == sysModules)=false)(I:KV kvs vs)(L:h'.DictOf (je P w) a vs):
 iQ P w H' h' a (.dK kvs):=⟨z,J,vs,I,L⟩
theorem Jb {H':Hp}{Q:Unit->Shared->Prop}(hu:A.units+1<cLine)(I:Inv X pins σ H s)(g:km H a y v H')(ry:RelV y u)(rv:RelV v r)(h:∀s',Inv X pins σ H' s'->Q () s'):
 wpAny (model X.prog X.w) A (setItem (.ref a) u r) Q E s:=by
 rcases g with⟨kvs,k,e,Y,l,eH⟩|⟨kvs,k,b,e,Y,eb,l,eH⟩
 . subst Y eH;obtain⟨z,hd,vs,J,dd⟩:=nz I.hok e;have hz:vs.length<=sizeLine:=by rw[<-J.length];exact z
   have hl:(putK kvs k v).length<=sizeLine:=by have:=vf kvs k v;omega
   refine wpAny_setItem_pairs (hsz:=hz) (ny ry) dd λh' L hs=>h _ ?_;have he:∃q,h'.get? a=some q:=let⟨q,_,_,U,_⟩:=L;⟨q,U⟩
   exact qT I (by rw[e];exact True.intro) hs he (sN hl hd (J.put k rv) L)
 . subst Y eH
   cases(show u=Value.ref b from ry);obtain⟨z,hd,xs,J,dd⟩:=IZ I.hok e;have hz:xs.length<=sizeLine:=by rw[<-Paired.length J];exact z
   have hl:(putK kvs k v).length<=sizeLine:=by have:=vf kvs k v;omega
   refine wpAny_setItem_heap (hsz:=hz) (tupleKind_room_in1 hu) (qR I.hok eb) dd λh' L hs=>h _ ?_;obtain⟨q,es,ep,U,h2,h3,h4,_,h5⟩:=L;refine qT I (by rw[e];exact True.intro) hs ⟨q,U⟩ ⟨hl,hd,_,(J.put k eb rv).keeps λc ys ec=>?_,q,es,ep,U,h2,h3,h4,h5⟩;rw[d_ (gR ec e (λz=>nomatch z))];exact ec
end
section
variable {X:Cx}{pins:List (Addr × Obj)}{σ:St}{H:Hp}{s:Shared}{a:Addr}{kvs:List (Key × V)}{k:Key}{u:Value}{A:Around}{E:Value->Shared->Prop}
theorem Jc {v:V}{J:List Value}{Q:Value->Shared->Prop}(I:Inv X pins σ H s)(e:H a=some (.dK kvs))(ry:RelV (kV k) u)(l:iw kvs k=some v)(hm:J=[]\/∃x,J=[x])
 (h:∀U s',Inv X pins σ (upd H a (.dK (jK kvs k))) s'->RelV v U->Q U s'):wpAny (model X.prog X.w) A (call (.builtin "dict.pop") (.ref a::u::J)) Q E s:=by
 obtain⟨z,hd,vs,L,dd⟩:=nz I.hok e;obtain⟨U,hw,aa⟩:=jG.some_of (v:=v) (o:=valueAt vs k) (by rw[<-l];exact L.val k)
 have hp:(keyPart u).isSome=true:=by
  cases k with
  |inl i=>obtain⟨t,q⟩:=(show ∃t,u=Value.int i t from ry);subst q;rfl
  |inr x=>obtain⟨t,q⟩:=(show ∃t,u=Value.str x t from ry);subst q;rfl
 have ha:argsOk "dict.pop" ⟨.ref a::u::J,[]⟩:=by
  rcases hm with q|⟨x,q⟩
  . subst q;exact PySem.F.args_dict_pop_2 _ _
  . subst q;exact PySem.F.args_dict_pop_3 _ _ _
 refine call_meetsIn PySem.F.slot_dict_pop dd.typeIs PySem.F.entry_dict_pop ha (meets_dict_pop_there (je X.prog X.w) a (ny ry) J hm hp)
  ⟨vs,U,dd,by rw[<-L.length];exact z,hw,λh' Y hs=>h U _ ?_ aa⟩
 have he:∃q,h'.get? a=some q:=let⟨q,_,_,hq,_⟩:=Y;⟨q,hq⟩
 exact qT I (by rw[e];exact True.intro) hs he (sN (Q0d (IY kvs k) z) hd (L.drop k) Y)
theorem Jd {Q:Value->Shared->Prop}(I:Inv X pins σ H s)(e:Rd H a (.dK kvs))(h:∀t s',Inv X pins σ H s'->Q (.int kvs.length t) s'):wpAny (model X.prog X.w) A (call (.builtin "len") [.ref a]) Q E s:=by
 obtain⟨z,L,vs,J,U⟩:=pI I.hok e;refine call_len_dict L U (by rw[<-J.length];rw[sizeLine_eq] at z;omega) ?_;rw[<-J.length];exact h _ _ (I.tok _)
end
def Cp (i:Expr):Prop:=∀I J,subscripted i false I J=operate [I,J] (getItem I J)
theorem Je {prog:Program}{w:World}{A:Around}{E:Value->Shared->Prop}{s:Shared}{env:Env}{value I:Expr}{pos:Pos}{T id:String}{Q:Value->Shared->Prop}
 (hl:typeLookup (.type T) "__getitem__"=pure (some (.builtin id))) (hs:Cp I)
 (h:wpAny (model prog w) A (eval value env) (λo U=>wpAny (model prog w) A (eval I env) (λi J=>J.TypeIs o T/\wpAny (model prog w) A (getItem o i) Q E J) E U) E s):
 wpAny (model prog w) A (eval (.Subscript value I pos) env) Q E s:=by
 refine Subscript_ (Q0s h (λo U aa=>Q0s aa (λi J L=>?_) λ_ _ x=>x) λ_ _ x=>x);obtain⟨hT,L⟩:=L;unfold subscriptTail;refine Q01 ?_;rw[getitemInPython_of_ne hT.not_modules];refine Q01 (wpAny_specialOf hT hl ?_)
 have fin:wpAny (model prog w) A (subscripted I false o i) (λr Y=>wpAny (model prog w) A (letTemporaryGo value o r >>= λ_=>pure r) Q E Y) E J:=by
  rw[hs o i];exact wpAny_operating (Q0s L (λr Y ab=>Q01 (wpAny_letTemporaryGo (Q0e ab))) λ_ _ x=>x)
 first
  |exact Q0e (Q01 fin)
  |exact Q01 (Q0e (Q01 fin))
  |exact Q01 fin
theorem Jf {X:Cx}{pins:List (Addr × Obj)}{σ:St}{H:Hp}{s:Shared}{a:Addr}{y:V}{o:Option V}(I:Inv X pins σ H s)(g:il H a y o):s.TypeIs (.ref a) "dict":=by
 rcases g with⟨kvs,k,e,_,_⟩|⟨kvs,k,b,e,_,_,_⟩
 . obtain⟨_,_,vs,_,J⟩:=pI I.hok e;exact J.typeIs
 . obtain⟨_,_,xs,_,J⟩:=qS I.hok e;exact J.typeIs
def vh (td ty:TE):TE:=λσ H Q=>td σ H λx H1=>ty σ H1 λy H2=>∃a v,x=.ref a/\il H2 a y (some v)/\Q v H2
def Jg (ty td:TE):TE:=λσ H Q=>ty σ H λy H1=>td σ H1 λx H2=>∃a o,x=.ref a/\il H2 a y o/\Q (.bl o.isSome) H2
def Jh (ty td:TE):TE:=λσ H Q=>ty σ H λy H1=>td σ H1 λx H2=>∃a o,x=.ref a/\il H2 a y o/\Q (.bl (!o.isSome)) H2
def Ji (td ty tv:TE):TS:=λD σ H=>tv σ H λv H1=>td σ H1 λx H2=>ty σ H2 λy J=>∃a I,x=.ref a/\km J a y v I/\D.nx σ I
section
variable {X:Cx}{o i e value:Expr}{pos pos' tpos:Pos}{td ty tv:TE}
theorem i6 (U:X.A.units+1<cLine)(Y:PE X o td)(hi:PE X i ty)(hs:Cp i):PE X (.Subscript o i pos) (vh td ty):=by
 intro pins s σ H Q I h;refine Je PySem.F.slot_dict_getitem.lookup hs (gB (Y pins s σ H _ I h) λu s1 ⟨x,H1,I1,rx,q1⟩=>gB (hi pins s1 σ H1 _ I1 q1) λiv s2 zq=>?_);obtain⟨y,H2,L,ry,a,v,ex,g,q2⟩:=zq;subst ex;obtain rfl:u=Value.ref a:=rx;exact⟨Jf L g,I0 U L g ry λw' s3 I3 J=>⟨v,H2,I3,J,q2⟩⟩
theorem vi (J:X.A.units+1<cLine)(hi:PE X i ty)(L:PE X o td):PC X .In i o (Jg ty td):=by
 intro pins s σ H Q I h;refine gB (hi pins s σ H _ I h) λiv U ⟨y,H1,Y,ry,q1⟩=>gB (L pins U σ H1 _ Y q1) λu s2 zq=>?_;obtain⟨x,H2,I2,rx,a,ov,ex,g,q2⟩:=zq;subst ex;obtain rfl:u=Value.ref a:=rx;exact I_ J I2 g ry λs3 I3=>⟨.bl ov.isSome,H2,I3,rfl,q2⟩
theorem Cq (J:X.A.units+1<cLine)(hi:PE X i ty)(L:PE X o td):PC X .NotIn i o (Jh ty td):=by
 intro pins s σ H Q I h;refine gB (hi pins s σ H _ I h) λiv U ⟨y,H1,Y,ry,q1⟩=>gB (L pins U σ H1 _ Y q1) λu s2 zq=>?_;obtain⟨x,H2,I2,rx,a,ov,ex,g,q2⟩:=zq;subst ex;obtain rfl:u=Value.ref a:=rx;exact Ja J I2 g ry λs3 I3=>⟨.bl (!ov.isSome),H2,I3,rfl,q2⟩
theorem mJ (J:X.A.units+1<cLine)(L:PE X o td)(hi:PE X i ty)(U:PE X value tv)(Y:swapsWith value (some (.Subscript o i pos')) pos.line X.env=pure false):
 PS X (.Assign [.Subscript o i pos'] value pos) (Ji td ty tv):=by
 intro pins s σ H D I h;refine wpAny_Assign_Subscript (gB (U pins s σ H _ I h) λr s1 ⟨v,H1,I1,rv,q1⟩=>gB (L pins s1 σ H1 _ I1 q1) λu s2 ⟨x,H2,I2,rx,q2⟩=>gB (hi pins s2 σ H2 _ I2 q2) λiv s3 zq=>?_) Y;obtain⟨y,H3,I3,ry,a,H4,ex,g,q3⟩:=zq;subst ex;obtain rfl:u=Value.ref a:=rx;exact Jb J I3 g ry rv λs4 I4=>⟨σ,H4,I4,q3⟩
end
theorem Cr {P:Program}{w:World}{H:Hp}(h:Heap)(I:sysModules<h.objs.size):iQ P w H (h.push { cls:=.type "dict",data:=.dict #[] }) h.objs.size (.dK []):=
 ⟨Q0g _,beq_eq_false_iff_ne.mpr (Ne.symm (Q0c I)),[],.nil,Heap.DictOf.new h⟩
def Jj:TE:=λ_ H Q=>∀p,H p=none->Q (.ref p) (upd H p (.dK []))
section
variable {X:Cx}{pos:Pos}
theorem pJ:PE X (.Dict [] [] pos) Jj:=λpins s σ H Q I h=>
 wpAny_Dict_empty ⟨.ref s.heap.objs.size,_,I.laid (a:=s.heap.objs.size) (o:=.dK []) (t':=s.toks) (λ_ _ q=>Q0a _ q) (Q00 _) (Cr s.heap I.big),rfl,h _ (I.hok.fresh (Q00 _))⟩
end
def vj:List (TE × TE)->St->Hp->(List (V × V)->Hp->Prop)->Prop
 |[],_,H,Q=>Q [] H
 |(tk,tv)::r,σ,H,Q=>tk σ H λx H1=>tv σ H1 λy H2=>vj r σ H2 λps I=>Q ((x,y)::ps) I
abbrev VV:List (V × V)->List (Value × Value)->Prop:=Paired λp q=>RelV p.1 q.1/\RelV p.2 q.2
def sO (X:Cx) (pos:Pos) (keys:List (Option Expr)) (I:List Expr) (J:List (TE × TE)):Prop:=
 ∀(pins:List (Addr × Obj)) (s:Shared) (σ:St) (H:Hp) (Q:List (V × V)->Hp->Prop),Inv X pins σ H s->vj J σ H Q->
  wpAny (model X.prog X.w) X.A (evalPairs (pairTrees keys I X.env pos)) (λvs s'=>∃ps H',Inv X pins σ H' s'/\VV ps vs/\Q ps H') X.xe s
theorem Cs {X:Cx}{pos:Pos}:sO X pos [] [] []:=λpins s σ H Q I h=>pairTrees_nil_walk ⟨[],H,I,.nil,h⟩
theorem sP {X:Cx}{pos:Pos}{k v:Expr}{ks:List (Option Expr)}{vs:List Expr}{tk tv:TE}{J:List (TE × TE)}(U:PE X k tk)(Y:PE X v tv)(hr:sO X pos ks vs J):
 sO X pos (some k::ks) (v::vs) ((tk,tv)::J):=λpins s σ H Q I h=>
 pairTrees_cons_walk (gB (U pins s σ H _ I h) λu s1 ⟨x,H1,I1,rx,q1⟩=>gB (Y pins s1 σ H1 _ I1 q1) λw2 s2 ⟨y,H2,I2,ry,q2⟩=>
  gB (hr pins s2 σ H2 _ I2 q2) λws s3 ⟨ps,H3,I3,L,q3⟩=>⟨(x,y)::ps,H3,I3,.cons ⟨rx,ry⟩ L,q3⟩)
noncomputable def pK (kvs I:List (Key × V)):List (Key × V):=I.foldl (λJ L=>putK J L.1 L.2) kvs
theorem KV.merge:∀{I:List (Key × V)}{J:List (Key × Value)}{kvs:List (Key × V)}{vs:List (Key × Value)},KV I J->KV kvs vs->KV (pK kvs I) (merged vs J):=by
 intro I J kvs vs r;unfold KV at r
 induction r generalizing kvs vs with
 |nil=>intro q;exact q
 |@cons p q ps qs h t L=>
  intro U
  have e:KV (putK kvs p.1 p.2) (stored vs q.1 q.2):=by
   have:=U.put p.1 h.2;rw[<-h.1];exact this
  exact L e
theorem Ct:∀(I kvs:List (Key × V)),(pK kvs I).length<=kvs.length+I.length
 |[],kvs=>by show kvs.length<=kvs.length+0;omega
 |p::r,kvs=>by
  have h1:=Ct r (putK kvs p.1 p.2);have h2:=vf kvs p.1 p.2;show(pK (putK kvs p.1 p.2) r).length<=_;rw[Q0k];omega
theorem Cu {P:Program}{w:World}:∀{kvs:List (Key × V)}{J:List (Value × Value)},VV (kvs.map λL=>(kV L.1,L.2)) J->∃I,Carries (je P w) J I/\KV kvs I
 |[],_,r=>by rw[Q1f] at r;cases r;exact⟨[],True.intro,.nil⟩
 |p::kvs,_,r=>by
  rw[Q0v] at r
  cases r with
  |@cons a b as bs h t=>
   obtain⟨I,c,q⟩:=Cu (P:=P) (w:=w) t;obtain⟨Y,U⟩:=b;exact⟨(p.1,U)::I,⟨ny h.1,rfl,c⟩,.cons ⟨rfl,h.2⟩ q⟩
def Cv (I:List (TE × TE)):TE:=λσ H Q=>∀p,H p=none->vj I σ (upd H p (.dK [])) λps H2=>H2 p=some (.dK [])/\∃kvs:List (Key × V),ps=kvs.map (λJ=>(kV J.1,J.2))/\kvs.length<=15/\Q (.ref p) (upd H2 p (.dK (pK [] kvs)))
theorem Cw {X:Cx}{pos:Pos}{keys:List (Option Expr)}{J:List Expr}{L:List (TE × TE)}(h:sO X pos keys J L)(Y:keys.all (·.isSome)=true)(hl:keys.length=J.length)(h0:keys≠[])
 (aa:keys.length<=15):PE X (.Dict keys J pos) (Cv L):=by
 intro pins s σ H Q I q;have hn:=I.hok.fresh (Q00 s.heap.objs.size);have I1:=I.laid (a:=s.heap.objs.size) (o:=.dK []) (h':=s.heap.push { cls:=.type "dict",data:=.dict #[] }) (t':=s.toks) (λ_ _ q=>Q0a _ q) (Q00 _) (Cr s.heap I.big);refine wpAny_Dict_walk (knd:=je X.prog X.w) Y hl h0 aa (gB (h pins _ σ _ _ I1 (q _ hn)) λws s2 zq=>?_);obtain⟨ps,H2,I2,ab,e,kvs,ep,lk,q2⟩:=zq;subst ep;obtain⟨rs,c,rk⟩:=Cu (P:=X.prog) (w:=X.w) ab;obtain⟨z,hd,ac,r0,dd⟩:=nz I2.hok e
 cases r0;refine⟨rs,c,dd,λh' U hs=>⟨.ref s.heap.objs.size,_,?_,rfl,q2⟩⟩
 have hz:(pK [] kvs).length<=sizeLine:=by
  have h1:=Ct kvs [];rw[Q2d] at h1;rw[sizeLine_eq];omega
 have he:∃q,h'.get? s.heap.objs.size=some q:=let⟨q,_,_,hq,_⟩:=U;⟨q,hq⟩
 exact qT I2 (by rw[e];exact True.intro) hs he (sN hz hd (rk.merge .nil) U)
section
variable {X:Cx}{pins:List (Addr × Obj)}{σ:St}{H:Hp}{s:Shared}{a:Addr}{y d:V}{u r:Value}{o:Option V}{A:Around}{E:Value->Shared->Prop}
end
section
variable {X:Cx}{o e f:Expr}{apos cpos:Pos}{td ty tx:TE}
end
section
variable {X:Cx}{pins:List (Addr × Obj)}{σ:St}{H:Hp}{s:Shared}{a:Addr}{kvs:List (Key × V)}{A:Around}{E:Value->Shared->Prop}
end
section
variable {X:Cx}{pins:List (Addr × Obj)}{σ:St}{H:Hp}{s:Shared}{a:Addr}{y:V}{u:Value}{A:Around}{E:Value->Shared->Prop}
end
end L2
namespace Cy
open W Calls PyProof.Rows
theorem Jk {P:Params}{h:Heap}:∀(ns:List Int) (vs:List Value),WellAll P h vs (ns.map WData.int)->IntsAre vs ns:=by
 intro ns
 induction ns with
 |nil=>
  intro vs w;rw[Q1f] at w
  cases w;exact .nil
 |cons n ns I=>
  intro vs w;rw[Q0v] at w
  cases w with
  |cons a b=>
   cases a;exact .cons _ _ (I _ b)
theorem Jl {l:OpenLaw}{n:Nat}(hn:l.most=some n){P:Params}{h:Heap}{args:List WData}{I:List Value}
 (J:l.row.toRowW.claim.pre args=true) (aa:WellAll P h I args):
 ∃a vs ns,I=[Value.ref a]/\args=[WData.list (ns.map WData.int)]/\h.get? a=some { cls:=.type "list",data:=.seq vs.toArray }/\IntsAre vs ns/\ns.length<=n:=by
 have ab:WShape.hasAll [] args [.list .int]=true:=(pre_splitW J).1;have hc:l.pre.holds [] { args:=args }=true:=(pre_splitW J).2;obtain⟨d,r,rfl,h1,h2⟩:=hasAllW_cons ab;obtain rfl:=hasAllW_nil h2;obtain⟨xs,rfl,h3⟩:=hasW_list h1;obtain⟨ns,rfl⟩:=items_int h3
 have L:ns.length<=n:=by
  unfold OpenLaw.pre at hc
  have Y:(WTm.not (.lt (.lit (.int (n:Int))) (.len (.arg 0)))).holds [] { args:=[.list (ns.map .int)] }=true:=by
   have Y:=(holds_andW hc).1;rw[hn] at Y;exact Y
  have h5:=condW_of Y (w_not (w_lt w_lit (w_len_list (w_arg rfl))));rw[Q0] at h5;refine Q16 λq=>?_;have q':(n:Int)<((ns.length:Nat):Int):=by omega
  first
   |(rw[decide_eq_true q'] at h5;exact absurd h5 (by decide))
   |(simp at h5;omega)
 cases aa with
 |cons w1 w2=>
  cases w2
  cases w1 with
  |list ho U=>exact⟨_,_,ns,rfl,rfl,ho,Jk ns _ U,L⟩
theorem Jm (l:OpenLaw)(args:List WData):l.row.toRowW.claim.post args (.bool true) args=true:=
 postW_of (r:=l.row.toRowW) (X:=(true == true))
  (show WShape.has [] (.bool true) .bool=true by first|rfl|decide|simp[WShape.has,WShape.arms,WShape.armsAll])
  (show(WTm.eq .res (.lit (.bool true))).value [] { args:=args,res:=some (.bool true),after:=args }=some (.bool (true == true)) from w_eq_bool (w_res rfl) w_lit) rfl
theorem Jn {l:OpenLaw}{n:Nat}{q:Program}{loose:List Str}{XP:(Str->Option Value)->Heap->Prop}{YP:World->Heap->Prop}{d:DefRec}
 (hn:l.most=some n) (ae:d.params.defaults=[])
 (call:∀(w:World) (s₀ I:Shared) (mg mb:Str->Option Value) (U:Addr) (o:Obj) (pm cd J:Value) (a:Addr) (vs:List Value) (ns:List Int),
   Ground q loose [] XP w s₀ mg mb I.heap->YP w I.heap->
   I.heap.get? U=some o->o.data=.func (docDef d.name d.params d.body d.scope pm cd J)->I.heap.CodeRec cd d.name->mg d.name=some (.ref U)->
   I.heap.get? a=some { cls:=.type "list",data:=.seq vs.toArray }->IntsAre vs ns->ns.length<=n->I.gens=#[]->
   codeAny (model l.prog w) callerA (.call (.ref U) ⟨[.ref a],[]⟩) (λr s'=>r=.ok (.ret (.bool true))/\OldK I.heap s'.heap/\s'.os=I.os/\AllBare s'.gens) I):
 WalkO q loose XP YP l.row.toRowW d [] (λf vs=>PySem.call f vs):=by
 intro w s₀ I mg mb G Y U o pm cd J dV kV ho hd af hD ag hg args ai as aa aj ak ah al;obtain rfl:dV=.none:=Dflts.none hD ae;obtain rfl:kV=.none:=Dflts.noKw hD;obtain⟨a,vs,ns,rfl,rfl,ab,L,ac⟩:=Jl hn aa ah;refine enter_call (codeAny_mono (call w s₀ I mg mb U o pm cd J a vs ns G Y ho (fd_plain hd) af ag ab L ac hg) λr s' hq=>?_);obtain⟨rfl,h2,h3,h4⟩:=hq;exact⟨.inl ⟨.bool true,.bool true,[],rfl,λ_=>rfl,.bool true,Jm l _,λ_=>⟨List.Pairwise.nil,λ_ hm=>(nomatch hm)⟩⟩,h2,h3,h4⟩
section
variable {prog:Program}{w:World}{A:Around}{E:Value->Shared->Prop}{s:Shared}{K:Frag}
end
end Cy
namespace L2
open Spec PyProof.Rows
theorem vk:∀{vs:List Value}{ns:List Int},IntsAre vs ns->Vals (ns.map V.int) vs
 |_,_,.nil=>.nil
 |_,_,.cons n t h=>.cons ⟨t,rfl⟩ (vk h)
abbrev gf:j3:=λ_ _ _ _ _ _=>False
abbrev E0:XK:=λ_ _ _=>False
theorem lh {X:Cx}:Passes gf X E0:=λ_ _ _ _ _ _ _ h=>h.elim
structure mj (K:W.Frag) (x qual:Str) (st:Stmt) (f:Addr) (fd:FuncData):Prop where
 ex:∃(oc:Value) (od:Option Addr) (kV doc pm:Value) (an:Option Addr) (cdv ct:Value) (osl:Array (Option Value)),
  fd=W.fnOf x qual (i7 st) (iI st) (gp st) .none kV doc pm an cdv ct/\K.lookup f=some ⟨oc,od,.func fd,osl⟩/\W.codeIn K cdv qual=true
 kp:W.keepIn K (.ref f)=true
variable {P:Program}{w:World}{K:W.Frag}{mg:Str->Option Value}{base:Heap}
def FnBody (P:Program) (w:World) (K:W.Frag) (mg:Str->Option Value) (base:Heap) (N ps:List Str) (qual:Str) (st:Stmt) (f:Addr) (k:Nat) (vs:List V) (H:Hp) (Q:VK) (E:XK):Prop:=vs.length=ps.length/\∀(I:Value) (A:Around) (outer:List Env) (s:Shared),N.Nodup->ig k (A.deeper (envOfC qual (gp st) s.heap.objs.size f I))->(A.deeper (envOfC qual (gp st) s.heap.objs.size f I)).units+1<cLine->∃t,jX (gO gf P w K mg base N qual (gp st) f I A outer s H E).gN (iI st) t/\t { nx:=λ_ H'=>Q .non H',rt:=Q } (start N vs) H
theorem mj.ok {x qual:Str}{st:Stmt}{f:Addr}{fd:FuncData}{N ps:List Str}{k:Nat}{sp:Sp}(F:mj K x qual st f fd)(S:gQ N ps (gp st))
 (I:∀(vs:List V) (H:Hp) (Q:VK) (E:XK),sp vs H Q E->FnBody P w K mg base N ps qual st f k vs H Q E):gc P w K mg base gf (k+1) f fd ps sp:=by
 obtain⟨oc,od,kV,aa,pm,an,J,ct,ab,rfl,lk,L⟩:=F.ex;refine Cd lk L S (λvs H Q E h=>(I vs H Q E h).1) λA outer s H vs Q E Y U=>?_;obtain⟨t,h,q⟩:=(I vs H Q E U).2 J A outer s S.nd Y (Q1n (Q2f (by decide:1<=64) _) Y.units);exact⟨t,h.gN,q⟩
theorem mj.binds {x qual:Str}{st:Stmt}{f:Addr}{fd:FuncData}{ps:List Str}(F:mj K x qual st f fd)
 (h:∀(kV I L:Value) (U:Option Addr) (J ct:Value) (us:List Value),us.length=ps.length->bindArgs (W.fnOf x qual (i7 st) (iI st) (gp st) .none kV I L U J ct) ⟨us,[]⟩=pure (ps.zip us)):Binds K fd ps []:=by
 obtain⟨oc,od,kV,I,L,U,J,ct,Y,rfl,lk,aa⟩:=F.ex;exact .all (h kV I L U J ct)
theorem nA {x qual:Str}{st:Stmt}{f:Addr}{oc:Value}{od U:Option Addr}{L:Array (Option Value)}{kV J Y I ct:Value}(l:K.lookup f=some ⟨oc,od,.func (W.fnOf x qual (i7 st) (iI st) (gp st) .none kV J Y U I ct),L⟩)
 (c:W.codeIn K I qual=true) (k:W.keepIn K (.ref f)=true):mj K x qual st f (W.fnOf x qual (i7 st) (iI st) (gp st) .none kV J Y U I ct):=⟨⟨oc,od,kV,J,Y,U,I,ct,L,rfl,l,c⟩,k⟩
theorem qU {A:Around}{k:Nat}(I:ig k A):A.units+1<cLine:=Q1n (Q2f (by decide:1<=64) _) I.units
theorem iF {n:Nat}(h:n<=1000):n<sizeLine:=Q1n h (by decide)
section
variable {X:Cx}
theorem pv (i:Nat){x:Str}{pos:Pos}(J:X.N[i]? =some x:=by rfl)(L:rY X.env.scope x:=by first|exact Or.inl rfl|exact Or.inr (Or.inl rfl)|exact Or.inr (Or.inr rfl))(U:(x == ("__debug__":Str))=false:=by decide)
 (I:(x == ("__classdict__":Str))=false:=by decide):PE X (.Name x pos) (gJ i):=Hn J L U I
end
theorem h9 {A B:Prop}(h:B):if false=true then A else B:=by
 rw[if_neg Bool.false_ne_true];exact h
theorem i_ {A B:Prop}(h:A):if true=true then A else B:=by
 rw[if_pos rfl];exact h
theorem h_ {c A B:Prop} [Decidable c](h1:c->A)(h2:¬c->B):if c then A else B:=by
 by_cases h:c
 . rw[if_pos h];exact h1 h
 . rw[if_neg h];exact h2 h
theorem nB {c A B:Prop} [Decidable c](hc:c)(h:B):if(!decide c)=true then A else B:=by
 rw[decide_eq_true hc];exact h9 h
def Same (H H':Hp):Prop:=∀b o,H b=some o->H' b=some o
theorem Same.refl (H:Hp):Same H H:=λ_ _ h=>h
theorem Same.trans {H H1 H2:Hp}(a:Same H H1)(b:Same H1 H2):Same H H2:=λc o h=>b c o (a c o h)
theorem Same.free {H H':Hp}(e:Same H H'){l:Addr}(h:H' l=Option.none):H l=Option.none:=by
 cases q:H l with
 |none=>rfl
 |some o=>
  rw[e l o q] at h
  cases h
section
variable {X:Cx}
theorem Cz:jZ X (.builtin "len") (λxs H Q=>∃a kvs,xs=[V.ref a]/\H a=some (.dK kvs)/\Q (.int kvs.length) H):=by
 intro pins s σ H xs us Q I r h;obtain⟨a,kvs,rfl,J,q⟩:=h;obtain⟨u,rfl,L⟩:=vals1 r
 cases L;exact Jd I (.inl J) λt s' U=>⟨.int kvs.length,H,U,⟨t,rfl⟩,q⟩
end
section
variable {κ:Type} [DecidableEq κ]
theorem qV {kvs:List (κ × V)}{k:κ}{v:V}(h:iw kvs k=some v):k∈kvs.map (·.1):=by
 have q:(kvs.any λI=>decide (I.1=k))=true:=by
  rw[qP,h]
  all_goals rfl
 obtain⟨p,hp,e⟩:=List.any_eq_true.mp q;exact List.mem_map.mpr ⟨p,hp,of_decide_eq_true e⟩
end
theorem CA {g:Str->NameKind->NameKind}{x:Str}:∀names:List (Str × NameKind),
 (names.map λy=>(y.1,g y.1 y.2)).lookup x=(names.lookup x).map (g x)
 |[]=>rfl
 |(n,k)::r=>by
  show List.lookup x ((n,g n k)::_)=_;rw[Q1o,Q1o,CA r]
  cases I:x == n with
  |true=>rw[eq_of_beq I];rfl
  |false=>rfl
noncomputable def ml (env:Env) (n:Str) (k:NameKind):NameKind:=
 if(k == .free && env.scope.kind == .function && env.kindOf n == some .cell)=true then .cell else k
theorem CC (scope:Scope)(env:Env)(x:Str):
 (relabel scope env).names.lookup x=(scope.names.lookup x).map (ml env x):=by
 rw[<-CA (g:=ml env) scope.names];show List.lookup x (scope.names.map _)=_;congr 1;apply Q1i;rintro⟨n,k⟩ _;show(if _ then _ else _)=(n,ml env n k);unfold ml;split <;> rfl
theorem Jo {env:Env}{x:Str}{k:NameKind}(h:ml env x k=.local):k=.local:=by
 unfold ml at h;split at h
 . cases h
 . exact h
theorem Jp {env:Env}{x:Str}{k:NameKind}(h:ml env x k=.cell):k=.free\/k=.cell:=by
 unfold ml at h;split at h
 . rename_i c;left;simp only[Bool.and_eq_true] at c;exact eq_of_beq c.1.1
 . exact .inr h
theorem Jq {env:Env}{x:Str}{k:NameKind}(h:ml env x k=.free):k=.free:=by
 unfold ml at h;split at h
 . cases h
 . exact h
theorem vm {env:Env}:∀(names:List (Str × NameKind)) (J:List (Str × Addr)),(∀y∈names,y.2=.free->∃c,env.cells.lookup y.1=some c)->
 (∀x c,J.lookup x=some c->env.cells.lookup x=some c)->
 ∃cl:List (Str × Addr),(forIn names J λy cs=>if(y.2 == NameKind.free)=true then(do let a <-cellOf env y.1;pure (ForInStep.yield ((y.1,a)::cs))) else pure (ForInStep.yield cs))=(pure cl:Sem _)/\
  (∀x c,cl.lookup x=some c->env.cells.lookup x=some c)/\(∀x,((x,NameKind.free)∈names\/(J.lookup x).isSome=true)->cl.lookup x=env.cells.lookup x)
 |[],J,_,L=>⟨J,rfl,L,λx I=>by
    rcases I with I|I
    . cases I
    . obtain⟨c,e⟩:=Option.isSome_iff_exists.mp I;rw[e,L x c e]⟩
 |(n,k)::r,J,U,L=>by
  by_cases Y:k=.free
  . subst Y;obtain⟨c,e⟩:=U (n,.free) Q02 rfl;have e:env.cells.lookup n=some c:=e
    have aa:∀x d,((n,c)::J).lookup x=some d->env.cells.lookup x=some d:=λx d h=>by
     rw[Q1o] at h
     cases I:x == n with
     |true=>
      rw[I] at h
      cases h;rw[eq_of_beq I];exact e
     |false=>
      rw[I] at h;exact L x d h
    obtain⟨cl,h1,h2,h3⟩:=vm r ((n,c)::J) (λy hy=>U y (Q07 _ hy)) aa;refine⟨cl,?_,h2,λx I=>h3 x ?_⟩
    . rw[Q3];have ec:cellOf env n=pure c:=by unfold cellOf;rw[e]
      simp only[beq_self_eq_true,if_true,ec,pure_bind];exact h1
    . rcases I with I|I
      . rcases List.mem_cons.mp I with q|q
        . right
          cases q;rw[Q1o,beq_self_eq_true];rfl
        . exact .inl q
      . right;rw[Q1o]
        cases x == n with
        |true=>rfl
        |false=>exact I
  . obtain⟨cl,h1,h2,h3⟩:=vm r J (λy hy=>U y (Q07 _ hy)) L;refine⟨cl,?_,h2,λx I=>h3 x ?_⟩
    . rw[Q3];have eb:(k == NameKind.free)=false:=by simpa using Y
      simp only[eb,Bool.false_eq_true,if_false,pure_bind];exact h1
    . rcases I with I|I
      . rcases List.mem_cons.mp I with q|q
        . cases q;exact absurd rfl Y
        . exact .inl q
      . exact .inr I
theorem sQ {scope:Scope}{env:Env}(J:∀y∈scope.names,y.2=.free->∃c,env.cells.lookup y.1=some c):
 ∃cl:List (Str × Addr),closureFor scope env=pure cl/\(∀x c,cl.lookup x=some c->env.cells.lookup x=some c)/\(∀x,(x,NameKind.free)∈scope.names->cl.lookup x=env.cells.lookup x):=by
 obtain⟨cl,h1,h2,L⟩:=vm scope.names [] J (λx c h=>by cases h);refine⟨cl,?_,h2,λx U=>L x (.inl U)⟩;unfold closureFor
 have e:(forIn scope.names ([]:List (Str × Addr)) λy I=>do
  let mut I:=I
  match y with
  |(name,kind)=>if(kind == NameKind.free)=true then I:=(name,<-cellOf env name)::I
  pure (ForInStep.yield I))=(pure cl:Sem _):=by
  rw[<-h1]
 first
  |exact(by simpa using e)
  |(show(forIn scope.names ([]:List (Str × Addr)) _ >>= λI=>pure I)=_;rw[bind_pure];exact e)
structure ko (X:Cx) (own:List Str) (scope:Scope):Prop where
 kind:scope.kind=.function
 cell:∀y∈scope.names,y.2≠ .cell
 names:∀y∈scope.names,y.2=.local->scope.names.lookup y.1=some .local
 free:∀y∈scope.names,y.2=.free->X.env.kindOf y.1=some .cell\/X.env.kindOf y.1=some .free
 nd:(own++X.N).Nodup
 outer:∀x∈X.N,scope.names.lookup x≠some .local
noncomputable def jt (X:Cx) (own:List Str) (scope:Scope) (cl:List (Str × Addr)) (C:Addr) (L:List Addr) (I:Shared) (J:Hp):Cx:=
 { X with N:=own++X.N,s₀:=I,H₀:=J,env:=compEnvC scope cl C X.env,outer:=X.stack,ex:=L,fn:=λ_=>false,pn:=[],xe:=λ_ _=>False }
def qW (X:Cx) (I:List Expr) (t:TT):Prop:=
 ∀(pins:List (Addr × Obj)) (s:Shared) (σ:St) (H:Hp) (Q:Bool->Hp->Prop),Inv X pins σ H s->t σ H Q->
  wpAny (model X.prog X.w) X.A (forIn I true λc r=>if r=true then do let ok <-isTrue c X.env (eval c X.env);pure (ForInStep.yield ok) else pure (ForInStep.yield r)) (TP X pins σ Q) X.xe s
def mK:TT:=λ_ H Q=>Q true H
theorem oJ {X:Cx}:qW X [] mK:=λpins s σ H Q I h=>wpAny_tests_nil ⟨H,I,h⟩
theorem lY {X:Cx}{c:Expr}{t:TT}(h:PT X c t):qW X [c] t:=λpins s σ H Q I q=>wpAny_tests_one (h pins s σ H Q I q)
def CD (k:Nat) (Y:TI) (g:TG) (tt:TT) (te:TE):TE:=λσ H Q=>Y σ H λJ H1=>
 ∃W:Nat->Nat->List V->Hp->Prop,(∃m,W 0 m [] H1)/\∀i m ys H,W i m ys H->
  (J.stop i H/\∀p,H p=none->Q (.ref p) (upd H p (.lst ys)))\/
  (J.go i H/\ys.length<sizeLine/\∀x H',J.lV i H x H'->g x (List.replicate k none++σ) H' λI H2=>I.drop k=σ/\
    tt I H2 λb U=>if b=true then te I U λy H4=>∃L,L<m/\W (i+1) L (ys++[y]) H4 else ∃L,L<m/\W (i+1) L ys U)
section
variable {prog:Program}{w:World}{A:Around}{R:Result->Shared->Prop}{s:Shared}
theorem Jr {ah J iter:Expr}{ai:List Expr}{scope:Scope}{pos:Pos}{it ag:Value}{env:Env}(I:Nat->Shared->Prop)
 (turn:∀n s,I n s->wpAny (model prog w) A (pyNext it) (λr L=>
   match r with
   |none=>R (.ok .next) L
   |some v=>wpAny (model prog w) A (letOwnedTupleGo J it v) (λ_ Y=>wpAny (model prog w) A (assign J env v) (λ_ aa=>
     wpAny (model prog w) A (forIn ai true λc r=>if r=true then do let ok <-isTrue c env (eval c env);pure (ForInStep.yield ok) else pure (ForInStep.yield r)) (λok U=>
      if ok=true then wpAny (model prog w) A (eval ah env) (λx ab=>
       wpAny (model prog w) A (call (.builtin "list.append") [ag,x]) (λ_ ac=>∃m,m<n/\I m ac) (λ_ _=>False) ab) (λ_ _=>False) U
      else ∃m,m<n/\I m U) (λ_ _=>False) aa) (λ_ _=>False) Y) (λ_ _=>False) L) (λ_ _=>False) s)
 (n:Nat) (h:I n s):
 codeAny (model prog w) A (.compLoop (.ListComp ah [⟨J,iter,ai,0⟩] scope pos) 0 it ag env) R s:=by
 refine codeAny_loop rfl I (λn s hI=>?_) n h;show wpAny _ A ((compTurn _ 0 it ag env).onRaise _) _ _ s;refine wpAny_noted ?_;rw[compTurn_list]
 have no:∀{α:Type} {t:Sem α} {Q Q':α->Shared->Prop} {E:Value->Shared->Prop} {s:Shared},wpAny (model prog w) A t Q (λ_ _=>False) s->(∀a s,Q a s->Q' a s)->wpAny (model prog w) A t Q' E s:=
  λh k=>Q0s h k λ_ _ z=>z.elim
 refine Q01 (wpAny_standAt (Q01 (no (turn n s hI) λr L ae=>?_)))
 cases r with
 |none=>exact Q0e ae
 |some v=>
  refine Q01 (no ae λ_ Y aj=>?_);refine Q01 (no aj λ_ aa ak=>Q01 (no ak λok U af=>?_))
  cases ok with
  |false=>exact Q0e ⟨rfl,af⟩
  |true=>
   refine Q01 (Q01 (no af λx ab al=>?_));exact Q01 (no al λ_ ac am=>Q0e (Q0e ⟨rfl,am⟩))
end
noncomputable abbrev j5 (us:List Value) (n:Nat):Obj:={ cls:=.type "list",data:=.seq us.toArray n }
section
variable {X:Cx}{own:List Str}{scope:Scope}
theorem ko.cells (S:ko X own scope){pins:List (Addr × Obj)}{σ:St}{H:Hp}{s:Shared}(I:Inv X pins σ H s):
 ∀y∈scope.names,y.2=.free->∃c,X.env.cells.lookup y.1=some c:=λy J L=>I.ok.has y.1 (S.free y J L)
theorem ko.freeOf (S:ko X own scope){x:Str}(h:(relabel scope X.env).names.lookup x=some .cell\/(relabel scope X.env).names.lookup x=some .free):(x,NameKind.free)∈scope.names:=by
 rw[CC] at h
 cases e:scope.names.lookup x with
 |none=>rw[e] at h;rcases h with h|h <;> cases h
 |some k=>
  rw[e] at h;have I:(x,k)∈scope.names:=PySem.mem_of_lookup e
  have J:k=.free:=by
   rcases h with h|h
   . rcases Jp (Option.some.inj h) with q|q
     . exact q
     . exact absurd q (S.cell _ I)
   . exact Jq (Option.some.inj h)
  rw[<-J];exact I
theorem ko.Js (S:ko X own scope){x:Str}(I:x∈X.N):(relabel scope X.env).names.lookup x≠some .local:=λh=>by
 rw[CC] at h
 cases e:scope.names.lookup x with
 |none=>rw[e] at h;cases h
 |some k=>
  rw[e] at h;have:=Jo (Option.some.inj h);subst this;exact S.outer x I e
theorem CF {k:Nat}{σ:St}{i:Nat}{v:V}(h:(List.replicate k none++σ)[i]? =some (some v)):k<=i/\σ[i - k]? =some (some v):=by
 by_cases hi:i<k
 . rw[Q2w (by simpa using hi),Q2v] at h;split at h <;> cases h
 . refine⟨Q16 hi,?_⟩;rw[Q2c (by simpa using hi)] at h;simpa using h
theorem Inv.block {pins:List (Addr × Obj)}{σ:St}{H:Hp}{s:Shared}{fp:List Addr}{cl:List (Str × Addr)}{C D:Addr}{L:Heap}{m:Str->Option Value}{t':Nat}{us:List Value}{n:Nat}(I:Inv X pins σ H s)(S:ko X own scope)
 (hf:∀b∈fp,jA X pins H b) (ag:∀b∈fp,b<s.heap.objs.size)
 (J:∀x c,cl.lookup x=some c->X.env.cells.lookup x=some c) (aa:∀x,(x,NameKind.free)∈scope.names->cl.lookup x=X.env.cells.lookup x)
 (hC:s.heap.objs.size<=C) (hD:s.heap.objs.size<=D) (ah:D≠C) (hn:L.Ns C m) (Y:∀b o,s.heap.get? b=some o->L.get? b=some o) (af:L.get? D=some (j5 us n)):
 Inv (jt X own scope cl C fp s H) [(D,j5 us n)] (List.replicate own.length none++σ) H { s with heap:=L,toks:=t' }:=by
 have ok:=I.ok
 have pz:∀b:Addr,s.heap.objs.size<=b->b ∉ frs X.stack:=λb U z=>by
  rcases List.mem_cons.mp (I.qG b z) with e|e
  . exact absurd I.lt (by rw[<-e];exact Nat.not_lt.mpr U)
  . exact I.pz U e
 have fresh:∀b:Addr,s.heap.objs.size<=b->H b=none:=λb U=>I.hok.fresh U
 have al:∀x c,cl.lookup x=some c->c<s.heap.objs.size:=λx c e=>by
  obtain⟨v,q⟩:=I.cell x c (J x c e);exact q.lt
 refine⟨⟨ok.mod,S.kind,ok.glob,ok.blt,hC,λx y c e1 e2=>ok.inj x y c (J x c e1) (J y c e2),λx hx=>?_,λx c hx _=>(nomatch hx),ok.hd,ok.frames,.inl rfl,λb U=>?_,I.bs,Q0d ok.kL I.sz,λb o e U=>?_,λb U z=>?_,I.stack,I.rZ⟩,
  rfl,I.bare,Un.kept Y,⟨m,hn,λi x v e1 e2 e3=>?_⟩,λx c e=>?_,fresh C hC,λx c e=>?_,λp hp=>?_,I.hok.kept Y,?_⟩
 . have hm:=S.freeOf (x:=x) hx;obtain⟨c,e⟩:=ok.has x (S.free _ hm rfl);exact⟨c,by rw[show(jt X own scope cl C fp s H).env.cells=cl from rfl,aa x hm];exact e⟩
 . refine⟨Q0c (Q0f (ag b U) hC),λx c e z=>?_⟩;exact(hf b U).2.2.2.2.1 x c (J x c e) z
 . rcases(hf b U).2.2.2.1 with z|z
   . exact ok.m9 b o e z
   . exact absurd (Q0f (Q04 e) (Q0d ok.kL z)) (Q0u _)
 . rcases List.mem_cons.mp (I.qG b z) with q|q
   . exact(hf b U).2.1 q
   . exact(hf b U).2.2.1 q
 . obtain⟨hk,ai⟩:=CF e2
   have ab:X.N[i - own.length]? =some x:=by
    have e1:(own++X.N)[i]? =some x:=e1;rw[Q2c hk] at e1;exact e1
   have aj:x∈X.N:=Q0j ab
   have ac:(relabel scope X.env).names.lookup x=some .cell\/(relabel scope X.env).names.lookup x=some .free:=by
    rcases e3 with q|q
    . exact absurd q (S.Js aj)
    . exact q
   have hm:=S.freeOf ac;have ae:=S.free _ hm rfl;obtain⟨mX,am,ak⟩:=I.loc;obtain⟨u,r,lk⟩:=ak _ x v ab ai (.inr ae);refine⟨u,r,.inr ⟨ac,?_⟩⟩;rcases lk with⟨q,_⟩|⟨_,c,ec,hc⟩
   . rcases ae with z|z
     . rw[z] at q;cases q
     . rw[z] at q;cases q
   . obtain⟨o,ho,hd⟩:=hc;exact⟨c,(aa x hm).trans ec,o,Y _ _ ho,hd⟩
 . obtain⟨v,o,ho,hd⟩:=I.cell x c (J x c e);exact⟨v,o,Y _ _ ho,hd⟩
 . exact I.jy x c (J x c e)
 . have e:p=(D,j5 us n):=by
    have hp:p∈([]++[(D,j5 us n)]:List (Addr × Obj)):=hp;simpa using hp
   subst e
   exact⟨af,fresh D hD,ah,pz D hD,λv z=>by
    have z:Data.seq us.toArray n=Data.cell v:=z
    cases z⟩
 . show _=(own++X.N).length;rw[Q09,Q09,Q1l,I.len]
theorem Inv.unblock {pins:List (Addr × Obj)}{σ aa:St}{H H3:Hp}{s s3:Shared}{fp:List Addr}{cl:List (Str × Addr)}{C D:Addr}{h':Heap}{us:List Value}{n:Nat}{ys:List V}{pl:List (Addr × Obj)}(I:Inv X pins σ H s)
 (hf:∀b∈fp,jA X pins H b) (J:Inv (jt X own scope cl C fp s H) pl aa H3 s3) (ab:(D,j5 us n)∈pl) (hC:s.heap.objs.size<=C) (hD:s.heap.objs.size<=D) (ac:D≠C)
 (r:Vals ys us) (hz:ys.length<=sizeLine) (hs:Heap.SameBut C s3.heap h'):Inv X pins σ (upd H3 D (.lst ys)) { s3 with heap:=h' }/\H3 D=none:=by
 obtain⟨eD,Y,_,_,_⟩:=J.pin (D,j5 us n) (Q08 _ ab);have nC:H3 C=none:=J.free;have kC:∀b o,b≠C->s3.heap.get? b=some o->h'.get? b=some o:=λb o L e=>(hs.2 b L).trans e;refine⟨I.call' (ch:=fp) J.os ⟨λb o e nb L U=>?_,λb o e nb L U=>?_,λb o e nb U=>?_,λb o e U=>?_,λb xs e=>?_,λb o u e=>?_,λb ps e=>?_⟩ (λb o e=>?_) J.bare (λb L=>?_),Y⟩
 . exact kC b o (Q0c (Q0f (Q04 e) hC)) (J.base.keep b o e nb L U)
 . obtain⟨sl,e1⟩:=J.base.slot b o e nb L U;exact⟨sl,kC b _ (Q0c (Q0f (Q04 e) hC)) e1⟩
 . rw[d_ (Q0c (Q0f (Q04 e) hD))];exact J.base.free b o e nb U
 . obtain⟨o',e1⟩:=J.base.there b o e U;exact⟨o',kC b _ (Q0c (Q0f (Q04 e) hC)) e1⟩
 . have q:=J.base.tups b xs e;rw[d_ (gz q Y)];exact q
 . have q:=J.base.ke b o u e;rw[d_ (gz q Y)];exact q
 . obtain⟨mo,q⟩:=J.base.kK b ps e;exact⟨mo,by rw[d_ (gz q Y)];exact q⟩
 . by_cases L:b=D
   . subst L;rw[gh] at e;cases e;exact⟨hz,us,n,r,kC b _ ac eD⟩
   . rw[d_ L] at e;refine(J.hok b o e).stay (λc v hc q=>kC c v ?_ q) (λc q=>by rw[d_ (gz q Y)];exact q) λc xs q=>by rw[d_ (gz q Y)];exact q
     rcases hc with z|z
     . rw[z];exact gz e nC
     . exact gz z nC
 . obtain⟨_,f1,_,f3,f4,f5⟩:=hf b L;exact⟨f3,f1,f4,f5⟩
theorem CG {tg iter ar:Expr}{au:List Expr}{pos:Pos}{g:TG}{tt:TT}{te:TE}{pins:List (Addr × Obj)}{σ:St}{H2:Hp}{I:Shared}{it:Addr}{U:List Addr}{tn:Nat->Heap->Prop}{J:It}{cl:List (Str × Addr)}{Fin:List V->Hp->Prop}{W:Nat->Nat->List V->Hp->Prop}{m0:Nat}
 {RR:Value->Addr->Result->Shared->Prop} (hc:X.calm=true) (S:ko X own scope) (ai:∀x c,cl.lookup x=some c->X.env.cells.lookup x=some c) (aJ:∀x,(x,NameKind.free)∈scope.names->cl.lookup x=X.env.cells.lookup x)
 (I2:Inv X pins σ H2 I) (T:Turn X.prog X.w X.K tg J U it tn) (ay:tn 0 I.heap) (f2:∀b∈U,jA X pins H2 b) (w0:W 0 m0 [] H2)
 (turn:∀i m ys H,W i m ys H->(J.stop i H/\Fin ys H)\/
   (J.go i H/\ys.length<sizeLine/\∀x H',J.lV i H x H'->g x (List.replicate own.length none++σ) H' λav H2=>av.drop own.length=σ/\
     tt av H2 λb H3=>if b=true then te av H3 λy H4=>∃m',m'<m/\W (i+1) m' (ys++[y]) H4 else ∃m',m'<m/\W (i+1) m' ys H3))
 (hg:∀cl C U ac ae,PG (jt X own scope cl C U ac ae) tg g) (ht:∀cl C U ac ae,qW (jt X own scope cl C U ac ae) au tt) (he:∀cl C U ac ae,PE (jt X own scope cl C U ac ae) ar te)
 (aP:∀(C D:Addr) (s5:Shared) (H5:Hp) (ys:List V) (us:List Value) (k:Nat),I.heap.objs.size<=C->I.heap.objs.size<=D->D≠C->Inv (jt X own scope cl C U I H2) [(D,j5 us k)] (List.replicate own.length none++σ) H5 s5->Vals ys us->ys.length<=sizeLine->Fin ys H5->RR (.ref D) C (.ok .next) s5):
 wpAny (model X.prog X.w) X.A (newList []) (λaz af=>wpAny (model X.prog X.w) X.A (newFunctionEnv scope X.env.globals cl [] X.env.qual none .none (some X.env)) (λal aK=>
  codeAny (model X.prog X.w) X.A (.compStart (.ListComp ar [⟨tg,iter,au,0⟩] scope pos) 0 (.ref it) az { al with scope:=relabel scope X.env }) (RR az al.locals) aK) X.xe af) X.xe I:=by
 have ak:∀b∈U,b<I.heap.objs.size:=λb L=>by
  obtain⟨o,e,_⟩:=T.obj _ _ ay b L;exact Q04 e
 refine wpAny_newObj_type (wpAny_newFunctionEnv S.cell (by intro y hy;simp at hy) (λag aa Y=>?_) S.kind);dsimp only at aa Y ⊢;generalize hG:I.heap.push { cls:=.type "list",dict:=none,data:=.seq ([]:List Value).toArray }=G at aa Y ⊢;have aA:G.objs.size=I.heap.objs.size+1:=by rw[<-hG,Q2a]
 have hC:I.heap.objs.size<=G.objs.size:=by rw[aA];exact Q1b _
 have aw:I.heap.objs.size≠G.objs.size:=by rw[aA];exact Q0c (Q19 _)
 have aB:∀b o,I.heap.get? b=some o->ag.get? b=some o:=λb o e=>
  Y.extBut b o (Q0c (Q0f (Q04 e) hC)) (Q0a _ (hG ▸ Q0a _ e))
 have aL:ag.get? I.heap.objs.size=some (j5 [] 0):=Y.extBut _ _ aw (Q0a _ (hG ▸ Q0i _ rfl));have I3:=I2.block (cl:=cl) (t':=I.toks+([]:List (Str × Value)).length) S f2 ak ai aJ hC (Q00 _) aw aa aB aL;have aC:tn 0 ag:=T.keep _ _ _ ay λb _ o e=>aB b o e;have aQ:∀b∈U,H2 b=none:=λb L=>(f2 b L).1
 have aj:∀{H':Hp} {us:List Value} {n:Nat},(∀b∈U,H' b=none)->∀b∈U,jA (jt X own scope cl G.objs.size U I H2) [(I.heap.objs.size,j5 us n)] H' b:=λ{H' us n} hn b L=>by
  refine⟨hn b L,Q0c (Q0f (ak b L) hC),λz=>?_,.inl L,λx c e=>(f2 b L).2.2.2.2.1 x c (ai x c e),λp hp=>?_⟩
  . rcases List.mem_cons.mp (I2.qG b z) with q|q
    . exact(f2 b L).2.1 q
    . exact(f2 b L).2.2.1 q
  . have hp:p∈([]++[(I.heap.objs.size,j5 us n)]:List (Addr × Obj)):=hp;have e:p=(I.heap.objs.size,j5 us n):=by simpa using hp
    subst e;exact Q0x (ak b L)
 have am:∀af:Shared,af={ I with heap:=ag,toks:=I.toks+([]:List (Str × Value)).length }->
  codeAny (model X.prog X.w) X.A (.compLoop (.ListComp ar [⟨tg,iter,au,0⟩] scope pos) 0 (.ref it) (.ref I.heap.objs.size) (compEnvC scope cl G.objs.size X.env))
   (RR (.ref I.heap.objs.size) G.objs.size) af:=by
  rintro af rfl
  refine Jr (λn s'=>∃i ys us k H',Inv (jt X own scope cl G.objs.size U I H2) [(I.heap.objs.size,j5 us k)] (List.replicate own.length none++σ) H' s'/\Vals ys us/\ys.length<=sizeLine/\tn i s'.heap/\(∀b∈U,H' b=none)/\W i n ys H')
   ?_ m0 ⟨0,[],[],0,H2,I3,.nil,Q0g _,aC,aQ,w0⟩
  intro n s4 zq;obtain⟨i,ys,us,k,H4,I4,r4,z4,aD,aE,w4⟩:=zq;rcases turn i n ys H4 w4 with⟨stop,qn⟩|⟨go,aT,step⟩
  . refine gB (T.done (jt X own scope cl G.objs.size U I H2) rfl rfl rfl hc i _ s4 _ H4 (λ_ _=>False) I4 (aj aE) aD stop) λr s5 ⟨hr,I5⟩=>?_;subst hr;exact aP G.objs.size I.heap.objs.size s5 H4 ys us k hC (Q00 _) aw I5 r4 z4 qn
  . refine gB (T.item (jt X own scope cl G.objs.size U I H2) rfl rfl rfl hc i _ s4 _ H4 (λ_ _=>False) I4 (aj aE) aD go) λr s5 ⟨u,hr,h5⟩=>?_;subst hr;refine gB h5 λ_ s6 zq=>?_;obtain⟨x,H6,I6,r6,y6,ah,aU⟩:=zq;have aV:=I6.pinned (aj aU) (T.obj _ _ ah);refine gB (hg cl G.objs.size U I H2 _ s6 _ H6 x u _ aV r6 (step x H6 y6)) λ_ s7 zq=>?_;obtain⟨ab,H7,I7,d7,q7⟩:=zq;refine gB (ht cl G.objs.size U I H2 _ s7 ab H7 _ I7 q7) λb s8 ⟨H8,I8,q8⟩=>?_;have an:(List.replicate own.length none++σ).length=ab.length:=by rw[I7.len,<-I6.len]
    have ao:∀(j:Nat) v,(List.replicate own.length none++σ)[j]? =some (some v)->ab[j]? =some (some v):=λj v e=>by
     obtain⟨hk,e'⟩:=CF e;rw[<-d7,List.getElem?_drop] at e';rw[<-e'];congr 1;omega
    cases b with
    |false=>
     have q8:∃m',m'<n/\W (i+1) m' ys H8:=q8;obtain⟨m',hm,w8⟩:=q8;refine⟨m',hm,i+1,ys,us,k,H8,I8.mE.weak an ao,r4,z4,T.keep _ _ _ ah λb L o e=>?_,λb L=>?_,w8⟩
     . exact(I8.pin (b,o) (Q08 _ (Q08 _ (qI L e)))).1
     . obtain⟨o,e,d⟩:=T.obj _ _ ah b L;exact(I8.pin (b,o) (Q08 _ (Q08 _ (qI L e)))).2.1
    |true=>
     have q8:te ab H8 λy H9=>∃m',m'<n/\W (i+1) m' (ys++[y]) H9:=q8;show wpAny _ _ _ _ _ _;refine gB (he cl G.objs.size U I H2 _ s8 ab H8 _ I8 q8) λyv s9 zq=>?_;obtain⟨y,H9,I9,r9,m',hm,w9⟩:=zq;obtain⟨eD,nD,aH,aW,_⟩:=I9.pin (I.heap.objs.size,j5 us k) (Q08 _ (Q0t _ Q02));have hl:=r4.length;refine append_at (hsz:=by rw[Q06,<-hl];exact z4) eD λax ap aM=>?_
     have aq:∀b∈U,∀o,s6.heap.get? b=some o->s9.heap.get? b=some o/\H9 b=none:=λb L o e=>by
      have q:=I9.pin (b,o) (Q08 _ (Q08 _ (qI L e)));exact⟨q.1,q.2.1⟩
     have aX:∀b∈U,b≠I.heap.objs.size:=λb L=>Q0c (ak b L);have aY:Inv (jt X own scope cl G.objs.size U I H2) [] ab H9 s9:=I9.om λp hp=>(nomatch hp)
     have aZ:Inv (jt X own scope cl G.objs.size U I H2) [] ab H9 { s9 with heap:=ax }:=
      aY.turned (t':=s9.toks) (λb o L e=>ap.extBut b o L e) nD aH (.inr (Q00 _)) (λx c e z=>by
        obtain⟨v,q⟩:=I2.cell x c (ai x c e);exact absurd q.lt (by rw[z];exact Q0u _)) λp hp=>(nomatch hp)
     have a1:Inv (jt X own scope cl G.objs.size U I H2) [(I.heap.objs.size,j5 (us++[yv]) (k+1))] ab H9 { s9 with heap:=ax }:=aZ.om λp hp=>by
      have e:p=(I.heap.objs.size,j5 (us++[yv]) (k+1)):=by simpa using hp
      subst e
      refine⟨?_,nD,aH,aW,λv z=>by
       have z:Data.seq (us++[yv]).toArray (k+1)=Data.cell v:=z
       cases z⟩
      show ax.get? _=some { cls:=.type "list",data:=.seq (us++[yv]).toArray (k+1) };rw[<-List.push_toArray];exact aM
     refine⟨m',hm,i+1,ys++[y],us++[yv],k+1,H9,a1.weak an ao,r4.append (.cons r9 .nil),by rw[Q09,Q1m];exact aT,T.keep _ _ _ ah λb L o e=>ap.extBut b o (aX b L) (aq b L o e).1,λb L=>?_,w9⟩;obtain⟨o,e,d⟩:=T.obj _ _ ah b L;exact(aq b L o e).2
 exact codeAny_compStart_list (am _ rfl) (T.self _ 0 _ _ _ aC (am _ rfl))
theorem kT {tg iter aa:Expr}{ab:List Expr}{pos:Pos}{wi:TI}{g:TG}{tt:TT}{te:TE}(hc:X.calm=true)(S:ko X own scope)(hi:PI X tg iter wi)
 (hg:∀cl C fp L U,PG (jt X own scope cl C fp L U) tg g) (ht:∀cl C fp L U,qW (jt X own scope cl C fp L U) ab tt)
 (he:∀cl C fp L U,PE (jt X own scope cl C fp L U) aa te) (hs:∀x,foldedSetIterable iter X.env x=pure x:=by intro _;rfl):
 PE X (.ListComp aa [⟨tg,iter,ab,0⟩] scope pos) (CD own.length wi g tt te):=by
 intro pins s σ H Q I h;obtain⟨cl,Y,ac,ae⟩:=sQ (S.cells I);rw[eval_ListComp];refine wpAny_comprehension_free (use:=none) rfl hs Y S.kind S.names ?_;refine gB (hi pins s σ H _ I h) λv s1 h1=>gB h1 λak s2 h2=>?_;obtain⟨it,fp,tn,J,H2,af,I2,T,ag,f2,W,⟨m0,w0⟩,turn⟩:=h2;subst af;refine CG (RR:=λah C=>compPost (model X.prog X.w) X.A X.xe none (EP X pins σ Q) ah C) hc S ac ae I2 T ag f2 w0 turn hg ht he ?_;intro C D s5 H5 ys us k hC hD ai I5 r5 z5 fin;obtain⟨m5,n5,_⟩:=id I5.loc;refine⟨m5,n5,λh' aj=>?_⟩;obtain⟨I6,nD⟩:=I2.unblock f2 I5 Q02 hC hD ai r5 z5 aj;exact⟨.ref D,_,I6,rfl,fin _ nD⟩
theorem qX {i:Nat}{y:Str}{py Y:Pos}{tg iter aa:Expr}{ab:List Expr}{pos:Pos}{wi:TI}{g:TG}{tt:TT}{te:TE}(hN:X.N.Nodup)(hy:X.N[i]? =some y)(hL:Loc X.env.scope y)(hc:X.calm=true)(S:ko X own scope)(hi:PI X tg iter wi)
 (hg:∀cl C fp L U,PG (jt X own scope cl C fp L U) tg g) (ht:∀cl C fp L U,qW (jt X own scope cl C fp L U) ab tt)
 (he:∀cl C fp L U,PE (jt X own scope cl C fp L U) aa te) (hf:X.fn y=true\/X.env.scope.names.lookup y=some .local:=by first|exact .inl rfl|exact .inr rfl|assumption)
 (ak:swapsWith (.ListComp aa [⟨tg,iter,ab,0⟩] scope pos) (some (.Name y py)) Y.line X.env=pure true:=by rfl) (hs:∀x,foldedSetIterable iter X.env x=pure x:=by intro _;rfl):
 PS X (.Assign [.Name y py] (.ListComp aa [⟨tg,iter,ab,0⟩] scope pos) Y) (oy (CD own.length wi g tt te) (iH i)):=by
 intro pins s σ H E I h;obtain⟨cl,ac,ah,ai⟩:=sQ (S.cells I);rw[exec_Assign_Name_used _ _ _ _ ak];refine Q01 (wpAny_standAt (Q01 ?_));show wpAny _ _ (do let _ <-comprehension _ scope X.env _ (newList []) false (eval iter X.env) (some (assign (.Name y py) X.env))) _ _ s
 refine Q01 (gB (wpAny_comprehension_free (use:=some (assign (.Name y py) X.env)) (Q:=λ_ s'=>SP X pins E .next s') rfl hs ac S.kind S.names
  (gB (hi pins s σ H _ I h) λv s1 h1=>gB h1 λaq s2 h2=>?_)) λ_ s' hq=>Q0e (Q0e hq))
 obtain⟨it,fp,tn,J,H2,al,I2,T,am,f2,W,⟨m0,w0⟩,turn⟩:=h2;subst al;refine CG (RR:=λan C=>compPost (model X.prog X.w) X.A X.xe (some (assign (.Name y py) X.env)) (λ_ s'=>SP X pins E .next s') an C) hc S ah ai I2 T am f2 w0 turn hg ht he ?_;intro C D s5 H5 ys us k hC hD af I5 r5 z5 fin;obtain⟨m5,n5,_⟩:=id I5.loc;obtain⟨I6,nD⟩:=I2.unblock f2 I5 Q02 hC hD af r5 z5 (Heap.SameBut.refl C s5.heap);obtain⟨oC,es,ep,eC,dC,rC⟩:=id n5;have nC:upd H5 D (.lst ys) C=none:=by rw[d_ (Ne.symm af)];exact I5.free
 have ag:C≠X.env.locals:=Q0x (Q0f I2.lt hC)
 have ae:∀x c,X.env.cells.lookup x=some c->c≠C:=λx c e z=>by
  obtain⟨v,q⟩:=I2.cell x c e;exact absurd q.lt (by rw[z];exact Nat.not_lt.mpr hC)
 have aj:∀p∈X.pn++pins,p.1≠C:=λp hp z=>by
  have:=Q04 (I2.pin p hp).1;rw[z] at this;exact absurd this (Nat.not_lt.mpr hC)
 have I7:Inv X (pins++[(C,oC)]) σ (upd H5 D (.lst ys)) s5:=by
  refine I6.om λp hp=>?_;rcases List.mem_append.mp hp with z|z
  . exact I6.pin p (Q08 _ z)
  . have e:p=(C,oC):=by simpa using z
    subst e
    exact⟨eC,nC,ag,I2.pz hC,λv z=>by
     have z:oC.data=Data.cell v:=z;rw[dC] at z;cases z⟩
 show wpAny _ _ (assign (.Name y py) X.env (.ref D)) _ _ s5;refine wpAny_assign_Name (qH (v:=.ref D) I7 hN hy hL rfl (λs8 I8=>?_) hf);obtain⟨ao,ar,_⟩:=I8.pin (C,oC) (Q08 _ (Q08 _ Q02));refine⟨_,⟨oC,es,ep,ao,dC,rC⟩,λh' ap=>?_⟩
 have I9:Inv X pins (σ.set i (some (.ref D))) (upd H5 D (.lst ys)) { s8 with heap:=h' }:=
  I8.mE.turned (t':=s8.toks) (λb o hb e=>(ap.2 b hb).trans e) nC ag (.inr (Q0d I2.sz hC)) ae aj
 exact⟨_,_,I9,fin _ nD⟩
end
section
variable {X:Cx}
theorem oK {e:Expr}:PE X e (λ_ _ _=>False):=λ_ _ _ _ _ _ h=>h.elim
theorem Jt {e:Expr}:PT X e (λ_ _ _=>False):=λ_ _ _ _ _ _ h=>h.elim
theorem j6:jZ X (.builtin "isinstance") (λxs H Q=>∃x T t b,xs=[x,.ty T]/\kQ X.K H x t/\W.kitOne X.K t (.type T)=some b/\Q (.bl b) H):=by
 intro pins s σ H xs us Q I r h;obtain⟨x,T,t,b,rfl,ty,e,q⟩:=h;obtain⟨u,c,rfl,J,L⟩:=vals2 r
 cases L;exact Ih I J ty e λtk=>⟨.bl b,H,I.tok tk,rfl,q⟩
theorem vn:jZ X (.builtin "len") (λxs H Q=>(∃a kvs,xs=[V.ref a]/\H a=some (.dK kvs)/\Q (.int kvs.length) H)\/∃p ys,xs=[.ref p]/\(f_ X.K H p ys\/f9 X.K H p ys)/\Q (.int ys.length) H):=by
 intro pins s σ H xs us Q I r h;rcases h with h|h
 . exact Cz pins s σ H xs us Q I r h
 . exact jr pins s σ H xs us Q I r h
theorem vp:∀{ss:List Str}{vs:List Value},Vals (ss.map V.str) vs->StrsAre vs ss
 |[],_,r=>by cases r;exact .nil
 |y::r,_,h=>by
  cases h with
  |cons a b=>
   obtain⟨t,e⟩:=a;subst e;exact .cons y t (vp b)
theorem vq:∀{vs:List Value}{ss:List Str},StrsAre vs ss->Vals (ss.map V.str) vs
 |_,_,.nil=>.nil
 |_,_,.cons y t h=>.cons ⟨t,rfl⟩ (vq h)
theorem Ju:jZ X (.builtin "sorted") (λxs H Q=>∃a ss,xs=[.ref a]/\f_ X.K H a (ss.map V.str)/\ss.length<64/\
 ∀p J,H p=none->J.Perm ss->sortedS J=true->Q (.ref p) (upd H p (.lst (J.map V.str)))):=by
 intro pins s σ H xs us Q I r h;obtain⟨a,ss,rfl,Y,aa,q⟩:=h;obtain⟨u,rfl,ru⟩:=vals1 r
 cases ru;obtain⟨L,U,pl,hz⟩:=I.list Y;have hl:L.length=ss.length:=by rw[<-U.length,Q0]
 refine sorted_strs pl.isList (vp U) (by omega) λout J h1 h2 h3=>?_;obtain⟨e,he⟩:=sortedAll_at s.heap L out;refine⟨.ref (s.heap.objs.size+1),upd H (s.heap.objs.size+1) (.lst (J.map V.str)),I.laid (t':=s.toks) (λ_ _=>sortedAll_old) (Q1b _) ?_,rfl,q _ J (I.hok.fresh (Q1b _)) h2 h3⟩;refine⟨?_,out.toList,e,vq h1,he⟩;rw[Q0,h2.length_eq];have:ss.length<=1000:=by omega
 exact Q0w (iF this)
noncomputable def oM (I:List Value) (i:Nat):Bool:=match I[i]? with
 |some (.bool b)=>b
 |_=>false
theorem Jv:∀{bs:List Bool}{I:List Value},Vals (bs.map V.bl) I->(List.range I.length).all (oM I)=bs.all id:=by
 intro bs I r
 have key:∀i,i<bs.length->oM I i=bs.getD i false:=λi hi=>by
  have e:(bs.map V.bl)[i]? =some (.bl bs[i]):=by rw[Q0h,Q03 hi];rfl
  obtain⟨u,L,U⟩:=r.get e
  cases U;unfold oM;rw[L,Q05,Q03 hi];rfl
 have hl:I.length=bs.length:=by rw[<-r.length,Q0]
 rw[hl,Bool.eq_iff_iff,Q17,Q17];constructor
 . intro h b Y;obtain⟨i,hi,e⟩:=Q10 Y;have q:=h i (List.mem_range.mpr hi);rw[key i hi,Q05,Q03 hi,Q30,e] at q;exact q
 . intro h i hi;have J:=List.mem_range.mp hi;rw[key i J,Q05,Q03 J,Q30];exact h _ (Q0r J)
theorem vw (hc:X.calm=true):jZ X (.builtin "all") (λxs H Q=>∃(a:Addr) (bs:List Bool),xs=[.ref a]/\f_ X.K H a (bs.map V.bl)/\Q (.bl (bs.all id)) H):=by
 intro pins s σ H xs us Q I r h;obtain⟨a,bs,rfl,hq,q⟩:=h;obtain⟨u,rfl,ru⟩:=vals1 r
 cases ru;obtain⟨J,Y,pl,hz⟩:=I.list hq;have aa:a<s.heap.objs.size:=by obtain⟨_,e,_⟩:=pl.isList;exact Q04 e
 refine call_all_walk (wpAny_pyIter_list pl.isList ?_);refine⟨s.heap.objs.size,_,_,_,_,_,oM J,rfl,Walks.list (show X.A.in1.handled=none from I.ok.hd hc) s.heap.objs.size a (Q0c aa) J.toArray,⟨⟨_,Q0i _ rfl,rfl,rfl⟩,pl.isList.push _⟩,λi v s' Q' E' hP hQ=>?_,λh' tk hk=>?_⟩
 . have e:J[i]? =some v:=by simpa using hP
   have hi:i<J.length:=(List.getElem?_eq_some_iff.mp e).1;have hb:i<(bs.map V.bl).length:=by rw[Y.length];exact hi
   obtain⟨w',ew,L⟩:=Y.get (Q03 hb);rw[e] at ew;cases ew;rw[Q1z] at L
   cases L;refine wpAny_truthy_bool ?_;have U:oM J i=bs[i]'(by simpa using hb):=by unfold oM;rw[e]
   rw[U] at hQ;exact hQ
 . have e:(List.range J.toArray.size).all (oM J)=bs.all id:=by rw[Q06];exact Jv Y
   rw[e];have ns:H s.heap.objs.size=none:=I.hok.fresh (Q00 _);refine⟨.bl (bs.all id),H,I.kept (h':=h') (t':=tk) λb o U=>hk b o ?_ (Q0a _ U),rfl,q⟩;intro hm;have:b=s.heap.objs.size:=by simpa using hm
   exact absurd (Q04 U) (by rw[this];exact Q0u _)
noncomputable def Ite (K:W.Frag) (a:Addr):It:=
 ⟨λi H=>∃xs x,f_ K H a xs/\xs[i]? =some x,
  λi H x H'=>∃p y,H p=none/\x=.ref p/\(∀xs,f_ K H a xs->xs[i]? =some y)/\H'=upd H p (.tup [.int i,y]),
  λi H=>∃xs,f_ K H a xs/\xs.length<=i⟩
theorem Jw {P:Program}{w:World}{K:W.Frag}{ac:List Expr}{k:Nat}{tpos:Pos}{a e it:Addr}(aa:e≠it):
 Turn P w K (.Tuple ac k tpos) (Ite K a) [e,it] e (λi h=>∃L,IsEnum h e it (i:Int) L/\h.IsListIter it a i) where
 mem:=by simp
 obj:=λi h st b J=>by
  obtain⟨L,h1,h2⟩:=st;have J:b=e\/b=it:=by simpa using J
  rcases J with rfl|rfl
  . exact⟨_,h1,λv z=>by
     have z:Data.fields _=Data.cell v:=z
     cases z⟩
  . obtain⟨o,q,c,d⟩:=h2;exact⟨o,q,λv z=>by rw[d] at z;cases z⟩
 keep:=λi h h' st k=>by
  obtain⟨L,h1,h2⟩:=st;exact⟨L,k e (by simp) _ h1,h2.at λo q=>k it (by simp) o q⟩
 item:=by
  intro X hP hw hK hc i pins s σ H E I hf st hg;subst hP hw hK;obtain⟨L,h1,h2⟩:=st;obtain⟨xs,x,hq,hx⟩:=hg;obtain⟨ae,rv,p,hz⟩:=I.list hq;obtain⟨u,hu,ru⟩:=rv.get hx;obtain⟨e0,e1,e2,e3,e4,e5⟩:=hf e (by simp);obtain⟨f0,f1,f2,f3,f4,f5⟩:=hf it (by simp);have Y:H s.heap.objs.size=none:=I.hok.fresh (Q00 _);refine wpAny_pyNext_enum_item h1 h2 p.isList (x:=u) (by simpa using hu) aa λh' q1 q2 q3 q4 q5=>?_;refine⟨_,rfl,wpAny_letOwnedTupleGo_enum (s:={ s with heap:=h',toks:=s.toks+1 }) q1 λU g1 g2=>?_⟩;have af:∀b o,s.heap.get? b=some o->b≠s.heap.objs.size:=λb o q=>Q0c (Q04 q);have kk:∀b o,b≠e->b≠it->s.heap.get? b=some o->U.get? b=some o:=λb o n1 n2 q=>g2.extBut b o n1 (q5 b o n1 n2 q);have pe:s.heap.objs.size≠e:=Q0x (Q04 h1);have tup:U.get? s.heap.objs.size=some { cls:=.type "tuple",data:=.seq #[.int i s.toks,u] }:=g2.extBut _ _ pe q3
  have I1:Inv X pins σ (upd H s.heap.objs.size (.tup [.int i,x])) { s with heap:=U,toks:=s.toks+1 }:=by
   refine I.step (g':=s.gens) (d':=s.drawn) (ch:=[e,it]) (λb J=>?_) (λb o _ _ hc q _=>?_) (λb o _ _ hc q _=>?_) (λb o _ q n=>?_) (λb o hc q=>?_) (λb ys q=>?_) (λb o v q=>?_) (λb ps q=>?_) (λm hm=>?_) (λb o q=>?_) I.bare
   . have J:b=e\/b=it:=by simpa using J
     rcases J with rfl|rfl
     . exact⟨e3,e1,e4,e5⟩
     . exact⟨f3,f1,f4,f5⟩
   . exact kk b o (λz=>hc (by simp[z])) (λz=>hc (by simp[z])) q
   . exact⟨o.slots,kk b o (λz=>hc (by simp[z])) (λz=>hc (by simp[z])) q⟩
   . rw[d_ (af b o q)];exact n
   . exact⟨o,kk b o (λz=>hc (by simp[z])) (λz=>hc (by simp[z])) q⟩
   . rw[d_ (gz q Y)];exact q
   . rw[d_ (gz q Y)];exact q
   . exact⟨#[],by rw[d_ (gz q Y),q];simp⟩
   . obtain⟨o,es,ep,ho,r⟩:=hm;exact⟨o,es,ep,kk _ o (Ne.symm e1) (Ne.symm f1) ho,r⟩
   . by_cases J:b=s.heap.objs.size
     . subst J;rw[gh] at q;cases q;refine⟨yX,[.int i s.toks,u],.cons ⟨_,rfl⟩ (.cons ru .nil),?_⟩;exact⟨_,tup,rfl,_,rfl⟩
     . rw[d_ J] at q;refine(I.hok b o q).stay (λc v ab z=>kk c v ?_ ?_ z) (λc z=>by rw[d_ (gz z Y)];exact z) λc ys z=>by rw[d_ (gz z Y)];exact z
       . rcases ab with z|z
         . rw[z];exact gz q e0
         . exact gz z e0
       . rcases ab with z|z
         . rw[z];exact gz q f0
         . exact gz z f0
  refine⟨.ref s.heap.objs.size,_,I1,rfl,⟨s.heap.objs.size,x,Y,rfl,λys hy=>by rw[I.sd hy hq];exact hx,rfl⟩,⟨u,?_,q2.extBut g2.extBut (Ne.symm aa)⟩,λb J=>?_⟩
  . have ei:((i+1:Nat):Int)=(i:Int)+1:=by omega
    show IsEnum U e it ((i+1:Nat):Int) u;rw[ei];exact g1
  . have ag:b=e\/b=it:=by simpa using J
    have ah:b<s.heap.objs.size:=by
     rcases ag with rfl|rfl
     . exact Q04 h1
     . obtain⟨o,q,_⟩:=h2;exact Q04 q
    rw[d_ (Q0c ah)];exact(hf b J).1
 done:=by
  intro X hP hw hK hc i pins s σ H E I hf st hg;subst hP hw hK;obtain⟨L,h1,h2⟩:=st;obtain⟨xs,hq,hx⟩:=hg;obtain⟨ae,rv,p,hz⟩:=I.list hq;obtain⟨f0,f1,f2,f3,f4,f5⟩:=hf it (by simp);have hl:=rv.length;exact wpAny_pyNext_enum_end (I.ok.hd hc) h1 h2 p.isList (by simp;omega) λh' eb=>⟨rfl,I.turned (t':=s.toks) (λb o J q=>eb b o J q) f0 f1 f3 f4 f5⟩
 self:=λA i s Q E st q=>by
  obtain⟨L,h1,_⟩:=st;exact wpAny_pyIter_enum h1 q
def Jx (K:W.Frag) (ta:TA):TI:=λσ H R=>ta σ H λvs H1=>∃a,vs=[.ref a]/\(∃xs,f_ K H1 a xs)/\R (Ite K a) H1
theorem Jy:bootBuiltins "enumerate"=some (.type "enumerate"):=by decide +kernel
theorem sR {a:Expr}{ta:TA}{p pos tpos:Pos}{U:List Expr}{k:Nat}(hg:Gl X "enumerate")(hm:X.mg "enumerate"=none)(ha:PA X [a] ta)(hs:starEach [a] X.env=[(false,eval a X.env)]:=by rfl):
 PI X (.Tuple U k tpos) (.Call (.Name "enumerate" p) [a] [] pos) (Jx X.K ta):=by
 intro pins s σ H R I h;refine Call_ (mC I hg hm Jy (PyProof.Rows.callWith_type1 (gB (ha pos pins s σ H _ I h) λus J zq=>?_) hs rfl));obtain⟨vs,H1,Y,r1,q1⟩:=zq;obtain⟨l,e,⟨xs,hq⟩,q⟩:=q1;subst e;obtain⟨u,rfl,ru⟩:=vals1 r1
 cases ru;obtain⟨aa,rv,pl,hz⟩:=Y.list hq;refine call_enumerate_list pl.isList λh' q1 q2 q3 q4=>?_;refine wpAny_pyIter_enum q1 ?_;have I2:Inv X pins σ H1 { J with heap:=h' }:=Y.kept (t':=J.toks) q4;refine⟨J.heap.objs.size+1,[J.heap.objs.size+1,J.heap.objs.size],_,_,H1,rfl,I2,Jw (Q0x (Q19 _)),⟨.none,q1,q2⟩,λb L=>?_,q⟩
 have L:J.heap.objs.size<=b:=by
  have L:b=J.heap.objs.size+1\/b=J.heap.objs.size:=by simpa using L
  rcases L with z|z
  . rw[z];exact Q1b _
  . rw[z];exact Q00 _
 exact Y.nh L (Y.hok.fresh L)
theorem boot_zip:bootBuiltins "zip"=some (.type "zip"):=by decide +kernel
theorem Jz:iZ X (binaryOp .Mult) (λx y H Q=>∃z i,x=.str z/\y=.int i/\MulOk z i/\Q (.str (Txt.mul z i)) H):=by
 intro pins s σ H x y v u Q I J L h;obtain⟨z,i,rfl,rfl,ok,q⟩:=h;obtain⟨t,rfl⟩:=J;obtain⟨t',rfl⟩:=L;exact SB.mul ok λU k=>⟨.str (Txt.mul z i),H,I.tok k,⟨_,rfl⟩,q⟩
theorem CH {v:Value}{o:Option Int}(h:IsPart v o):(v=.none/\o=none)\/∃i t,v=.int i t/\o=some i:=by
 cases h with
 |none=>exact .inl ⟨rfl,rfl⟩
 |int i t=>exact .inr ⟨i,t,rfl,rfl⟩
theorem CI:u6 X (λx lo hi H Q=>∃z,x=.str z/\z.length<=sizeLine/\Q (.str (Txt.slice z lo hi)) H):=by
 intro pins s σ H x v vl vu lo hi sl Q I rx hs pl pu h;obtain⟨z,rfl,hz,q⟩:=h;obtain⟨t,rfl⟩:=rx
 have fin:∀{lo hi:Option Int} (q:Q (.str (Txt.slice z lo hi)) H),(Txt.slice z lo hi).length<=sizeLine/\∀t' k,EP X pins σ Q (.str (Txt.slice z lo hi) t') { s with toks:=k }:=
  λq=>⟨Q0d (Txt.slice_le z _ _) hz,λt' k=>⟨.str _,H,I.tok k,⟨t',rfl⟩,q⟩⟩
 refine⟨"str",_,F.slot_str_getitem.lookup,typeIs_str _ _ _,?_⟩;obtain⟨o,J,hc,L⟩:=hs;rcases CH pl with⟨U,rfl⟩|⟨i,Y,U,rfl⟩ <;> rcases CH pu with⟨e2,rfl⟩|⟨j,tj,e2,rfl⟩ <;> subst U <;> subst e2
 . exact wpAny_getItem_str_slice (l:=none) (u:=none) (st:=none) ⟨o,J,hc,L⟩ rfl (post_val_or_str (fin q))
 . exact wpAny_getItem_str_slice (l:=none) (u:=some (j,tj)) (st:=none) ⟨o,J,hc,L⟩ rfl (post_val_or_str (fin q))
 . exact wpAny_getItem_str_slice (l:=some (i,Y)) (u:=none) (st:=none) ⟨o,J,hc,L⟩ rfl (post_val_or_str (fin q))
 . exact wpAny_getItem_str_slice (l:=some (i,Y)) (u:=some (j,tj)) (st:=none) ⟨o,J,hc,L⟩ rfl (post_val_or_str (fin q))
end
theorem yes {σ:St}{H:Hp}{Q:Bool->Hp->Prop}(h:Q true H):mK σ H Q:=h
section
variable {K:W.Frag}{σ:St}{H:Hp}{Q:VK}{D:Ends}
theorem qY {i:Nat}{a b:Str}{T U:TS}(h:σ[i]? =some (some (.str a)))(I:decide (V.str a=V.str b)=true)(q:T D σ H):lP (jI (ie mG (gJ i) (tC (.str b)))) T U D σ H:=
 ⟨_,h,rfl,_,rfl,by rw[I];exact i_ q⟩
theorem j7 {i:Nat}{a b:Str}{T U:TS}(h:σ[i]? =some (some (.str a)))(I:decide (V.str a=V.str b)=false)(q:U D σ H):lP (jI (ie mG (gJ i) (tC (.str b)))) T U D σ H:=
 ⟨_,h,rfl,_,rfl,by rw[I];exact h9 q⟩
theorem mq {i:Nat}{p:Addr}{xs:List V}{a b:Str}{T U:TS}(h:σ[i]? =some (some (.ref p)))(h2:H p=some (.tup xs))(I:xs[0]? =some (.str a))(J:decide (V.str a=V.str b)=true)(q:T D σ H):
 lP (jI (ie mG (ie (i9 K) (gJ i) (tC (.int 0))) (tC (.str b)))) T U D σ H:=
 ⟨_,h,p,xs,0,.str a,rfl,rfl,f9.of h2,ki (j:=0) I,rfl,_,rfl,by rw[J];exact i_ q⟩
theorem iR {i:Nat}{p:Addr}{xs:List V}{a b:Str}{T U:TS}(h:σ[i]? =some (some (.ref p)))(h2:H p=some (.tup xs))(I:xs[0]? =some (.str a))(J:decide (V.str a=V.str b)=false)(q:U D σ H):
 lP (jI (ie mG (ie (i9 K) (gJ i) (tC (.int 0))) (tC (.str b)))) T U D σ H:=
 ⟨_,h,p,xs,0,.str a,rfl,rfl,f9.of h2,ki (j:=0) I,rfl,_,rfl,by rw[J];exact h9 q⟩
end
end L2
namespace L2
noncomputable def vy (own N:List Str) (scope sc:Scope):Bool:=
 scope.names.all (λy=>decide (y.2≠ .cell)) && scope.names.all (λy=>decide (y.2=.local->scope.names.lookup y.1=some .local)) &&
 scope.names.all (λy=>decide (y.2=.free->sc.names.lookup y.1=some .cell\/sc.names.lookup y.1=some .free)) && decide (own++N).Nodup && N.all λx=>decide (scope.names.lookup x≠some .local)
theorem ko.of {X:Cx}{own N:List Str}{scope sc:Scope}(I:X.env.scope=sc)(J:X.N=N)(k:scope.kind=.function)(c:vy own N scope sc=true):ko X own scope:=by
 unfold vy at c;simp only[Bool.and_eq_true,Q17,decide_eq_true_eq] at c;obtain⟨⟨⟨⟨L,U⟩,Y⟩,c4⟩,c5⟩:=c;exact⟨k,L,U,λy hy hf=>by rw[show X.env.kindOf y.1=X.env.scope.names.lookup y.1 from rfl,I];exact Y y hy hf,by rw[J];exact c4,by rw[J];exact c5⟩
end L2
namespace mL
open W PyProof.Rows
noncomputable def gZ {α:Type}(f:Nat->Nat->Bool):KasT α->α
 | .ret a=>a
 | .ask i j k=>gZ f (k (f i j))
theorem pL {α I:Type}(f:Nat->Nat->Bool)(g:α->KasT I):∀t:KasT α,gZ f (t.bind g)=gZ f (g (gZ f t))
 | .ret _=>rfl
 | .ask i j k=>pL f g (k (f i j))
def Bn {α:Type}(n:Nat) (R:α->Prop):KasT α->Prop
 | .ret a=>R a
 | .ask i j k=>i<n/\j<n/\∀b,Bn n R (k b)
theorem Bn.bind {α I:Type}{n:Nat}{R:α->Prop}{S:I->Prop}{g:α->KasT I}:∀{t:KasT α},Bn n R t->(∀a,R a->Bn n S (g a))->Bn n S (t.bind g)
 | .ret a,h,k=>k a h
 | .ask i j q,h,k=>⟨h.1,h.2.1,λb=>Bn.bind (h.2.2 b) k⟩
theorem CJ {α:Type}{n:Nat}{R:α->Prop}{f:Nat->Nat->Bool}{I:Nat->Nat->(Bool->Shared->Prop)->Shared->Prop}{Q:α->Shared->Prop}{s:Shared}
 (h:∀i j (C:Bool->Shared->Prop),i<n->j<n->C (f i j) s->I i j C s):∀{t:KasT α},Bn n R t->Q (gZ f t) s->t.kasWp I Q s
 | .ret a,_,q=>q
 | .ask i j k,b,q=>h i j _ b.1 b.2.1 (CJ h (b.2.2 (f i j)) q)
def Lt (n:Nat) (p:Array Nat):Prop:=0<n/\∀x∈p,x<n
theorem Lt.at {n:Nat}{p:Array Nat}(h:Lt n p)(i:Nat):p.getD i 0<n:=by
 rw[Q1p]
 cases e:p[i]? with
 |none=>exact h.1
 |some x=>exact h.2 x (Array.mem_of_getElem? e)
theorem Lt.perm {n:Nat}{p q:Array Nat}(h:Lt n p)(hp:q.Perm p):Lt n q:=⟨h.1,λx I=>h.2 x (hp.mem_iff.mp I)⟩
theorem mM (p:Array Nat)(i j:Nat):(kas_rev p i j).Perm p:=mirror_perm _ _ _ _
theorem JA (p:Array Nat)(i j:Nat):(kas_rev p i j).size=p.size:=mirror_size _ _ _ _
theorem vz {n:Nat}{p:Array Nat}(h:Lt n p):∀f m,Bn n (λ_=>True) (kas_asc p f m)
 |0,_=>trivial
 |f+1,m=>⟨h.at _,h.at _,λb=>by
   cases b with
   |true=>exact trivial
   |false=>exact vz h f (m+1)⟩
theorem sS {n:Nat}:∀f (p:Array Nat) m q,Lt n p->Bn n (λr:Array Nat × Nat × Nat=>Lt n r.1) (kas_desc f p m q)
 |0,_,_,_,h=>h
 |f+1,p,m,q,h=>⟨h.at _,h.at _,λb=>by
   cases b with
   |true=>
    show Bn n _ (if q > 0 then kas_desc f (kas_rev p (m - (q+1)) m) (m+1) 0 else kas_desc f p (m+1) 0);split
    . exact sS f _ _ _ (h.perm (mM _ _ _))
    . exact sS f _ _ _ h
   |false=>
    refine⟨h.at _,h.at _,λd=>?_⟩
    cases d with
    |true=>exact h
    |false=>exact sS f _ _ _ h⟩
theorem CK {n m r:Nat}{p:Array Nat}(h:Lt n p):Bn n (λq:Nat × Array Nat=>Lt n q.2) (kas_tail3 m r p):=
 (vz (h.perm (mM _ _ _)) _ _).bind λ_ _=>h.perm (mM _ _ _)
theorem CL {n m r:Nat}{p:Array Nat}(h:Lt n p):Bn n (λq:Nat × Array Nat=>Lt n q.2) (kas_descPart m r p):=by
 refine(sS _ _ _ _ h).bind λa I=>?_;split
 . exact CK (I.perm (mM _ _ _))
 . exact CK I
theorem JB {n r:Nat}{p:Array Nat}(h:Lt n p):Bn n (λq:Nat × Array Nat=>Lt n q.2) (kas_count r p):=by
 refine(vz h _ _).bind λa _=>?_;split
 . exact h
 split
 . refine⟨h.at _,h.at _,λb=>?_⟩
   cases b with
   |true=>exact h
   |false=>exact CL (h.perm (mM _ _ _))
 . exact CL h
theorem vA {n k:Nat}{p:Array Nat}(h:Lt n p):∀f l r,Bn n (λ_=>True) (kas_place p k f l r)
 |0,_,_=>trivial
 |f+1,l,r=>by
  unfold kas_place;split
  . exact trivial
  . refine⟨h.at _,h.at _,λb=>?_⟩
    cases b with
    |true=>exact vA h f _ _
    |false=>exact vA h f _ _
theorem CM {n:Nat}:∀f (p:Array Nat) k,Lt n p->Bn n (λ_=>True) (kas_bin f p k)
 |0,_,_,_=>trivial
 |f+1,p,k,h=>(vA h _ _ _).bind λl _=>CM f _ _ (h.perm (bubble_perm _ _ _))
theorem JC {n:Nat}(I:0<n):Bn n (λ_=>True) (kas_sort n):=by
 have h:Lt n (List.toArray (List.range n)):=⟨I,λx J=>by simpa using J⟩;refine(JB h).bind λr L=>?_;split
 . exact CM _ _ _ L
 . exact trivial
section
variable {O:KeyOrd}(key:Nat->O.α)
noncomputable def ip:Nat->Nat->Bool:=λi j=>O.blt (key i) (key j)
noncomputable def Kp (p:Array Nat) (i:Nat):O.α:=key (p.getD i 0)
def kq (p:Array Nat) (k:Nat):Prop:=∀i j,i<=j->j<k->O.kle (Kp key p i) (Kp key p j)
def lq (p:Array Nat) (k:Nat):Prop:=∀i j,i<=j->j<k->O.kle (Kp key p j) (Kp key p i)
variable {key}
theorem kq.succ {p:Array Nat}{n:Nat}(h:kq key p n)(h1:1<=n)(e:O.kle (Kp key p (n - 1)) (Kp key p n)):kq key p (n+1):=by
 intro i j I L;by_cases J:j<n
 . exact h i j I J
 . have:j=n:=by omega
   subst this;by_cases hi:i=j
   . subst hi;exact KeyOrd.kle_refl _
   . exact KeyOrd.kle_trans (h i (j - 1) (by omega) (by omega)) e
theorem lq.succ {p:Array Nat}{n:Nat}(h:lq key p n)(h1:1<=n)(e:O.kle (Kp key p n) (Kp key p (n - 1))):lq key p (n+1):=by
 intro i j I L;by_cases J:j<n
 . exact h i j I J
 . have:j=n:=by omega
   subst this;by_cases hi:i=j
   . subst hi;exact KeyOrd.kle_refl _
   . exact KeyOrd.kle_trans e (h i (j - 1) (by omega) (by omega))
theorem qZ {p q:Array Nat}{i j:Nat}(h:p[i]? =q[j]?):Kp key p i=Kp key q j:=by
 unfold Kp;rw[Q1p,Q1p,h]
theorem vB {p:Array Nat}{i j:Nat}(I:j<=p.size)(k:Nat):Kp key (kas_rev p i j) k=if i<=k/\k<j then Kp key p (i+j - 1 - k) else Kp key p k:=by
 have e:=getElem?_mirror_all (i:=i) I k;by_cases h1:i<=k/\k<j
 . rw[if_pos h1] at e ⊢;exact qZ e
 . rw[if_neg h1] at e ⊢;exact qZ e
theorem vC {p:Array Nat}{i j:Nat}(J:j<=p.size)(I:∀k,i<=k->k<j->Kp key p k=Kp key p (j - 1))(k:Nat):Kp key (kas_rev p i j) k=Kp key p k:=by
 rw[vB J];split
 . rw[I _ (by omega) (by omega),I k (by omega) (by omega)]
 . rfl
theorem JD {p:Array Nat}{src d:Nat}(I:src<p.size)(J:d<=src)(k:Nat):
 Kp key (bubble p src d) k=if k=src - d then Kp key p src else if src - d<k/\k<=src then Kp key p (k - 1) else Kp key p k:=by
 have e:=getElem?_bubble I d J k;by_cases h1:k=src - d
 . rw[if_pos h1] at e ⊢;exact qZ e
 . rw[if_neg h1] at e ⊢;by_cases h2:src - d<k/\k<=src
   . rw[if_pos h2] at e ⊢;exact qZ e
   . rw[if_neg h2] at e ⊢;exact qZ e
theorem lq.congr {p q:Array Nat}{n:Nat}(h:lq key p n)(e:∀k,Kp key q k=Kp key p k):lq key q n:=λi j a b=>by
 rw[e,e];exact h i j a b
theorem vD {p:Array Nat}:∀f n,1<=n->kq key p n->n<=gZ (ip key) (kas_asc p f n)/\gZ (ip key) (kas_asc p f n)<=n+f/\kq key p (gZ (ip key) (kas_asc p f n))/\
 (gZ (ip key) (kas_asc p f n)<n+f->O.klt (Kp key p (gZ (ip key) (kas_asc p f n))) (Kp key p (gZ (ip key) (kas_asc p f n) - 1)))
 |0,n,_,h=>⟨Q00 _,Q00 _,h,λz=>absurd z (Q0u _)⟩
 |f+1,n,h1,h=>by
  have e:gZ (ip key) (kas_asc p (f+1) n)=gZ (ip key) (if O.blt (Kp key p n) (Kp key p (n - 1))=true then .ret n else kas_asc p f (n+1)):=rfl;rw[e]
  cases c:O.blt (Kp key p n) (Kp key p (n - 1)) with
  |true=>
   rw[if_pos rfl];exact⟨Q00 _,Q1q _ _,h,λ_=>c⟩
  |false=>
   rw[if_neg (by simp)];obtain⟨L,U,I,J⟩:=vD f (n+1) (by omega) (h.succ h1 c);exact⟨by omega,by omega,I,λz=>J (by omega)⟩
structure DI (O:KeyOrd) (key:Nat->O.α) (p₀:Array Nat) (p:Array Nat) (n q:Nat):Prop where
 perm:p.Perm p₀
 non:lq key p n
 one:q+1<=n
 size:n<=p.size
 eq:∀k,n - (q+1)<=k->k<n->Kp key p k=Kp key p (n - 1)
theorem sT {I:Array Nat}:∀f (p:Array Nat) n q,DI O key I p n q->n+f<=I.size->
 ∃J n' L,gZ (ip key) (kas_desc f p n q)=(J,n',L)/\DI O key I J n' L/\n'<=n+f
 |0,p,n,q,d,_=>⟨p,n,q,rfl,d,Q00 _⟩
 |f+1,p,n,q,d,hs=>by
  have hsz:p.size=I.size:=d.perm.size_eq
  have e:gZ (ip key) (kas_desc (f+1) p n q)=gZ (ip key) (if O.blt (Kp key p n) (Kp key p (n - 1))=true then(if q > 0 then kas_desc f (kas_rev p (n - (q+1)) n) (n+1) 0 else kas_desc f p (n+1) 0)
   else .ask (p.getD (n - 1) 0) (p.getD n 0) λd=>if d=true then .ret (p,n,q) else kas_desc f p (n+1) (q+1)):=rfl
  rw[e];have one:=d.one
  cases c:O.blt (Kp key p n) (Kp key p (n - 1)) with
  |true=>
   rw[if_pos rfl];have cl:O.kle (Kp key p n) (Kp key p (n - 1)):=KeyOrd.kle_of_klt c;by_cases hq:q > 0
   . rw[if_pos hq];have ek:∀k,Kp key (kas_rev p (n - (q+1)) n) k=Kp key p k:=vC d.size d.eq
     have d':DI O key I (kas_rev p (n - (q+1)) n) (n+1) 0:=⟨(mM _ _ _).trans d.perm,(d.non.succ (by omega) cl).congr ek,by omega,by rw[JA];omega,λk h1 h2=>by
      have:k=n:=by omega
      subst this;rfl⟩
     obtain⟨J,n',L,U,Y,r3⟩:=sT f _ _ _ d' (by omega);exact⟨J,n',L,U,Y,by omega⟩
   . rw[if_neg hq]
     have d':DI O key I p (n+1) 0:=⟨d.perm,d.non.succ (by omega) cl,by omega,by omega,λk h1 h2=>by
      have:k=n:=by omega
      subst this;rfl⟩
     obtain⟨J,n',L,U,Y,r3⟩:=sT f _ _ _ d' (by omega);exact⟨J,n',L,U,Y,by omega⟩
  |false=>
   rw[if_neg (by simp)];have e2:gZ (ip key) (.ask (p.getD (n - 1) 0) (p.getD n 0) λd=>if d=true then .ret (p,n,q) else kas_desc f p (n+1) (q+1))=gZ (ip key) (if O.blt (Kp key p (n - 1)) (Kp key p n)=true then .ret (p,n,q) else kas_desc f p (n+1) (q+1)):=rfl;rw[e2]
   cases c2:O.blt (Kp key p (n - 1)) (Kp key p n) with
   |true=>
    rw[if_pos rfl];exact⟨p,n,q,rfl,d,by omega⟩
   |false=>
    rw[if_neg (by simp)];have ee:Kp key p n=Kp key p (n - 1):=O.total _ _ c c2
    have d':DI O key I p (n+1) (q+1):=⟨d.perm,d.non.succ (by omega) (by rw[ee];exact KeyOrd.kle_refl _),by omega,by omega,λk h1 h2=>by
     show Kp key p k=Kp key p n;by_cases hk:k=n
     . rw[hk]
     . rw[ee];exact d.eq k (by omega) (by omega)⟩
    obtain⟨J,n',L,U,Y,r3⟩:=sT f _ _ _ d' (by omega);exact⟨J,n',L,U,Y,by omega⟩
def q9 (O:KeyOrd) (key:Nat->O.α) (I:Array Nat) (nrem:Nat) (r:Nat × Array Nat):Prop:=r.2.Perm I/\1<=r.1/\r.1<=nrem/\kq key r.2 r.1
theorem CN {I p:Array Nat}{n nrem:Nat}(hp:p.Perm I)(h1:1<=n)(Y:n<=nrem)(hs:nrem<=I.size)(h:lq key p n):q9 O key I nrem (gZ (ip key) (kas_tail3 n nrem p)):=by
 have hsz:p.size=I.size:=hp.size_eq;unfold kas_tail3;rw[pL]
 have J:kq key (kas_rev p 0 n) n:=λi j U hj=>by
  rw[vB (by omega),vB (by omega),if_pos (by omega),if_pos (by omega)];exact h _ _ (by omega) (by omega)
 obtain⟨a1,a2,L,_⟩:=vD (key:=key) (p:=kas_rev p 0 n) (nrem - n) n h1 J;exact⟨(mM _ _ _).trans hp,by show 1<=gZ _ _;omega,by show gZ _ _<=nrem;omega,L⟩
theorem CO {I p:Array Nat}{n nrem:Nat}(hp:p.Perm I)(h1:1<=n)(hn:n+1<=nrem)(Y:nrem<=I.size)(h:lq key p (n+1)):q9 O key I nrem (gZ (ip key) (kas_descPart n nrem p)):=by
 have hsz:p.size=I.size:=hp.size_eq;unfold kas_descPart;rw[pL]
 have d:DI O key I p (n+1) 0:=⟨hp,h,by omega,by omega,λk h1 h2=>by
  have:k=n:=by omega
  subst this;rfl⟩
 obtain⟨L,n',U,r1,J,r3⟩:=sT (key:=key) (nrem - (n+1)) p (n+1) 0 d (by omega);rw[r1];have o:=J.one;have sz:=J.size;have aa:L.size=I.size:=J.perm.size_eq;by_cases hq:U > 0
 . show q9 O key I nrem (gZ (ip key) (if U > 0 then kas_tail3 n' nrem (kas_rev L (n' - (U+1)) n') else kas_tail3 n' nrem L));rw[if_pos hq];exact CN ((mM _ _ _).trans J.perm) (by omega) (by omega) Y (J.non.congr (vC J.size J.eq))
 . show q9 O key I nrem (gZ (ip key) (if U > 0 then kas_tail3 n' nrem (kas_rev L (n' - (U+1)) n') else kas_tail3 n' nrem L));rw[if_neg hq];exact CN J.perm (by omega) (by omega) Y J.non
theorem JE {p:Array Nat}{nrem:Nat}(h1:1<=nrem)(hs:nrem<=p.size):q9 O key p nrem (gZ (ip key) (kas_count nrem p)):=by
 unfold kas_count;rw[pL]
 obtain⟨I,a2,L,a4⟩:=vD (key:=key) (p:=p) (nrem - 1) 1 (Q00 _) (λi j J hj=>by
  have U:i=0:=by omega
  have Y:j=0:=by omega
  subst U;subst Y;exact KeyOrd.kle_refl _)
 generalize gZ (ip key) (kas_asc p (nrem - 1) 1)=n at *;by_cases hn:n=nrem
 . rw[if_pos (by simpa using hn)];exact⟨Array.Perm.refl _,I,by show n<=nrem;omega,L⟩
 . rw[if_neg (by simpa using hn)];have cl:O.klt (Kp key p n) (Kp key p (n - 1)):=a4 (by omega);by_cases hg:n > 1
   . rw[if_pos hg]
     have e:gZ (ip key) (.ask (p.getD 0 0) (p.getD (n - 1) 0) λc=>if c=true then .ret (n,p) else kas_descPart n nrem (kas_rev p 0 n))=
      gZ (ip key) (if O.blt (Kp key p 0) (Kp key p (n - 1))=true then .ret (n,p) else kas_descPart n nrem (kas_rev p 0 n)):=rfl
     rw[e]
     cases c:O.blt (Kp key p 0) (Kp key p (n - 1)) with
     |true=>
      rw[if_pos rfl];exact⟨Array.Perm.refl _,I,by show n<=nrem;omega,L⟩
     |false=>
      rw[if_neg (by simp)]
      have all:∀k,0<=k->k<n->Kp key p k=Kp key p (n - 1):=λk _ hk=>by
       have c':O.kle (Kp key p (n - 1)) (Kp key p 0):=c;exact KeyOrd.kle_antisymm (L k (n - 1) (by omega) (by omega)) (KeyOrd.kle_trans c' (L 0 k (by omega) hk))
      have ek:∀k,Kp key (kas_rev p 0 n) k=Kp key p k:=vC (by omega) all;refine CO (mM _ _ _) I (by omega) hs (lq.congr (lq.succ (n:=n) (λi j J hj=>?_) I (KeyOrd.kle_of_klt cl)) ek);rw[all i (by omega) (by omega),all j (by omega) (by omega)];exact KeyOrd.kle_refl _
   . rw[if_neg hg];have:n=1:=by omega
     subst this;refine CO (Array.Perm.refl _) I (by omega) hs (lq.succ (n:=1) (λi j J hj=>?_) I (KeyOrd.kle_of_klt cl));have U:i=0:=by omega
     have Y:j=0:=by omega
     subst U;subst Y;exact KeyOrd.kle_refl _
theorem vE {p:Array Nat}{k:Nat}(h:kq key p k):∀f l r,l<=r->r<=k->r - l<=f->(∀i,i<l->O.kle (Kp key p i) (Kp key p k))->(∀i,r<=i->i<k->O.klt (Kp key p k) (Kp key p i))->
 ∃m,gZ (ip key) (kas_place p k f l r)=m/\m<=k/\(∀i,i<m->O.kle (Kp key p i) (Kp key p k))/\(∀i,m<=i->i<k->O.klt (Kp key p k) (Kp key p i))
 |0,l,r,h1,h2,U,I,J=>⟨l,rfl,by omega,I,λi a b=>J i (by omega) b⟩
 |f+1,l,r,h1,h2,U,I,J=>by
  by_cases L:l ≥ r
  . refine⟨l,?_,by omega,I,λi a b=>J i (by omega) b⟩;unfold kas_place;rw[if_pos L];rfl
  . have e:gZ (ip key) (kas_place p k (f+1) l r)=gZ (ip key) (if O.blt (Kp key p k) (Kp key p ((l+r) / 2))=true then kas_place p k f l ((l+r) / 2) else kas_place p k f ((l+r) / 2+1) r):=by
     show gZ (ip key) (if l ≥ r then .ret l else _)=_;rw[if_neg L];rfl
    rw[e]
    cases c:O.blt (Kp key p k) (Kp key p ((l+r) / 2)) with
    |true=>
     rw[if_pos rfl];exact vE h f _ _ (by omega) (by omega) (by omega) I λi a b=>KeyOrd.klt_of_klt_of_kle (show O.klt _ _ from c) (h _ _ a b)
    |false=>
     rw[if_neg (by simp)];exact vE h f _ _ (by omega) h2 (by omega) (λi a=>KeyOrd.kle_trans (h i ((l+r) / 2) (by omega) (by omega)) (show O.kle _ _ from c)) J
theorem CP:∀f (p:Array Nat) k,kq key p k->k+f<=p.size->(gZ (ip key) (kas_bin f p k)).Perm p/\kq key (gZ (ip key) (kas_bin f p k)) (k+f)
 |0,p,k,h,_=>⟨Array.Perm.refl _,h⟩
 |f+1,p,k,h,hs=>by
  have e:gZ (ip key) (kas_bin (f+1) p k)=gZ (ip key) (kas_bin f (bubble p k (k - gZ (ip key) (kas_place p k k 0 k))) (k+1)):=by
   show gZ (ip key) ((kas_place p k k 0 k).bind λl=>kas_bin f (bubble p k (k - l)) (k+1))=_;rw[pL]
  rw[e];obtain⟨m,em,m1,m2,m3⟩:=vE h k 0 k (Q0g _) (Q00 _) (Q00 _) (λi z=>absurd z (Q2g _)) (λi a b=>absurd a (by omega));rw[em];have J:=λi=>JD (key:=key) (p:=p) (src:=k) (d:=k - m) (by omega) (by omega) i;have hm:k - (k - m)=m:=by omega
  rw[hm] at J
  have hS:kq key (bubble p k (k - m)) (k+1):=by
   intro i j L hj;rw[J i,J j];by_cases U:i=m
   . rw[if_pos U];by_cases I:j=m
     . rw[if_pos I];exact KeyOrd.kle_refl _
     . rw[if_neg I,if_pos (by omega)];exact KeyOrd.kle_of_klt (m3 _ (by omega) (by omega))
   . rw[if_neg U];by_cases Y:m<i/\i<=k
     . rw[if_pos Y,if_neg (by omega),if_pos (by omega)];exact h _ _ (by omega) (by omega)
     . rw[if_neg Y];by_cases I:j=m
       . rw[if_pos I];exact m2 i (by omega)
       . rw[if_neg I];by_cases lj:m<j/\j<=k
         . rw[if_pos lj];exact h _ _ (by omega) (by omega)
         . rw[if_neg lj];exact h _ _ L (by omega)
  obtain⟨b1,b2⟩:=CP f (bubble p k (k - m)) (k+1) hS (by rw[bubble_size];omega);exact⟨b1.trans (bubble_perm _ _ _),by rw[show k+(f+1)=k+1+f by omega];exact b2⟩
theorem JF {n:Nat}(hn:1<=n):(gZ (ip key) (kas_sort n)).toList.Perm (List.range n)/\((gZ (ip key) (kas_sort n)).toList.map key).Pairwise O.kle:=by
 have Y:(List.toArray (List.range n)).size=n:=by simp
 obtain⟨I,c2,c3,c4⟩:=JE (key:=key) (p:=List.toArray (List.range n)) (nrem:=n) hn (by omega)
 have main:(gZ (ip key) (kas_sort n)).Perm (List.toArray (List.range n))/\kq key (gZ (ip key) (kas_sort n)) n:=by
  unfold kas_sort;rw[pL];generalize gZ (ip key) (kas_count n (List.toArray (List.range n)))=r at *;obtain⟨m,p⟩:=r;have hsz:p.size=n:=by rw[I.size_eq,Y]
  by_cases hm:m<n
  . show(gZ (ip key) (if m<n then kas_bin (n - max m 1) p (max m 1) else .ret p)).Perm _/\kq key (gZ (ip key) (if m<n then kas_bin (n - max m 1) p (max m 1) else .ret p)) n;rw[if_pos hm];have c2:1<=m:=c2;have em:max m 1=m:=by omega
    rw[em];obtain⟨b1,b2⟩:=CP (key:=key) (n - m) p m c4 (by omega);exact⟨b1.trans I,by rw[show n=m+(n - m) by omega];rw[show m+(n - m) - m=n - m by omega];exact b2⟩
  . show(gZ (ip key) (if m<n then kas_bin (n - max m 1) p (max m 1) else .ret p)).Perm _/\kq key (gZ (ip key) (if m<n then kas_bin (n - max m 1) p (max m 1) else .ret p)) n;rw[if_neg hm];have c3:m<=n:=c3;have:m=n:=by omega
    subst this;exact⟨I,c4⟩
 refine⟨Array.perm_iff_toList_perm.mp main.1,?_⟩;have hsz:(gZ (ip key) (kas_sort n)).size=n:=by rw[main.1.size_eq,Y]
 rw[Q12,List.pairwise_iff_getElem];intro i j hi hj J;have L:i<(gZ (ip key) (kas_sort n)).size:=by simpa using hi
 have U:j<(gZ (ip key) (kas_sort n)).size:=by simpa using hj
 have q:=main.2 i j (Q0w J) (by omega);unfold Kp at q;rw[Q1p,Q1p,Q31 L,Q31 U] at q;simpa using q
end
end mL
namespace L2
open Spec PyProof.Rows
def pM (c':Addr) (qual:Str):Heap->Prop:=λh=>h.CodeRec (.ref c') qual
def mN (P:Addr) (pos:Pos) (qual:Str) (c':Addr) (H:Hp):Prop:=H P=some (.iJ #[rawInt pos.line,rawInt pos.col,.ref c'])/\H c'=some (.ext (pM c' qual))
def gy (P:Addr) (pos:Pos) (qual:Str) (H:Hp):Prop:=H P=some (.iJ #[])\/∃c',mN P pos qual c' H
theorem mN.mono {P:Addr}{pos:Pos}{qual:Str}{c':Addr}{H H':Hp}(h:mN P pos qual c' H)(k:∀b o,(b=P\/b=c')->H b=some o->H' b=some o):mN P pos qual c' H':=⟨k _ _ (.inl rfl) h.1,k _ _ (.inr rfl) h.2⟩
def BM (mg:Str->Option Value) (base:Heap):Prop:=
 ∃I o,mg "__builtins__"=some (.ref I)/\I≠builtinsNs/\I≠mainGlobals/\base.get? I=some o/\o.cls=.type "module"/\o.dict=some builtinsNs/\o.data=.plain
def JG (P:Addr) (pos:Pos) (qual:Str) (ps:Array Value) (H:Hp):Prop:=H P=some (.iJ ps)/\TriplesOk ps.toList/\(codeAmong pos ps.toList=none\/∃c',codeAmong pos ps.toList=some (.ref c')/\H c'=some (.ext (pM c' qual)))
def JH (P:Addr) (pos:Pos) (qual:Str) (ps:Array Value) (c':Addr) (H:Hp):Prop:=((codeAmong pos ps.toList=none/\H P=some (.iJ (ps++#[rawInt pos.line,rawInt pos.col,.ref c'])))\/(codeAmong pos ps.toList=some (.ref c')/\H P=some (.iJ ps)))/\H c'=some (.ext (pM c' qual))
section
variable {X:Cx}{pins:List (Addr × Obj)}{σ:St}{H:Hp}{s:Shared}
theorem Inv.CQ (I:Inv X pins σ H s){P b:Addr}{o:HO}{u:Obj}(e:H P=some o)(J:X.base.get? b=some u):b≠P:=λz=>by
 have:=(I.bs b u J).2;rw[z,e] at this;cases this
theorem Inv.CU (I:Inv X pins σ H s)(B:BM X.mg X.base){P:Addr}{o:HO}(e:H P=some o):s.heap.BuiltinsAt X.mg P:=by
 obtain⟨J,L,Y,b2,b3,U,b5⟩:=B;exact⟨J,L,Y,b2,b3,I.CQ e U,(I.bs J L U).1,b5⟩
theorem Inv.adopt {b:Addr}{o:HO}{h':Heap}{t':Nat}(I:Inv X pins σ H s)(f:jA X pins H b)(k:∀c u,c≠b->s.heap.get? c=some u->h'.get? c=some u)(new:iQ X.prog X.w (upd H b o) h' b o):
 Inv X pins σ (upd H b o) { s with heap:=h',toks:=t' }:=by
 obtain⟨U,f1,f2,f3,Y,f5⟩:=f;have J:∀c u,H c=some u->c≠b:=λc u e=>gz e U
 refine I.step (g':=s.gens) (d':=s.drawn) (ch:=[b]) (λc hc=>?_) (λc u _ _ hc e _=>k c u (λz=>hc (by simp[z])) e) (λc u _ _ hc e _=>⟨u.slots,k c u (λz=>hc (by simp[z])) e⟩) (λc u hc e n=>?_)
  (λc u hc e=>⟨u,k c u (λz=>hc (by simp[z])) e⟩) (λc xs e=>?_) (λc L u e=>?_) (λc ps e=>⟨#[],?_⟩) (λm hm=>?_) (λc u e=>?_) I.bare
 . have e:c=b:=by simpa using hc
   subst e;exact⟨f3,f1,Y,f5⟩
 . rw[d_ (λz=>hc (by simp[z]))];exact n
 . rw[d_ (J _ _ e)];exact e
 . rw[d_ (J _ _ e)];exact e
 . rw[d_ (J _ _ e),e];simp
 . obtain⟨L,es,ep,ho,r⟩:=hm;exact⟨L,es,ep,k _ L (Ne.symm f1) ho,r⟩
 . by_cases hc:c=b
   . subst hc;rw[gh] at e;cases e;exact new
   . rw[d_ hc] at e;refine(I.hok c u e).stay (λd v hd q=>k d v ?_ q) (λd q=>by rw[d_ (J _ _ q)];exact q) λd xs q=>by rw[d_ (J _ _ q)];exact q
     rcases hd with z|z
     . rw[z];exact hc
     . exact J _ _ z
theorem Inv.own {b:Addr}{h':Heap}{t':Nat}(I:Inv X pins σ H s)(f:jA X pins H b)(J:Heap.SameBut b s.heap h'):Inv X pins σ H { s with heap:=h',toks:=t' }:=
 I.turned (t':=t') (λc u hc e=>(J.2 c hc).trans e) f.1 f.2.1 f.2.2.2.1 f.2.2.2.2.1 f.2.2.2.2.2
theorem CV {mO:Array Value}{name qual:Str}{L:Arguments}{body:Expr}{scope:Scope}{pos:Pos}{U:Nat}{cl:List (Str × Addr)}{c P:Addr}{Q:Value->Shared->Prop}{E:Value->Shared->Prop}(I:Inv X pins σ H s)(aa:X.env.code=.ref c)(C:W.CodeHd X.base c P)
 (B:BM X.mg X.base) (T:JG P pos qual mO H) (ac:closureFor scope X.env=pure cl)
 (h:∀(f c':Addr) (pm Y:Value) (H':Hp) (s':Shared),Inv X (pins++[(f,W.kla_obj name qual L body scope cl pm c' Y)]) σ H' s'->JH P pos qual mO c' H'->(∀b o,b≠P->H b=some o->H' b=some o)->Q (.ref f) s'):
 wpAny (model X.prog X.w) X.A (makeFunction name qual L (.expr body) scope X.env [] [] [] pos U) Q E s:=by
 have hg:s.heap.Ns mainGlobals X.mg:=I.mod.glob.keeps I.bk;have C':=C.keeps I.bk
 have ae:∀{H':Hp} {s':Shared} {f:Addr} {o:Obj},Inv X pins σ H' s'->s'.heap.get? f=some o->H' f=none->s.heap.objs.size<=f->(∀v,o.data≠ .cell v)->Inv X (pins++[(f,o)]) σ H' s':=λ{H' s' f o} J e n hz d=>
  J.om λp hp=>(List.mem_append.mp hp).elim (λz=>J.pin p (Q08 _ z)) λz=>by
    have:p=(f,o):=by simpa using z
    subst this;exact⟨e,n,Q0x (Q0f I.lt hz),I.pz hz,d⟩
 obtain⟨e,af,ag|⟨c',e1,e2⟩⟩:=T
 . have hP:s.heap.get? P=some (W.tabObj mO):=I.hok P _ e;have ah:P<s.heap.objs.size:=Q04 hP
   have am:mainGlobals≠P:=by
    obtain⟨o,es,ep,eo,_⟩:=I.mod.glob;exact I.CQ e eo
   refine W.kla_makeFunction (mg:=X.mg) ac I.ok.glob hg aa C' hP af ag am (I.CU B e) λc' Y h' tk hx ab ai al aj=>?_;have ak:c'≠P:=Q0x (Q0f ah ab);have an:H c'=none:=I.hok.fresh ab
   have nP:∀b u,H b=some u->u≠ .iJ mO->b≠P:=λb u q d z=>by
    rw[z,e] at q;exact d (Option.some.inj q).symm
   have nC:∀b u,H b=some u->b≠c':=λb u q=>gz q an;have kk:∀(ob:Obj) b u,b≠P->s.heap.get? b=some u->(h'.push ob).get? b=some u:=λob b u hb q=>Q0a _ (hx b u hb q)
   have I1:Inv X pins σ (upd (upd H P (.iJ (mO++#[rawInt pos.line,rawInt pos.col,.ref c']))) c' (.ext (pM c' qual))) { s with heap:=h'.push (W.kla_obj name qual L body scope cl ((X.mg "__name__").getD .none) c' Y),toks:=tk }:=by
    refine I.step (g':=s.gens) (d':=s.drawn) (ch:=[]) (λ_ z=>nomatch z) (λb o _ _ _ q n=>kk _ b o (λz=>by rw[z,e] at n;cases n) q) (λb o _ _ _ q n=>⟨o.slots,kk _ b o (λz=>by rw[z,e] at n;cases n) q⟩)
     (λb o _ q n=>?_) (λb o _ q=>?_) (λb xs q=>?_) (λb o u q=>?_) (λb ps q=>?_) (λm hm=>?_) (λb o q=>?_) I.bare
    . have b1:b≠P:=λz=>by rw[z,e] at n;cases n
      have b2:b≠c':=Q0c (Q0f (Q04 q) ab);rw[d_ b2,d_ b1];exact n
    . by_cases hb:b=P
      . subst hb;exact⟨_,Q0a _ aj⟩
      . exact⟨o,kk _ b o hb q⟩
    . rw[d_ (nC _ _ q),d_ (nP _ _ q (by intro z;cases z))];exact q
    . rw[d_ (nC _ _ q),d_ (nP _ _ q (by intro z;cases z))];exact q
    . by_cases hb:b=P
      . subst hb;rw[e] at q;cases q;exact⟨_,by rw[d_ (Ne.symm ak),gh]⟩
      . exact⟨#[],by rw[d_ (nC _ _ q),d_ hb,q];simp⟩
    . obtain⟨o,es,ep,ho,r⟩:=hm;exact⟨o,es,ep,kk _ _ o (λz=>by have:=I.free;rw[z,e] at this;cases this) ho,r⟩
    . by_cases hb:b=c'
      . subst hb;rw[gh] at q;cases q;obtain⟨aq,oc,vs,t,z1,z2,z3,z4⟩:=al
        cases z1;refine⟨⟨_,oc,vs,t,rfl,Q0a _ z2,z3,z4⟩,⟨oc,Q0a _ z2⟩,λh1 h2 y hy=>?_⟩;obtain⟨ar,ao,ap,t',y1,y2,y3,y4⟩:=y
        cases y1;exact⟨_,ao,ap,t',rfl,hy _ y2,y3,y4⟩
      . rw[d_ hb] at q;by_cases hp:b=P
        . subst hp;rw[gh] at q;cases q;show(h'.push _).get? b=some { cls:=.none,data:=.fields _ };exact Q0a _ aj
        . rw[d_ hp] at q;refine(I.hok b o q).stay (λd v hd y=>kk _ d v ?_ y) (λd y=>by rw[d_ (nC _ _ y),d_ (nP _ _ y (by intro z;cases z))];exact y) λd xs y=>by rw[d_ (nC _ _ y),d_ (nP _ _ y (by intro z;cases z))];exact y
          rcases hd with z|z
          . rw[z];exact hp
          . exact nP _ _ z (by intro z;cases z)
   have fz:s.heap.objs.size<=h'.objs.size:=Q0w (Q1n ab ai)
   have fn:upd (upd H P (.iJ (mO++#[rawInt pos.line,rawInt pos.col,.ref c']))) c' (.ext (pM c' qual)) h'.objs.size=none:=by
    rw[d_ (Q0x ai),d_ (Q0x (Q0f ah fz))];exact I.hok.fresh fz
   refine h h'.objs.size c' ((X.mg "__name__").getD .none) Y _ _ (ae I1 (Q0i _ rfl) fn fz (by intro v z;cases z)) ⟨.inl ⟨ag,by rw[d_ (Ne.symm ak),gh]⟩,gh⟩ λb o hb q=>?_;rw[d_ (nC _ _ q),d_ hb];exact q
 . have hP:s.heap.get? P=some (W.tabObj mO):=I.hok P _ e;refine W.kla_makeFunctionHit (mg:=X.mg) (cv:=.ref c') ac I.ok.glob hg aa C' hP af e1 (I.CU B e) λY h' tk hk hsz=>?_;exact h h'.objs.size c' ((X.mg "__name__").getD .none) Y H _ (ae (I.kept λb u q=>Q0a _ (hk b u q)) (Q0i _ rfl) (I.hok.fresh hsz) hsz (by intro v z;cases z)) ⟨.inr ⟨e1,e⟩,e2⟩ λb o _ q=>q
theorem CY {name qual:Str}{aa:Arguments}{body:Expr}{scope:Scope}{pos:Pos}{Y:Nat}{cl:List (Str × Addr)}{c P:Addr}{Q:Value->Shared->Prop}{E:Value->Shared->Prop}(I:Inv X pins σ H s)(ac:X.env.code=.ref c)(C:W.CodeHd X.base c P)
 (B:BM X.mg X.base) (T:gy P pos qual H) (ae:closureFor scope X.env=pure cl)
 (h:∀(f c':Addr) (pm ab:Value) (H':Hp) (s':Shared),Inv X (pins++[(f,W.kla_obj name qual aa body scope cl pm c' ab)]) σ H' s'->mN P pos qual c' H'->(∀b o,b≠P->H b=some o->H' b=some o)->Q (.ref f) s'):
 wpAny (model X.prog X.w) X.A (makeFunction name qual aa (.expr body) scope X.env [] [] [] pos Y) Q E s:=by
 rcases T with e|⟨U,e,ec⟩
 . refine CV (mO:=#[]) I ac C B ⟨e,by simp[TriplesOk],.inl rfl⟩ ae λf c' pm ab H' s' J L m=>h f c' pm ab H' s' J ?_ m;obtain⟨z|z,y⟩:=L
   . exact⟨z.2,y⟩
   . cases z.1
 . refine CV (mO:=#[rawInt pos.line,rawInt pos.col,.ref U]) I ac C B ⟨e,by simp[TriplesOk,rawInt],.inr ⟨U,by simp[codeAmong,rawInt],ec⟩⟩ ae λf c' pm ab H' s' J L m=>h f c' pm ab H' s' J ?_ m;have hc:codeAmong pos [rawInt pos.line,rawInt pos.col,.ref U]=some (.ref U):=by simp[codeAmong,rawInt]
   obtain⟨z|z,y⟩:=L
   . exact absurd (hc.symm.trans z.1) (by intro z;cases z)
   . have:U=c':=by
      have:=hc.symm.trans z.1
      cases this;rfl
     subst this;exact⟨z.2,y⟩
structure kU (X:Cx) (x:Str) (N':List Str) (scope:Scope):Prop where
 kind:scope.kind=.function
 co:scope.isCoroutine=false
 gen:scope.isGenerator=false
 cell:∀y∈scope.names,y.2≠ .cell
 loc:scope.names.lookup x=some .local
 free:∀y∈scope.names,y.2=.free->X.env.kindOf y.1=some .cell\/X.env.kindOf y.1=some .free
 len:N'.length=X.N.length
 outer:∀(i:Nat) (y:Str),N'[i]? =some y->scope.names.lookup y=none\/(X.N[i]? =some y/\scope.names.lookup y≠some .local)
noncomputable def oN (scope:Scope):List Str->List Str->Bool
 |[],[]=>true
 |y::r,z::q=>(decide (scope.names.lookup y=none) || (decide (z=y) && decide (scope.names.lookup y≠some .local))) && oN scope r q
 |_,_=>false
theorem CZ {scope:Scope}:∀{N' N:List Str},oN scope N' N=true->N'.length=N.length
 |[],[],_=>rfl
 |y::r,z::q,h=>by
  simp only[oN,Bool.and_eq_true] at h;rw[Q0k,Q0k,CZ h.2]
theorem C0 {scope:Scope}:∀{N' N:List Str},oN scope N' N=true->∀(i:Nat) (y:Str),N'[i]? =some y->scope.names.lookup y=none\/(N[i]? =some y/\scope.names.lookup y≠some .local)
 |[],[],_,i,y,e=>by simp at e
 |w::r,z::q,h,0,y,e=>by
  simp only[oN,Bool.and_eq_true,Bool.or_eq_true,decide_eq_true_eq] at h;have e:some w=some y:=e
  cases e;rcases h.1 with h1|⟨h1,h2⟩
  . exact .inl h1
  . subst h1;exact .inr ⟨rfl,h2⟩
 |w::r,z::q,h,i+1,y,e=>by
  simp only[oN,Bool.and_eq_true] at h;have:=C0 h.2 i y (by simpa using e);simpa using this
noncomputable def C1 (x:Str) (N' N:List Str) (scope sc:Scope):Bool:=
 scope.names.all (λy=>decide (y.2≠ .cell)) && decide (scope.names.lookup x=some .local) && scope.names.all (λy=>decide (y.2=.free->sc.names.lookup y.1=some .cell\/sc.names.lookup y.1=some .free)) && oN scope N' N
theorem kU.of {x:Str}{N' N:List Str}{scope sc:Scope}(I:X.env.scope=sc)(J:X.N=N)(k:scope.kind=.function)(U:scope.isCoroutine=false)(Y:scope.isGenerator=false)(c:C1 x N' N scope sc=true):kU X x N' scope:=by
 unfold C1 at c;simp only[Bool.and_eq_true,Q17,decide_eq_true_eq] at c;obtain⟨⟨⟨a1,a2⟩,a3⟩,L⟩:=c;exact⟨k,U,Y,a1,a2,λy hy hf=>by rw[show X.env.kindOf y.1=X.env.scope.names.lookup y.1 from rfl,I];exact a3 y hy hf,by rw[J];exact CZ L,by rw[J];exact C0 L⟩
noncomputable abbrev sU (qual:Str) (scope:Scope) (cl:List (Str × Addr)) (f c':Addr) (s:Shared):Env:=W.envX qual scope s.heap.objs.size f (.ref c') cl
noncomputable def q_ (X:Cx) (x:Str) (N':List Str) (scope:Scope) (cl:List (Str × Addr)) (qual:Str) (f c':Addr) (s:Shared) (H:Hp):Cx:=
 { X with A:=X.A.in1.in1.deeper (sU qual scope cl f c' s),N:=x::N',s₀:=s,H₀:=H,env:=sU qual scope cl f c' s,outer:=X.stack,stack:=sU qual scope cl f c' s::X.stack,ex:=[],fn:=λ_=>false,pn:=[],calm:=true,xe:=λ_ _=>False }
theorem Inv.lam {x:Str}{N':List Str}{scope:Scope}{cl:List (Str × Addr)}{qual:Str}{f c':Addr}{v:V}{u:Value}{L:Heap}{t':Nat}(I:Inv X pins σ H s)(S:kU X x N' scope)(hd:X.A.handled=none)
 (J:∀y c,cl.lookup y=some c->X.env.cells.lookup y=some c) (ab:∀y,(y,NameKind.free)∈scope.names->cl.lookup y=X.env.cells.lookup y) (r:RelV v u)
 (hn:L.Ns s.heap.objs.size (λy=>([(x,u)]:List (Str × Value)).reverse.lookup y)) (aa:∀b o,s.heap.get? b=some o->L.get? b=some o):
 Inv (q_ X x N' scope cl qual f c' s H) [] (some v::σ) H { s with heap:=L,toks:=t' }:=by
 have ok:=I.ok
 have U:∀y,(scope.names.lookup y=some .cell\/scope.names.lookup y=some .free)->(y,NameKind.free)∈scope.names:=λy hy=>by
  rcases hy with hy|hy
  . exact absurd rfl (S.cell _ (PySem.mem_of_lookup hy))
  . exact PySem.mem_of_lookup hy
 refine⟨⟨ok.mod,S.kind,rfl,rfl,Q00 _,λy z c Y e2=>ok.inj y z c (J y c Y) (J z c e2),λy hy=>?_,λy c hy _=>(nomatch hy),λ_=>hd,Around.frames_deeper (show X.A.in1.in1.frames=some X.stack from ok.frames),.inr ⟨rfl,rfl⟩,λb hb=>absurd (show b∈([]:List Addr) from hb) (by simp),I.bs,Q0d ok.kL I.sz,
  λb o _ hb=>absurd (show b∈([]:List Addr) from hb) (by simp),λb hb=>absurd (show b∈([]:List Addr) from hb) (by simp),I.stack,I.rZ⟩,
  rfl,I.bare,Un.kept aa,⟨_,hn,λi y v' Y e2 e3=>?_⟩,λy c e=>?_,I.hok.fresh (Q00 _),λy c e=>I.jy y c (J y c e),λp hp=>absurd (show p∈([]:List (Addr × Obj)) from hp) (by simp),I.hok.kept aa,?_⟩
 . have hm:=U y hy;obtain⟨c,e⟩:=ok.has y (S.free _ hm rfl);exact⟨c,by rw[show(q_ X x N' scope cl qual f c' s H).env.cells=cl from rfl,ab y hm];exact e⟩
 . cases i with
   |zero=>
    have Y:some x=some y:=Y
    cases Y;have e2:some (some v)=some (some v'):=e2
    cases e2;exact⟨u,r,.inl ⟨S.loc,by simp⟩⟩
   |succ i=>
    have Y:N'[i]? =some y:=by
     have Y:(x::N')[i+1]? =some y:=Y;simpa using Y
    have e2:σ[i]? =some (some v'):=by simpa using e2
    have ho:X.N[i]? =some y/\scope.names.lookup y≠some .local:=by
     have e3:scope.names.lookup y=some .local\/scope.names.lookup y=some .cell\/scope.names.lookup y=some .free:=e3;rcases S.outer i y Y with q|q
     . rw[q] at e3;rcases e3 with z|z|z <;> cases z
     . exact q
    have ae:scope.names.lookup y=some .cell\/scope.names.lookup y=some .free:=by
     rcases e3 with q|q
     . exact absurd q ho.2
     . exact q
    have hm:=U y ae;have af:=S.free _ hm rfl;obtain⟨mX,ah,ag⟩:=I.loc;obtain⟨u',r',lk⟩:=ag i y v' ho.1 e2 (.inr af);refine⟨u',r',.inr ⟨ae,?_⟩⟩;rcases lk with⟨q,_⟩|⟨_,c,ec,hc⟩
    . rcases af with z|z
      . rw[z] at q;cases q
      . rw[z] at q;cases q
    . obtain⟨o,ho,ac⟩:=hc;exact⟨c,(ab y hm).trans ec,o,aa _ _ ho,ac⟩
 . obtain⟨w',o,ho,ac⟩:=I.cell y c (J y c e);exact⟨w',o,aa _ _ ho,ac⟩
 . show _=(x::N').length;rw[Q0k,Q0k,I.len,S.len]
theorem C2 {x:Str}{N':List Str}{name qual:Str}{L:Arguments}{body:Expr}{scope:Scope}{cl:List (Str × Addr)}{f c':Addr}{pm U:Value}{v:V}{u:Value}{te:TE}{Q:VK}{E:Value->Shared->Prop}(I:Inv X pins σ H s)(S:kU X x N' scope)(hd:X.A.handled=none)(aa:X.A.depth<recursionLimit)
 (ab:∀y c,cl.lookup y=some c->X.env.cells.lookup y=some c) (ac:∀y,(y,NameKind.free)∈scope.names->cl.lookup y=X.env.cells.lookup y) (hf:(f,W.kla_obj name qual L body scope cl pm c' U)∈pins) (hc:H c'=some (.ext (pM c' qual)))
 (hb:∀u:Value,bindArgs (W.kla_fn name qual L body scope cl pm (.ref c') U) ⟨[u],[]⟩=pure [(x,u)]) (r:RelV v u) (he:∀(s:Shared) (H:Hp),PE (q_ X x N' scope cl qual f c' s H) body te) (h:te (some v::σ) H Q):
 wpAny (model X.prog X.w) X.A.in1.in1 (call (.ref f) [u]) (EP X pins σ Q) E s:=by
 obtain⟨p1,p2,p3,p4,p5⟩:=I.pin _ (Q08 _ hf);refine wpAny_call (W.kla_callFunE aa p1 rfl S.co S.gen rfl (I.hok c' _ hc).1 ?_);rw[hb];refine Q0e (wpAny_newFunctionEnv S.cell (λy hy=>?_) (λae af ag=>?_) S.kind)
 . have e:y=(x,u):=by simpa using hy
   subst e;exact S.loc
 have Y:∀b o,s.heap.get? b=some o->ae.get? b=some o:=λb o e=>ag.extBut b o (Q0c (Q04 e)) (Q0a _ e);refine⟨I.nolimit.keeps Y,?_⟩;show codeAny _ _ (.expr body (sU qual scope cl f c' s)) _ _;have J:=I.lam (t':=s.toks+([(x,u)]:List (Str × Value)).length) (qual:=qual) (f:=f) (c':=c') S hd ab ac r af Y;refine W.kla_codeExpr (Q0s (he s H [] _ _ H Q J h) (λu' s' hq=>?_) λe s' hF=>hF.elim);obtain⟨v',H',J',rv,q⟩:=hq;exact I.after ⟨v',H',J'.os,J'.bare,J'.base,J'.hok,rv,q⟩
end
section
variable {X:Cx}{pins:List (Addr × Obj)}{σ:St}{H:Hp}{s:Shared}
def Asks (prog:Program) (w:World) (A:Around) (s:Shared) (us:List Value) {O:KeyOrd}(key:Nat->O.α):Prop:=
 2<=us.length->wpAny (model prog w) A (keyKind' us.toArray) (λκ s'=>s'=s/\∀(i j:Nat) (C:Bool->Shared->Prop),i<us.length->j<us.length->C (O.blt (key i) (key j)) s->W.kas_ask prog w A κ us i j C s) (λ_ _=>False) s
theorem C3 {xs:List V}{vs:List Value}(r:Vals xs vs):∀p:List Nat,Vals (p.map λi=>xs.getD i .non) (p.map λi=>vs.getD i Value.none)
 |[]=>.nil
 |i::p=>by
  refine .cons ?_ (C3 r p);show RelV (xs.getD i .non) (vs.getD i Value.none);rw[Q05,Q05]
  cases e:xs[i]? with
  |none=>
   rw[r.none_of e];exact rfl
  |some x=>
   obtain⟨u,I,J⟩:=r.get e;rw[I];exact J
theorem C4 {α:Type}(a0:α)(l:List α):((List.range l.length).map λi=>l.getD i a0)=l:=by
 apply Q32
 . simp
 . intro i h1 h2;simp[h2]
theorem JI {us vs:List Value}(hl:us.length=vs.length):((List.toArray us).zip (List.toArray vs)).map (·.2)=List.toArray vs:=by
 apply Array.toList_inj.mp;rw[Array.toList_map,ksk_zip];show List.map Prod.snd (us.zip vs)=vs;exact List.map_snd_zip (by omega)
theorem JJ {α:Type}{R:α->α->Prop}(key:Nat->α){n:Nat}(h:n<2):((List.range n).map key).Pairwise R:=by
 have:n=0\/n=1:=by omega
 rcases this with rfl|rfl
 . exact List.Pairwise.nil
 . exact Q1r _ _
noncomputable abbrev lo (xs:List Value) (n:Nat):Obj:=seqObj "list" (List.toArray xs) n
theorem C5 {E:Value->Shared->Prop}{kS D:Addr}{us:List Value}{e U:Nat}{st:SortSt}{out:List Value}{outV:List V}{P:PySem.Fin->Shared->Prop}{A:Around}(I:Inv X (pins++[(kS,lo us e),(D,lo [] U)]) σ H s)(fK:jA X pins H kS)(fD:jA X pins H D)(aa:kS≠D)(ac:us.length<64)(ho:out.length<64)
 (L:(arrOf st).map (·.2)=List.toArray out) (hf:failedOf st=none) (rv:Vals outV out)
 (h:∀s',Inv X pins σ (upd H D (.lst outV)) s'->P (.done (.ret .none)) s'):wpAny (model X.prog X.w) A (ksk_tail D false U (.ref kS) st) P E s:=by
 have nk:=(I.pin (kS,lo us e) (Q08 _ (Q08 _ (Q02)))).1;have nD:=(I.pin (D,lo [] U) (Q08 _ (Q08 _ (Q07 _ Q02)))).1;have s1:=Heap.SameBut.update s.heap kS (Obj.mapSeq λ_=>(#[]:Array Value));have J:(s.heap.update kS (Obj.mapSeq λ_=>(#[]:Array Value))).get? D=some (lo [] U):=(s1.2 D aa.symm).trans nD;have s2:=Heap.SameBut.update (s.heap.update kS (Obj.mapSeq λ_=>(#[]:Array Value))) D (Obj.mapSeq λ_=>List.toArray out);obtain⟨Y,ab⟩:∃Y,((s.heap.update kS (Obj.mapSeq λ_=>(#[]:Array Value))).update D (Obj.mapSeq λ_=>List.toArray out)).get? D=some (lo out Y):=⟨_,get?_update_seq J λ_=>List.toArray out⟩;have I1:Inv X pins σ H { s with heap:=s.heap.update kS (Obj.mapSeq λ_=>(#[]:Array Value)) }:=I.mE.own (t':=s.toks) fK s1
 have I2:Inv X pins σ (upd H D (.lst outV)) { s with heap:=(s.heap.update kS (Obj.mapSeq λ_=>(#[]:Array Value))).update D (Obj.mapSeq λ_=>List.toArray out) }:=
  I1.adopt (t':=s.toks) fD (λc u hc q=>(s2.2 c hc).trans q) ⟨by rw[rv.length];exact Q0w (iF (by omega)),out,Y,rv,ab⟩
 unfold ksk_tail
 try dsimp only
 rw[L];refine Q01 (listUpdate_at nk rfl ?_ (by rw[Q06,sizeLine_eq];omega) (Q0g _));refine Q01 (wpAny_letGo ?_);refine Q01 (seqEpoch_at J rfl ?_);refine Q01 (listUpdate_at J rfl ?_ (Q0g _) (by show(List.toArray out).size<=_;rw[Q06,sizeLine_eq];omega));rw[hf];simp only[bne_self_eq_false,Bool.false_eq_true,if_false];exact Q0e (h _ I2)
theorem JK {E:Value->Shared->Prop}{kS D:Addr}{us vs:List Value}{xs:List V}{e e1:Nat}{P:PySem.Fin->Shared->Prop}{A:Around}{O:KeyOrd}{key:Nat->O.α}(I:Inv X (pins++[(kS,lo us e),(D,lo [] e1)]) σ H s)(fK:jA X pins H kS)(fD:jA X pins H D)(ab:kS≠D)
 (hl:us.length=vs.length) (Y:vs.length<64) (rv:Vals xs vs) (ask:Asks X.prog X.w A s us key)
 (h:∀(p:List Nat),p.Perm (List.range vs.length)->(p.map key).Pairwise O.kle->∀s',Inv X pins σ (upd H D (.lst (p.map λi=>xs.getD i .non))) s'->P (.done (.ret .none)) s'):
 wpAny (model X.prog X.w) A (ksk_end D false (List.toArray vs) e1 (.ref kS) (List.toArray us)) P E s:=by
 unfold ksk_end
 try dsimp only
 simp only[Bool.false_eq_true,if_false];by_cases h2:vs.toArray.size<2
 . rw[if_pos h2,if_pos h2];have aa:vs.length<2:=by simpa using h2
   refine Q01 (Q0e ?_);rw[StateT.run_pure];refine Q01 (Q0e ?_)
   try dsimp only
   have ac:xs.length=vs.length:=rv.length
   have ez:((List.range vs.length).map λi=>xs.getD i .non)=xs:=by
    rw[<-ac];exact C4 _ xs
   refine C5 (out:=vs) (outV:=xs) (st:=SortSt.mk' general' ((List.toArray us).zip (List.toArray vs)) #[] 7 none) I fK fD ab (by omega) Y (JI hl) rfl rv λs' J=>?_;have q:=h (List.range vs.length) (List.Perm.refl _) (JJ key aa) s';rw[ez] at q;exact q J
 . rw[if_neg h2,if_neg h2];have aa:2<=vs.length:=by simpa using h2
   refine Q01 (Q0s (ask (by omega)) (λκ s' hk=>?_) λ_ _ hF=>hF.elim);obtain⟨rfl,hk⟩:=hk;obtain⟨k1,k2⟩:=mL.JF (key:=key) (n:=vs.length) (by omega)
   refine Q01 (Q0s (W.kat_run (κ:=κ) (ks:=us) (vs:=vs) (Q:=λU L=>L=s'/\arrOf U=(mL.gZ (mL.ip key) (W.kas_sort vs.length)).map (W.kas_item ((List.toArray us).zip vs.toArray))/\failedOf U=none)
    (G:=λp L=>L=s'/\p=mL.gZ (mL.ip key) (W.kas_sort vs.length)) hl aa Y (λp U L _ a2 a3 a4=>⟨a4.1,by rw[a2,a4.2],a3⟩)
    (mL.CJ (f:=mL.ip key) (λi j C hi hj q=>hk i j C (by omega) (by omega) q) (mL.JC (by omega)) ⟨rfl,rfl⟩)) ?_ λ_ _ x=>x)
   rintro⟨⟨⟩,U⟩ L ⟨rfl,ae,af⟩
   try dsimp only
   refine C5 I fK fD ab (by omega) (by rw[Q0,k1.length_eq,Q2h];exact Y) (W.kat_snds hl ae) af (C3 rv _) λs' J=>h _ k1 k2 s' J
theorem JL {prog:Program}{w:World}{A:Around}{E:Value->Shared->Prop}{s:Shared}{l:Addr}{vs:List Value}{Q:List Value->Shared->Prop}(hl:IsTup s.heap l vs.toArray)
 (h:Q vs { s with heap:=(s.heap.push (seqObj "list" #[] 0)).update s.heap.objs.size (Obj.mapSeq (· ++vs.toArray)) }) (hsz:vs.length<=sizeLine):
 wpAny (model prog w) A (collect (.ref l)) Q E s:=by
 obtain⟨o,J,hc,n,L⟩:=id hl;unfold collect;refine Q01 (wpAny_runValue (codeAny_builtin entry_proto_collect' ?_));refine Q01 (wpAny_newList (Q0e ⟨Code.quiet_builtin _ (by decide +kernel),codeAny_builtin entry_list_iadd' ?_⟩));change wpAny _ _ (Builtin.List.listExtendWith (.ref s.heap.objs.size) (.ref l) (.ref s.heap.objs.size)) _ _ { s with heap:=s.heap.push (seqObj "list" #[] 0) };unfold Builtin.List.listExtendWith;have I:(s.heap.push (seqObj "list" #[] 0)).get? l=some o:=Q0a _ J;refine Q01 (wpAny_typeOf (T:="tuple") ⟨o,I,hc⟩ ?_);have ht:(Value.type "tuple" == Value.type "tuple")=true:=by rfl
 rw[if_pos (by rw[ht];simp)];refine Q01 (listItems_at I L ?_);refine Q01 (listItems_at (xs:=#[]) (n:=0) (Q0i _ rfl) rfl ?_);rw[if_neg (by simp)];refine Q01 (listUpdate_at (xs:=#[]) (n:=0) (Q0i _ rfl) rfl ?_ (Q0g _) (by show(#[]++vs.toArray).size<=sizeLine+1;simp only[Q33,Q06,Q2d];omega));refine Q0e ?_;refine Q01 (wpAny_load (get?_update_seq (Q0i _ rfl) _) ?_);change wpAny _ _ (pure ((#[]:Array Value)++vs.toArray).toList) Q E _;rw[show((#[]:Array Value)++vs.toArray).toList=vs by simp];exact Q0e h
theorem JM {E:Value->Shared->Prop}{f a:Addr}{xs:List V}{Q:VK}{W:List V->Hp->Prop}(I:Inv X pins σ H s)(hq:f_ X.K H a xs\/f9 X.K H a xs)(ar:xs.length<64)(w0:W [] H)
 (turn:∀(pl:List (Addr × Obj)) (s':Shared) (H':Hp) (ks:List V) (y:V) (u:Value),Inv X (pins++pl) σ H' s'->W ks H'->xs[ks.length]? =some y->RelV y u->
   wpAny (model X.prog X.w) X.A.in1.in1 (call (.ref f) [u]) (EP X (pins++pl) σ λk aa=>W (ks++[k]) aa) (λ_ _=>False) s')
 (fin:∀(pl:List (Addr × Obj)) (s':Shared) (H':Hp) (ks:List V) (us:List Value),Inv X (pins++pl) σ H' s'->W ks H'->ks.length=xs.length->Vals ks us->∃(O:KeyOrd) (key:Nat->O.α),Asks X.prog X.w X.A.in1.in1 s' us key/\
   ∀p:List Nat,p.Perm (List.range xs.length)->(p.map key).Pairwise O.kle->∀D,H' D=none->Q (.ref D) (upd H' D (.lst (p.map λi=>xs.getD i .non)))):
 wpAny (model X.prog X.w) X.A (call (.builtin "sorted") [.ref a] [(Str.ofString "key",.ref f)]) (EP X pins σ Q) E s:=by
 obtain⟨vs,rv,al⟩:∃vs,Vals xs vs/\∀{A:Around} {E:Value->Shared->Prop} {Q:List Value->Shared->Prop},Q vs { s with heap:=(s.heap.push (seqObj "list" #[] 0)).update s.heap.objs.size (Obj.mapSeq (· ++vs.toArray)) }->vs.length<=sizeLine->wpAny (model X.prog X.w) A (collect (.ref a)) Q E s:=by
  rcases hq with hq|hq
  . obtain⟨vs,rv,pl,hz⟩:=I.list hq;exact⟨vs,rv,λh1 h2=>collect_list pl.isList h1 h2⟩
  . obtain⟨vs,rv,pl,hz⟩:=I.tuple hq;exact⟨vs,rv,λh1 h2=>JL pl h1 h2⟩
 have hl:xs.length=vs.length:=rv.length;refine call_function_entry_kw kind_sorted plain_sorted entry_sorted (ksk_s1 _ _) ?_;unfold Builtin.«sorted»;refine Q01 (m:=checkCount "sorted" 1 1 _) (Q0e ?_);refine Q01 (al ?_ (by rw[sizeLine_eq];omega));refine Q01 (wpAny_newList ?_ (by rw[sizeLine_eq];omega))
 have hsz:((s.heap.push (seqObj "list" #[] 0)).update s.heap.objs.size (Obj.mapSeq (· ++vs.toArray))).objs.size=s.heap.objs.size+1:=by
  rw[Q2,size_push']
 have U:(((s.heap.push (seqObj "list" #[] 0)).update s.heap.objs.size (Obj.mapSeq (· ++vs.toArray))).push (seqObj "list" vs.toArray 0)).get? (s.heap.objs.size+1)=some (seqObj "list" vs.toArray 0):=by
  rw[<-hsz];exact Q0i _ rfl
 have keep:∀b o,s.heap.get? b=some o->(((s.heap.push (seqObj "list" #[] 0)).update s.heap.objs.size (Obj.mapSeq (· ++vs.toArray))).push (seqObj "list" vs.toArray 0)).get? b=some o:=λb o q=>by
  have ac:b<s.heap.objs.size:=Q04 q;rw[Q34 _ _ _ (by rw[hsz];exact Q0c (Q35 ac)),Heap.get?_update_ne _ _ _ _ (Q0c ac),Q34 _ _ _ (Q0c ac)];exact q
 show wpAny _ _ _ _ _ { s with heap:=((s.heap.push (seqObj "list" #[] 0)).update s.heap.objs.size (Obj.mapSeq (· ++vs.toArray))).push (seqObj "list" vs.toArray 0) };rw[hsz];generalize hG:((s.heap.push (seqObj "list" #[] 0)).update s.heap.objs.size (Obj.mapSeq (· ++vs.toArray))).push (seqObj "list" vs.toArray 0)=G at U keep ⊢;have am:G.objs.size=s.heap.objs.size+2:=by rw[<-hG,size_push',hsz]
 have I1:Inv X pins σ H { s with heap:=G }:=I.kept (t':=s.toks) keep;refine Q01 (wpAny_holding (wpAny_call_entry_kw slot_list_sort ⟨_,U,rfl⟩ entry_list_sort ?body (ksk_l1 _ _)))
 case body=>
  show wpAny (model X.prog X.w) X.A.in1.in1 (Builtin.«list.sort» ⟨[.ref (s.heap.objs.size+1)],[(Str.ofString "key",.ref f)]⟩) _ _ _;rw[ksk_t1];unfold ksk_tree;generalize hD:s.heap.objs.size+1=D at U ⊢;have af:s.heap.objs.size<=D:=by omega
  have s1:=Heap.SameBut.update G D (Obj.mapSeq λ_=>(#[]:Array Value));obtain⟨e1,ag⟩:∃e1,(G.update D (Obj.mapSeq λ_=>(#[]:Array Value))).get? D=some (lo [] e1):=⟨_,get?_update_seq U λ_=>#[]⟩;refine Q01 (listItems_at U rfl ?_);refine Q01 (listUpdate_at U rfl ?_ (by rw[Q06,sizeLine_eq];omega) (Q0g _));refine Q01 (seqEpoch_at ag rfl ?_);refine Q01 (wpAny_newTuple ?_ (by show vs.length<=_;rw[sizeLine_eq];omega));refine Q01 (wpAny_newList ?_ (Q0g _));refine wpAny_holding ?_;show wpAny (model X.prog X.w) X.A.in1.in1 _ _ _ { s with heap:=((G.update D (Obj.mapSeq λ_=>(#[]:Array Value))).push (seqObj "tuple" vs.toArray 0)).push (seqObj "list" #[] 0) };generalize ah:((G.update D (Obj.mapSeq λ_=>(#[]:Array Value))).push (seqObj "tuple" vs.toArray 0)).objs.size=kS;have aq:kS=s.heap.objs.size+3:=by rw[<-ah,size_push',Q2,am]
  have ai:kS≠D:=by omega
  have L:jA X pins H D:=I.nh af (I.hok.fresh af);have ab:jA X pins H kS:=I.nh (by omega) (I.hok.fresh (by omega))
  have ae:∀b o,b≠D->G.get? b=some o->(((G.update D (Obj.mapSeq λ_=>(#[]:Array Value))).push (seqObj "tuple" vs.toArray 0)).push (seqObj "list" #[] 0)).get? b=some o:=λb o hb q=>
   Q0a _ (Q0a _ ((s1.2 b hb).trans q))
  have I2:Inv X pins σ H { s with heap:=((G.update D (Obj.mapSeq λ_=>(#[]:Array Value))).push (seqObj "tuple" vs.toArray 0)).push (seqObj "list" #[] 0) }:=
   Inv.turned (s:={ s with heap:=G }) (t':=s.toks) (it:=D) I1 ae L.1 L.2.1 L.2.2.2.1 L.2.2.2.2.1 L.2.2.2.2.2
  have hK:(((G.update D (Obj.mapSeq λ_=>(#[]:Array Value))).push (seqObj "tuple" vs.toArray 0)).push (seqObj "list" #[] 0)).get? kS=some (lo [] 0):=by rw[<-ah];exact Q0i _ rfl
  have aj:(((G.update D (Obj.mapSeq λ_=>(#[]:Array Value))).push (seqObj "tuple" vs.toArray 0)).push (seqObj "list" #[] 0)).get? D=some (lo [] e1):=Q0a _ (Q0a _ ag);generalize ((G.update D (Obj.mapSeq λ_=>(#[]:Array Value))).push (seqObj "tuple" vs.toArray 0)).push (seqObj "list" #[] 0)=G2 at I2 hK aj ⊢
  have pinned:∀{H':Hp} {s':Shared} {us:List Value} {e:Nat},Inv X pins σ H' s'->s'.heap.get? kS=some (lo us e)->s'.heap.get? D=some (lo [] e1)->H' kS=none->H' D=none->Inv X (pins++[(kS,lo us e),(D,lo [] e1)]) σ H' s':=λ{H' s' us e} J k1 k2 n1 n2=>
   J.om λp hp=>(List.mem_append.mp hp).elim (λz=>J.pin p (Q08 _ z)) λz=>by
     have z:p=(kS,lo us e)\/p=(D,lo [] e1):=by simpa using z
     rcases z with rfl|rfl
     . exact⟨k1,n1,ab.2.1,ab.2.2.1,by intro v z;cases z⟩
     . exact⟨k2,n2,L.2.1,L.2.2.1,by intro v z;cases z⟩
  have own:∀{H':Hp} {b:Addr},(b=kS\/b=D)->H' b=none->jA X pins H' b:=λ{H' b} hb n=>by
   rcases hb with rfl|rfl
   . exact⟨n,ab.2⟩
   . exact⟨n,L.2⟩
  unfold ksk_rest;refine Q01 (wpAny_rule ?_)
  first
   |rw[List.forIn_toArray]
   |(rw[<-Q36];simp only[List.toList_toArray])
   |rw[<-Q36]
  refine Q01 (ksk_fold (λi s'=>∃ks us e H',Inv X (pins++[(kS,lo us e),(D,lo [] e1)]) σ H' s'/\Vals ks us/\ks.length=i/\i<=vs.length/\W ks H') vs 0 _
   ⟨[],[],0,H,pinned I2 hK aj ab.1 L.1,.nil,rfl,Q0g _,w0⟩ (λj x s' hx hJ=>?_) λs' hJ=>?_)
  . obtain⟨ks,us,e,H',J,rk,hi,an,wk⟩:=hJ;have hi:ks.length=j:=by omega
    have hj:j<vs.length:=(List.getElem?_eq_some_iff.mp hx).1;have ak:j<xs.length:=by omega
    obtain⟨u,hu,ru⟩:=rv.get (Q03 ak);rw[hx] at hu;cases hu;refine Q01 (wpAny_attempt (Q0s (turn _ s' H' ks (xs[j]) x J wk (by rw[hi];exact Q03 ak) ru) (λk Y hk=>?_) λ_ _ hF=>hF.elim));obtain⟨kv,aa,J',ao,w'⟩:=hk;have pk:=J'.pin (kS,lo us e) (Q08 _ (Q08 _ (Q02)));have pD:=J'.pin (D,lo [] e1) (Q08 _ (Q08 _ (Q07 _ Q02)));have au:us.length=ks.length:=rk.length.symm;have s2:=Heap.SameBut.update Y.heap kS (Obj.mapSeq (·.push k));have ea:(List.toArray us).push k=List.toArray (us++[k]):=by simp
    obtain⟨c2,ap⟩:∃c2,(Y.heap.update kS (Obj.mapSeq (·.push k))).get? kS=some (lo (us++[k]) c2):=⟨_,by show _=some (seqObj "list" (List.toArray (us++[k])) _);rw[<-ea];exact get?_update_seq pk.1 (·.push k)⟩
    try dsimp only
    refine Q01 (listUpdate_at pk.1 rfl ?_ (by rw[Q06,sizeLine_eq];omega) (Q0d (Q1w (Array.size_push ..)) (by rw[Q06,sizeLine_eq];omega)));have J2:Inv X pins σ aa { Y with heap:=Y.heap.update kS (Obj.mapSeq (·.push k)) }:=J'.mE.own (t':=Y.toks) (own (.inl rfl) pk.2.1) s2;refine Q0e ⟨rfl,ks++[kv],us++[k],c2,aa,pinned J2 ap ((s2.2 D ai.symm).trans pD.1) pk.2.1 pD.2.1,rk.append (.cons ao .nil),by rw[Q09,Q1m];omega,by omega,w'⟩
  . obtain⟨ks,us,e,H',J,rk,hi,an,wk⟩:=hJ;have hi:ks.length=vs.length:=by omega
    have pk:=J.pin (kS,lo us e) (Q08 _ (Q08 _ (Q02)));have pD:=J.pin (D,lo [] e1) (Q08 _ (Q08 _ (Q07 _ Q02)))
    try dsimp only
    refine Q01 (listItems_at pk.1 rfl ?_);obtain⟨O,key,ask,q⟩:=fin _ s' H' ks us J wk (by omega) rk;refine JK J (own (.inl rfl) pk.2.1) (own (.inr rfl) pD.2.1) ai (by rw[<-rk.length];exact hi) (by omega) rv ask λp p1 p2 Y J'=>?_;exact⟨_,rfl,Q0e ⟨_,rfl,.ref D,_,J',rfl,q p (by rw[hl];exact p1) p2 D pD.2.1⟩⟩
theorem C6 {E:Value->Shared->Prop}{f a:Addr}{xs:List V}{Q:VK}{W:List V->Hp->Prop}(I:Inv X pins σ H s)(U:f_ X.K H a xs)(J:xs.length<64)(Y:W [] H)
 (turn:∀(pl:List (Addr × Obj)) (s':Shared) (H':Hp) (ks:List V) (y:V) (u:Value),Inv X (pins++pl) σ H' s'->W ks H'->xs[ks.length]? =some y->RelV y u->
   wpAny (model X.prog X.w) X.A.in1.in1 (call (.ref f) [u]) (EP X (pins++pl) σ λk L=>W (ks++[k]) L) (λ_ _=>False) s')
 (fin:∀(pl:List (Addr × Obj)) (s':Shared) (H':Hp) (ks:List V) (us:List Value),Inv X (pins++pl) σ H' s'->W ks H'->ks.length=xs.length->Vals ks us->∃(O:KeyOrd) (key:Nat->O.α),Asks X.prog X.w X.A.in1.in1 s' us key/\
   ∀p:List Nat,p.Perm (List.range xs.length)->(p.map key).Pairwise O.kle->∀D,H' D=none->Q (.ref D) (upd H' D (.lst (p.map λi=>xs.getD i .non)))):
 wpAny (model X.prog X.w) X.A (call (.builtin "sorted") [.ref a] [(Str.ofString "key",.ref f)]) (EP X pins σ Q) E s:=JM I (.inl U) J Y turn fin
end
noncomputable def jL:Key->Key->Bool
 | .inl i,.inl j=>decide (i<j)
 | .inl _,.inr _=>true
 | .inr _,.inl _=>false
 | .inr x,.inr y=>decide (x.cps.toList<y.cps.toList)
theorem JN (a:Key):jL a a=false:=by
 cases a with
 |inl i=>simp[jL]
 |inr x=>simpa[jL] using Q37 x.cps.toList
theorem JO {a b c:Key}(h1:jL a b=true)(h2:jL b c=true):jL a c=true:=by
 cases a <;> cases b <;> cases c <;> simp only[jL,decide_eq_true_eq,Bool.false_eq_true] at * <;> first|omega|exact List.lt_trans h1 h2
theorem JP {x y:Str}(h:x.cps.toList=y.cps.toList):x=y:=by
 cases x;cases y;simp only[Str.mk.injEq];exact Array.toList_inj.mp h
theorem JQ (a b:Key):jL a b=true\/a=b\/jL b a=true:=by
 cases a with
 |inl i=>
  cases b with
  |inl j=>
   simp only[jL,decide_eq_true_eq];rcases Int.lt_trichotomy i j with h|h|h
   . exact .inl h
   . exact .inr (.inl (by rw[h]))
   . exact .inr (.inr h)
  |inr y=>exact .inl rfl
 |inr x=>
  cases b with
  |inl j=>exact .inr (.inr rfl)
  |inr y=>
   simp only[jL,decide_eq_true_eq];by_cases h1:x.cps.toList<y.cps.toList
   . exact .inl h1
   . by_cases h2:y.cps.toList<x.cps.toList
     . exact .inr (.inr h2)
     . exact .inr (.inl (by rw[JP (List.le_antisymm (List.not_lt.mp h2) (List.not_lt.mp h1))]))
theorem JR {a b:Key}(h:jL a b=true):a≠b:=λe=>by
 rw[e,JN] at h;cases h
noncomputable def iq:List Key->List Key->Bool
 |[],[]=>false
 |[],_::_=>true
 |_::_,[]=>false
 |x::xs,y::ys=>if x=y then iq xs ys else jL x y
theorem ra:∀a:List Key,iq a a=false
 |[]=>rfl
 |x::xs=>by
  show(if x=x then iq xs xs else jL x x)=false;rw[if_pos rfl];exact ra xs
theorem nE (x y:Key)(xs ys:List Key):iq (x::xs) (y::ys)=if x=y then iq xs ys else jL x y:=rfl
theorem oO:∀(a b c:List Key),iq a b=true->iq b c=true->iq a c=true
 |[],[],_,h,_=>by cases h
 |[],_::_,[],_,h=>by cases h
 |[],_::_,_::_,_,_=>rfl
 |_::_,[],_,h,_=>by cases h
 |_::_,_::_,[],_,h=>by cases h
 |x::xs,y::ys,z::zs,h1,h2=>by
  rw[nE] at *;by_cases J:x=y
  . subst J;rw[if_pos rfl] at h1;by_cases I:x=z
    . rw[if_pos I] at h2 ⊢;exact oO xs ys zs h1 h2
    . rw[if_neg I] at h2 ⊢;exact h2
  . rw[if_neg J] at h1;by_cases I:y=z
    . subst I;rw[if_neg J];exact h1
    . rw[if_neg I] at h2;have q:=JO h1 h2;rw[if_neg (JR q)];exact q
theorem pN:∀a b:List Key,iq a b=true\/a=b\/iq b a=true
 |[],[]=>.inr (.inl rfl)
 |[],_::_=>.inl rfl
 |_::_,[]=>.inr (.inr rfl)
 |x::xs,y::ys=>by
  rw[nE,nE];by_cases e:x=y
  . subst e;rw[if_pos rfl,if_pos rfl];rcases pN xs ys with h|h|h
    . exact .inl h
    . exact .inr (.inl (by rw[h]))
    . exact .inr (.inr h)
  . rw[if_neg e,if_neg (λz=>e z.symm)];rcases JQ x y with h|h|h
    . exact .inl h
    . exact absurd h e
    . exact .inr (.inr h)
@[reducible] noncomputable def pO:KeyOrd where
  α:=List Key
  blt:=iq
  irrefl:=ra
  trans:=oO
  negTrans a b c h:=by
   rcases pN a b with q|q|q
   . exact .inl q
   . exact .inr (by rw[<-q];exact h)
   . exact .inr (oO b a c q h)
  total a b h1 h2:=by
   rcases pN a b with q|q|q
   . rw[h1] at q;cases q
   . exact q
   . rw[h2] at q;cases q
def lr (a b:List Key):Prop:=iq b a=false
noncomputable def iK:Key->Bool
 | .inl _=>true
 | .inr _=>false
def C7 (I:List (List Key)):Prop:=∃J:List Bool,J≠[]/\∀L∈I,L.map iK=J
def oP (H:Hp):List V->List (List Key)->Prop:=Paired λk I=>∃p,k=.ref p/\H p=some (.tup (I.map kV))
section
variable {X:Cx}{pins:List (Addr × Obj)}{σ:St}{H:Hp}{s:Shared}
theorem oQ {k:Key}{u:Value}(r:RelV (kV k) u):(∃i t,k=.inl i/\u=.int i t)\/∃x t,k=.inr x/\u=.str x t:=by
 cases k with
 |inl i=>
  obtain⟨t,rfl⟩:=r;exact .inl ⟨i,t,rfl,rfl⟩
 |inr x=>
  obtain⟨t,rfl⟩:=r;exact .inr ⟨x,t,rfl,rfl⟩
theorem vF {prog:Program}{w:World}{A:Around}{C:Bool->Shared->Prop}:∀(L U:List Key) (I J:List Value) (i:Nat),Vals (L.map kV) I->Vals (U.map kV) J->L.map iK=U.map iK->C (iq L U) s->
 W.KatLex prog w A true false C (I.zip J) i s
 |[],[],I,J,i,Y,r2,_,q=>by
  cases Y;cases r2;exact W.kat_nil q
 |[],_::_,_,_,_,_,_,h,_=>by cases h
 |_::_,[],_,_,_,_,_,h,_=>by cases h
 |x::xs,y::ys,I,J,i,Y,r2,h,q=>by
  cases Y with
  |cons a1 b1=>
  cases r2 with
  |cons a2 b2=>
  have h1:iK x=iK y:=(List.cons.inj h).1;have h2:xs.map iK=ys.map iK:=(List.cons.inj h).2;rw[nE] at q;rcases oQ a1 with⟨m,t,rfl,rfl⟩|⟨m,t,rfl,rfl⟩ <;> rcases oQ a2 with⟨n,t',rfl,rfl⟩|⟨n,t',rfl,rfl⟩
  . refine W.kat_cons (wpAny_eqBool_int ?_);by_cases e:m=n
    . subst e;rw[if_pos rfl] at q;rw[beq_self_eq_true];exact W.kat_yes (vF xs ys _ _ (i+1) b1 b2 h2 q)
    . rw[if_neg (λz=>e (Sum.inl.inj z))] at q;rw[beq_false_of_ne e];refine W.kat_no ?_
      cases hi:(i == 0) with
      |true=>exact oneLt_int q
      |false=>exact W.kat_one _ _ (lt_int q)
  . cases h1
  . cases h1
  . refine W.kat_cons (wpAny_eqBool_str ?_);by_cases e:m=n
    . subst e;rw[if_pos rfl] at q;rw[decide_eq_true rfl];exact W.kat_yes (vF xs ys _ _ (i+1) b1 b2 h2 q)
    . rw[if_neg (λz=>e (Sum.inr.inj z))] at q;rw[decide_eq_false e];refine W.kat_no ?_
      cases hi:(i == 0) with
      |true=>exact oneLt_str q
      |false=>exact W.kat_one _ _ (lt_str q)
theorem C8 {ks:List V}{us:List Value}{J:List (List Key)}(I:Inv X pins σ H s)(r:Vals ks us)(U:oP H ks J){i:Nat}(hi:i<us.length):
 ∃p L,us.getD i Value.none=.ref p/\IsTup s.heap p (List.toArray L)/\Vals ((J.getD i []).map kV) L/\J.getD i []∈J:=by
 have hl:=r.length;have aa:ks.length=J.length:=Paired.length U;have e1:ks[i]? =some (ks[i]'(by omega)):=Q03 (by omega);obtain⟨u,hu,Y⟩:=r.get e1;have e2:J.getD i []=J[i]'(by omega):=by rw[Q05,Q03 (by omega)];rfl
 have key:∀(ks:List V) (J:List (List Key)),oP H ks J->∀i (h1:i<ks.length) (h2:i<J.length),∃p,ks[i]=.ref p/\H p=some (.tup (J[i].map kV)):=by
  intro ks J U
  induction U with
  |nil=>intro i h1;simp at h1
  |cons a b ih=>
   intro i h1 h2
   cases i with
   |zero=>exact a
   |succ i=>simpa using ih i (by simpa using h1) (by simpa using h2)
 obtain⟨p,hp,hH⟩:=key ks J U i (by omega) (by omega);rw[hp] at Y
 cases Y;obtain⟨L,rv,tp,_⟩:=I.tuple (f9.of hH);refine⟨p,L,by rw[Q05,hu];rfl,tp,by rw[e2];exact rv,by rw[e2];exact Q0r _⟩
theorem C9 (I:Inv X pins σ H s){t:Bool}:∀{ks:List V}{us:List Value}{J:List (List Key)},Vals ks us->oP H ks J->(∀L∈J,∃k r,L=k::r/\iK k=t)->
 ∃fs,W.KatTups s.heap us fs/\fs.length=us.length/\∀v∈fs,(t=true/\∃i tk,v=.int i tk)\/(t=false/\∃x tk,v=.str x tk)
 |_,_,_,.nil,.nil,_=>⟨[],W.KatTups.nil,rfl,λv U=>nomatch U⟩
 |_,_,_,.cons a r,.cons b q,h=>by
  obtain⟨p,rfl,hp⟩:=b
  cases a;obtain⟨fs,f1,f2,f3⟩:=C9 I r q λL hm=>h L (Q07 _ hm);obtain⟨k,rr,rfl,Y⟩:=h _ Q02;obtain⟨aa,rv,⟨o,ho,hc,n,hd⟩,_⟩:=I.tuple (f9.of hp)
  cases rv with
  |cons a1 b1=>
   refine⟨_::fs,W.KatTups.cons ho hc hd (by simp;rfl) f1,by rw[Q0k,Q0k,f2],λv U=>?_⟩;rcases List.mem_cons.mp U with e|e
   . subst e;rcases oQ a1 with⟨i,tk,rfl,rfl⟩|⟨x,tk,rfl,rfl⟩
     . exact .inl ⟨Y.symm,i,tk,rfl⟩
     . exact .inr ⟨Y.symm,x,tk,rfl⟩
   . exact f3 v e
theorem JS {A:Around}{ks:List V}{us:List Value}{J:List (List Key)}(I:Inv X pins σ H s)(r:Vals ks us)(hk:oP H ks J)(aa:C7 J):Asks X.prog X.w A s us (O:=pO) (λi=>J.getD i []):=by
 intro h2;obtain⟨ts,ab,L⟩:=aa
 obtain⟨t,tr,rfl⟩:∃t tr,ts=t::tr:=by
  cases ts with
  |nil=>exact absurd rfl ab
  |cons t tr=>exact⟨t,tr,rfl⟩
 have hh:∀kl∈J,∃k r,kl=k::r/\iK k=t:=λkl hm=>by
  have e:=L kl hm
  cases kl with
  |nil=>cases e
  |cons k r=>exact⟨k,r,rfl,(List.cons.inj e).1⟩
 obtain⟨fs,f1,f2,f3⟩:=C9 I r hk hh
 have fin:∀(i j:Nat) (C:Bool->Shared->Prop),i<us.length->j<us.length->C (iq (J.getD i []) (J.getD j [])) s->W.kas_ask X.prog X.w A (tuples' true) us i j C s:=by
  intro i j C hi hj q;unfold W.kas_ask;obtain⟨p,U,e1,⟨o,ho,hc,n,hd⟩,rv,m1⟩:=C8 I r hk hi;obtain⟨p',its',ac,⟨o',ae,ag,n',af⟩,Y,m2⟩:=C8 I r hk hj;rw[e1,ac];have ht:(J.getD i []).map iK=(J.getD j []).map iK:=(L _ m1).trans (L _ m2).symm
  have hl:U.length=its'.length:=by
   have:=congrArg List.length ht;rw[Q0,Q0] at this;rw[<-rv.length,<-Y.length,Q0,Q0,this]
  refine W.kat_lt ho hd ae af ?_;have ef:decide ((List.toArray U).size<(List.toArray its').size)=false:=by rw[Q06,Q06,hl];simp
  rw[ef];exact vF _ _ _ _ 0 rv Y ht q
 cases t with
 |true=>
  refine W.kat_kind (T:=.type "int") f1 (by omega) (λv hv=>?_) rfl ⟨rfl,fin⟩;rcases f3 v hv with⟨_,i,tk,rfl⟩|⟨z,_⟩
  . exact W.Looks.of_pure rfl
  . cases z
 |false=>
  refine W.kat_kind (T:=.type "str") f1 (by omega) (λv hv=>?_) rfl ⟨rfl,fin⟩;rcases f3 v hv with⟨z,_⟩|⟨_,x,tk,rfl⟩
  . cases z
  . exact W.Looks.of_pure rfl
end
def sW (K:PySem.W.Frag) (P:Addr) (L:Pos) (qual:Str) (te:TE) (σ:St) (Q:VK):VK:=λx H1=>∃a xs,x=.ref a/\f_ K H1 a xs/\xs.length<64/\gy P L qual H1/\
 ∀c' H2,mN P L qual c' H2->(∀b o,b≠P->H1 b=some o->H2 b=some o)->
 ∃W:List V->Hp->Prop,W [] H2/\(∀ks I,W ks I->mN P L qual c' I)/\(∀ks I y,W ks I->xs[ks.length]? =some y->te (some y::σ) I λk U=>W (ks++[k]) U)/\
 ∀ks I,W ks I->ks.length=xs.length->∃J,oP I ks J/\C7 J/\∀p:List Nat,p.Perm (List.range xs.length)->(p.map λi=>J.getD i []).Pairwise lr->∀D,I D=none->Q (.ref D) (upd I D (.lst (p.map λi=>xs.getD i .non)))
def JT (K:W.Frag) (P:Addr) (I:Pos) (qual:Str) (tl te:TE):TE:=λσ H Q=>tl σ H (sW K P I qual te σ Q)
section
variable {X:Cx}
theorem sX {x:Str}{N':List Str}{l body:Expr}{L:Arguments}{scope:Scope}{lp kp p pos:Pos}{qual:Str}{c P:Addr}{tl te:TE}{k:Nat}(hg:Gl X "sorted")(hm:X.mg "sorted"=none)(hv:bootBuiltins "sorted"=some (.builtin "sorted"))(hr:ig k X.A)(hq:X.env.qual++"<lambda>"=qual)(Y:X.env.code=.ref c)(C:PySem.W.CodeHd X.base c P)
 (B:BM X.mg X.base) (S:kU X x N' scope) (ab:defaultsOf L X.env=([],[])) (hb:∀(cl:List (Str × Addr)) (pm:Value) (c':Addr) (U u:Value),bindArgs (PySem.W.kla_fn "<lambda>" qual L body scope cl pm (.ref c') U) ⟨[u],[]⟩=pure [(x,u)])
 (hl:PE X l tl) (he:∀(cl:List (Str × Addr)) (f c':Addr) (s:Shared) (H:Hp),PE (q_ X x N' scope cl qual f c' s H) body te) (hs:starEach [l] X.env=[(false,eval l X.env)]:=by rfl):
 PE X (.Call (.Name "sorted" p) [l] [⟨some "key",.Lambda L body scope lp,kp⟩] pos) (JT X.K P lp qual tl te):=by
 intro pins s σ H Q I h;refine wpAny_Call_Name_kw (mC I hg hm hv ?_);have ha:PA X [l] (i5 tl j2):=a_ hl b_ (by rw[hs];rfl);refine callWith_kw (gB (ha pos pins s σ H (λvs H1=>match vs with|[x]=>sW X.K P lp qual te σ Q x H1|_=>False) I h) λus s1 zq=>?_) (by rw[hs];rfl) (by rw[hs];rfl);obtain⟨vs,H1,I1,r1,q1⟩:=zq
 obtain⟨x',rfl⟩:∃x',vs=[x']:=by
  match vs,q1 with
  |[x'],_=>exact⟨x',rfl⟩
 have q1:sW X.K P lp qual te σ Q x' H1:=q1;obtain⟨a,xs,rfl,ag,ah,T,cont⟩:=q1;obtain⟨u,rfl,ru⟩:=vals1 r1
 cases ru;show wpAny _ _ (evalAll [do let v <-eval (.Lambda L body scope lp) X.env;standAt pos;pure v]) _ _ s1;obtain⟨cl,aa,ac,ae⟩:=sQ (scope:=scope) (env:=X.env) λy hy hf=>I1.ok.has y.1 (S.free y hy hf);refine wpAny_evalAll_cons (Q01 (PySem.W.kla_eval ab ?_));rw[hq];refine CY I1 Y C B T aa λf c' pm U H2 s2 I2 ai mono=>?_;refine Q01 (wpAny_standAt (Q0e (wpAny_evalAll_nil ?_)));show wpAny _ _ (call (.builtin "sorted") [.ref a] [(Str.ofString "key",.ref f)]) _ _ s2;obtain⟨W,w0,wL,wt,wf⟩:=cont c' H2 ai mono
 have aj:∃ps,H1 P=some (.iJ ps):=by
  rcases T with e|⟨al,e,_⟩
  . exact⟨_,e⟩
  . exact⟨_,e⟩
 have ak:f_ X.K H2 a xs:=by
  obtain⟨ps,hP⟩:=aj;rcases ag with(z|⟨o,z⟩)|z
  . exact .inl (.inl (mono a _ (gR z hP (by intro z;cases z)) z))
  . exact .inl (.inr ⟨o,mono a _ (gR z hP (by intro z;cases z)) z⟩)
  . exact .inr z
 refine gB (C6 (Q:=Q) (W:=W) I2 ak ah w0 (λpl s' H' ks y u J wk hy ry=>?_) λpl s' H' ks us J wk af rk=>?_) λr s' ⟨v,H',J,rv,q⟩=>⟨v,H',J.mE,rv,q⟩
 . exact C2 J S hr.hd hr.depth ac ae (Q0t _ (Q08 _ Q02)) (wL ks H' wk).2 (hb cl pm c' U) ry (he cl f c') (wt ks H' y wk hy)
 . obtain⟨am,k1,k2,k3⟩:=wf ks H' wk af;exact⟨pO,_,JS J rk k1 k2,λp p1 p2 D hD=>k3 p p1 p2 D hD⟩
end
noncomputable def C_ (K:W.Frag) (a b:Addr):It:=
 ⟨λi H=>∃xs ys x y,f_ K H a xs/\f_ K H b ys/\xs[i]? =some x/\ys[i]? =some y,
  λi H v H'=>∃p x y,H p=none/\v=.ref p/\(∀xs,f_ K H a xs->xs[i]? =some x)/\(∀ys,f_ K H b ys->ys[i]? =some y)/\H'=upd H p (.tup [x,y]),
  λi H=>∃xs ys,f_ K H a xs/\f_ K H b ys/\(xs.length<=i\/ys.length<=i)⟩
theorem JU {P:Program}{w:World}{K:W.Frag}{ai:List Expr}{k:Nat}{tpos:Pos}{z TI TO J L l1 l2:Addr}(D:ZipApart z TI TO J L l1 l2):
 Turn P w K (.Tuple ai k tpos) (C_ K l1 l2) [z,TI,TO,J,L] z (λi h=>∃oa ob,IsZip h z TI TO .none/\IsPair h TI (.ref J) (.ref L)/\IsPair h TO oa ob/\h.IsListIter J l1 i/\h.IsListIter L l2 i) where
 mem:=by simp
 obj:=λi h st b U=>by
  obtain⟨oa,ob,h1,h2,h3,h4,h5⟩:=st;have U:b=z\/b=TI\/b=TO\/b=J\/b=L:=by simpa using U
  rcases U with rfl|rfl|rfl|rfl|rfl
  . exact⟨_,h1,λv y=>by
     have y:Data.fields _=Data.cell v:=y
     cases y⟩
  . exact⟨_,h2,λv y=>by
     have y:Data.seq _ _=Data.cell v:=y
     cases y⟩
  . exact⟨_,h3,λv y=>by
     have y:Data.seq _ _=Data.cell v:=y
     cases y⟩
  . obtain⟨o,q,c,d⟩:=h4;exact⟨o,q,λv y=>by rw[d] at y;cases y⟩
  . obtain⟨o,q,c,d⟩:=h5;exact⟨o,q,λv y=>by rw[d] at y;cases y⟩
 keep:=λi h h' st k=>by
  obtain⟨oa,ob,h1,h2,h3,h4,h5⟩:=st;exact⟨oa,ob,k z (by simp) _ h1,k TI (by simp) _ h2,k TO (by simp) _ h3,h4.at λo q=>k J (by simp) o q,h5.at λo q=>k L (by simp) o q⟩
 item:=by
  intro X hP hw hK hc i pins s σ H E I Y st hg;subst hP hw hK;obtain⟨oa,ob,h1,h2,h3,h4,h5⟩:=st;obtain⟨xs,ys,x,y,aa,ab,hx,hy⟩:=hg;obtain⟨aj,ae,p1,am⟩:=I.list aa;obtain⟨ak,af,p2,an⟩:=I.list ab;obtain⟨u1,ao,ap⟩:=ae.get hx;obtain⟨u2,aq,ar⟩:=af.get hy;have fr:H s.heap.objs.size=none:=I.hok.fresh (Q00 _);refine wpAny_pyNext_zip_item D h1 h2 h3 h4 h5 p1.isList p2.isList (x:=u1) (y:=u2) (by simpa using ao) (by simpa using aq) λh' q1 q2 q3 q4 q5 q6 q7=>?_;refine⟨_,rfl,wpAny_letOwnedTupleGo_zip (s:={ s with heap:=h' }) q1 λac g1 g2=>?_⟩
  have au:∀b∈[z,TI,TO,J,L],b<s.heap.objs.size:=λb U=>by
   have U:b=z\/b=TI\/b=TO\/b=J\/b=L:=by simpa using U
   rcases U with rfl|rfl|rfl|rfl|rfl
   . exact Q04 h1
   . exact Q04 h2
   . exact Q04 h3
   . obtain⟨o,q,_⟩:=h4;exact Q04 q
   . obtain⟨o,q,_⟩:=h5;exact Q04 q
  have av:∀b o,s.heap.get? b=some o->b≠s.heap.objs.size:=λb o q=>Q0c (Q04 q);have kk:∀b o,b≠z->b≠TO->b≠J->b≠L->s.heap.get? b=some o->ac.get? b=some o:=λb o n1 n2 n3 n4 q=>g2.extBut b o n1 (q7 b o n1 n2 n3 n4 q);have kn:∀b o,b ∉ [z,TO,J,L]->s.heap.get? b=some o->ac.get? b=some o:=λb o n q=>kk b o (λy=>n (by simp[y])) (λy=>n (by simp[y])) (λy=>n (by simp[y])) (λy=>n (by simp[y])) q;have tup:ac.get? s.heap.objs.size=some { cls:=.type "tuple",data:=.seq #[u1,u2] }:=g2.extBut _ _ (Q0x (Q04 h1)) q5
  have I1:Inv X pins σ (upd H s.heap.objs.size (.tup [x,y])) { s with heap:=ac }:=by
   refine I.step (g':=s.gens) (d':=s.drawn) (t':=s.toks) (ch:=[z,TO,J,L]) (λb U=>?_) (λb o _ _ hc q _=>kn b o hc q) (λb o _ _ hc q _=>⟨o.slots,kn b o hc q⟩) (λb o _ q n=>?_) (λb o hc q=>⟨o,kn b o hc q⟩) (λb ws q=>?_) (λb o v q=>?_) (λb ps q=>?_) (λm hm=>?_) (λb o q=>?_) I.bare
   . have ag:b∈[z,TI,TO,J,L]:=by
      have U:b=z\/b=TO\/b=J\/b=L:=by simpa using U
      rcases U with rfl|rfl|rfl|rfl <;> simp
     obtain⟨f0,f1,f2,f3,f4,f5⟩:=Y b ag;exact⟨f3,f1,f4,f5⟩
   . rw[d_ (av b o q)];exact n
   . rw[d_ (gz q fr)];exact q
   . rw[d_ (gz q fr)];exact q
   . exact⟨#[],by rw[d_ (gz q fr),q];simp⟩
   . obtain⟨o,es,ep,ho,r⟩:=hm;exact⟨o,es,ep,kk _ o (Ne.symm (Y z (by simp)).2.1) (Ne.symm (Y TO (by simp)).2.1) (Ne.symm (Y J (by simp)).2.1) (Ne.symm (Y L (by simp)).2.1) ho,r⟩
   . by_cases U:b=s.heap.objs.size
     . subst U;rw[gh] at q;cases q;exact⟨yX,[u1,u2],.cons ap (.cons ar .nil),⟨_,tup,rfl,_,rfl⟩⟩
     . rw[d_ U] at q
       have nn:∀c v,H c=some v->c ∉ [z,TO,J,L]:=λc v e hm=>by
        have aw:c∈[z,TI,TO,J,L]:=by
         have hm:c=z\/c=TO\/c=J\/c=L:=by simpa using hm
         rcases hm with rfl|rfl|rfl|rfl <;> simp
        have:=(Y c aw).1;rw[e] at this;cases this
       refine(I.hok b o q).stay (λc v ah y=>kn c v ?_ y) (λc y=>by rw[d_ (gz y fr)];exact y) λc ws y=>by rw[d_ (gz y fr)];exact y
       rcases ah with y|y
       . rw[y];exact nn b o q
       . exact nn c _ y
  refine⟨.ref s.heap.objs.size,_,I1,rfl,⟨s.heap.objs.size,x,y,fr,rfl,λws hw=>by rw[I.sd hw aa];exact hx,λws hw=>by rw[I.sd hw ab];exact hy,rfl⟩,⟨u1,u2,g1,?_,?_,?_,?_⟩,λb U=>?_⟩
  . exact kk TI _ D.TIz D.TITO D.TIi1 D.TIi2 h2
  . exact g2.extBut _ _ D.TOz q2
  . exact q3.at λo q=>g2.extBut _ _ D.i1z q
  . exact q4.at λo q=>g2.extBut _ _ D.i2z q
  . rw[d_ (Q0c (au b U))];exact(Y b U).1
 done:=by
  intro X hP hw hK hc i pins s σ H E I Y st hg;subst hP hw hK;obtain⟨oa,ob,h1,h2,h3,h4,h5⟩:=st;obtain⟨xs,ys,aa,ab,al⟩:=hg;obtain⟨aj,ae,p1,am⟩:=I.list aa;obtain⟨ak,af,p2,an⟩:=I.list ab;have e1:=ae.length;have e2:=af.length
  refine wpAny_pyNext_zip_end (I.ok.hd hc) D h1 h2 h3 h4 h5 p1.isList p2.isList (by
   rcases al with q|q
   . exact .inl (by simp;omega)
   . exact .inr (by simp;omega)) λh' hk=>⟨rfl,?_⟩
  refine I.step (g':=s.gens) (d':=s.drawn) (t':=s.toks) (ch:=[z,TO,J,L]) (λb U=>?_) (λb o _ _ hc q _=>?_) (λb o _ _ hc q _=>?_) (λb o _ q n=>n) (λb o hc q=>?_) (λb ys q=>q) (λb o v q=>q) (λb ps q=>⟨#[],by rw[q];simp⟩) (λm hm=>?_) (λb o q=>?_) I.bare
  . have ag:b∈[z,TI,TO,J,L]:=by
     have U:b=z\/b=TO\/b=J\/b=L:=by simpa using U
     rcases U with rfl|rfl|rfl|rfl <;> simp
    obtain⟨f0,f1,f2,f3,f4,f5⟩:=Y b ag;exact⟨f3,f1,f4,f5⟩
  . exact hk b o (λy=>hc (by simp[y])) (λy=>hc (by simp[y])) (λy=>hc (by simp[y])) (λy=>hc (by simp[y])) q
  . exact⟨o.slots,hk b o (λy=>hc (by simp[y])) (λy=>hc (by simp[y])) (λy=>hc (by simp[y])) (λy=>hc (by simp[y])) q⟩
  . exact⟨o,hk b o (λy=>hc (by simp[y])) (λy=>hc (by simp[y])) (λy=>hc (by simp[y])) (λy=>hc (by simp[y])) q⟩
  . obtain⟨o,es,ep,ho,r⟩:=hm;exact⟨o,es,ep,hk _ o (Ne.symm (Y z (by simp)).2.1) (Ne.symm (Y TO (by simp)).2.1) (Ne.symm (Y J (by simp)).2.1) (Ne.symm (Y L (by simp)).2.1) ho,r⟩
  . have nn:∀c v,H c=some v->∀y∈[z,TI,TO,J,L],c≠y:=λc v e y hy=>gz e (Y y hy).1;refine(I.hok b o q).stay (λc v ah y=>hk c v ?_ ?_ ?_ ?_ y) (λ_ y=>y) λ_ _ y=>y <;> (rcases ah with y|y)
    all_goals first
     |(rw[y];exact nn b o q _ (by simp))
     |exact nn c _ y _ (by simp)
 self:=λA i s Q E st q=>by
  obtain⟨oa,ob,h1,_⟩:=st;exact wpAny_pyIter_zip h1 q
def JV (K:W.Frag) (ta:TA):TI:=λσ H R=>ta σ H λvs H1=>∃a b,vs=[.ref a,.ref b]/\(∃xs,f_ K H1 a xs)/\(∃ys,f_ K H1 b ys)/\R (C_ K a b) H1
section
variable {X:Cx}
theorem Dd {aa:List Expr}{k:Nat}{tpos:Pos}{a b:Expr}{ta:TA}{p pos:Pos}(hg:Gl X "zip")(hm:X.mg "zip"=none)(ha:PA X [a,b] ta)(hs:starEach [a,b] X.env=[(false,eval a X.env),(false,eval b X.env)]:=by rfl)
 (Y:starEach [b] X.env=[(false,eval b X.env)]:=by rfl):PI X (.Tuple aa k tpos) (.Call (.Name "zip" p) [a,b] [] pos) (JV X.K ta):=by
 intro pins s σ H R I h;refine Call_ (mC I hg hm boot_zip (PyProof.Rows.callWith_type1 (gB (ha pos pins s σ H _ I h) λus J zq=>?_) (by rw[hs,Y]) (by rw[Y];rfl)));obtain⟨vs,H1,U,r1,q1⟩:=zq;obtain⟨l1,l2,e,⟨xs,ab⟩,⟨ys,ac⟩,q⟩:=q1;subst e;obtain⟨u1,u2,rfl,ae,af⟩:=vals2 r1
 cases ae
 cases af;obtain⟨ag,ai,p1,aj⟩:=U.list ab;obtain⟨ah,ak,p2,al⟩:=U.list ac;have a1:l1<J.heap.objs.size:=by obtain⟨_,e,_⟩:=p1.isList;exact Q04 e
 have a2:l2<J.heap.objs.size:=by obtain⟨_,e,_⟩:=p2.isList;exact Q04 e
 refine call_zip_2 p1.isList p2.isList λh' q1 q2 q3 q4 q5 q6 q7=>?_;refine wpAny_pyIter_zip q1 ?_;have I2:Inv X pins σ H1 { J with heap:=h' }:=U.kept (t':=J.toks) q7
 have Dz:ZipApart (J.heap.objs.size+4) (J.heap.objs.size+2) (J.heap.objs.size+3) J.heap.objs.size (J.heap.objs.size+1) l1 l2:=by
  have b1:@LT.lt Nat _ l1 J.heap.objs.size:=a1;have b2:@LT.lt Nat _ l2 J.heap.objs.size:=a2;constructor <;> (intro z;have z':(_:Nat)=_:=z;omega)
 refine⟨J.heap.objs.size+4,[J.heap.objs.size+4,J.heap.objs.size+2,J.heap.objs.size+3,J.heap.objs.size,J.heap.objs.size+1],_,_,H1,rfl,I2,JU Dz,⟨.none,.none,q1,q2,q3,q4,q5⟩,λb L=>?_,q⟩
 have L:J.heap.objs.size<=b:=by
  have L:b=J.heap.objs.size+4\/b=J.heap.objs.size+2\/b=J.heap.objs.size+3\/b=J.heap.objs.size\/b=J.heap.objs.size+1:=by simpa using L
  rcases L with z|z|z|z|z <;> rw[z]
  . exact Q1q _ _
  . exact Q1q _ _
  . exact Q1q _ _
  . exact Q00 _
  . exact Q1q _ _
 exact U.nh L (U.hok.fresh L)
end
end L2
namespace HT
open PyProof.Rows L2
section
open SeqAt
open PySem.AutoSeq1 (wpAny_loadPart')
open MeetsSeq MeetsSeq2 MeetsSeq3
inductive KeysAre:List Value->List Key->Prop
 |nil:KeysAre [] []
 |cons {u:Value} {k:Key} {us:List Value} {ks:List Key}:RelV (kV k) u->KeysAre us ks->KeysAre (u::us) (k::ks)
theorem KeysAre.of:∀{ks:List Key}{us:List Value},Vals (ks.map kV) us->KeysAre us ks
 |[],_,r=>by cases r;exact .nil
 |k::ks,_,r=>by
  cases r with
  |cons a b=>exact .cons a (KeysAre.of b)
theorem KeysAre.length:∀{us:List Value}{ks:List Key},KeysAre us ks->us.length=ks.length
 |_,_,.nil=>rfl
 |_,_,.cons _ h=>by rw[Q0k,Q0k,h.length]
theorem JW (A:Around)(s:Shared){k j:Key}{u v:Value}(r:RelV (kV k) u)(q:RelV (kV j) v)(ht:iK k=iK j):∃e,SeqAt.EqAt A s u v e/\(e=true↔k=j):=by
 rcases oQ r with⟨m,t,rfl,rfl⟩|⟨m,t,rfl,rfl⟩ <;> rcases oQ q with⟨n,t',rfl,rfl⟩|⟨n,t',rfl,rfl⟩
 . exact⟨m == n,SeqAt.EqAt.int_int m t n t',by simp⟩
 . cases ht
 . cases ht
 . exact⟨m == n,SeqAt.EqAt.str_str m t n t',by simp⟩
theorem JX (A:Around)(s:Shared){k j:Key}{u v:Value}(r:RelV (kV k) u)(q:RelV (kV j) v)(ht:iK k=iK j)(prog:Program)(w:World)(E:Value->Shared->Prop)(Q:Value->Shared->Prop)(h:Q (.bool (!jL j k)) s):
 wpAny (model prog w) A (richCompare .LtE u v) Q E s:=by
 rcases oQ r with⟨m,t,rfl,rfl⟩|⟨m,t,rfl,rfl⟩ <;> rcases oQ q with⟨n,t',rfl,rfl⟩|⟨n,t',rfl,rfl⟩
 . have e:(!jL (.inl n) (.inl m))=decide (m<=n):=by
    show(!decide (n<m))=decide (m<=n);rw[<-decide_not];exact decide_eq_decide.mpr Int.not_lt
   rw[e] at h;exact(PyProof.Rows.le_int h:wpAny (model prog w) A (compareOp .LtE (.int m t) (.int n t')) Q E s)
 . cases ht
 . cases ht
 . exact(PySem.P.le_str h:wpAny (model prog w) A (compareOp .LtE (.str m t) (.str n t')) Q E s)
theorem JY (l b:Addr)(J I:Array Value)(n n2:Nat)(dd ai:Option Addr)(sl aj:Array (Option Value))(ns ms:List Key)(hi:KeysAre J.toList ns)(hj:KeysAre I.toList ms)(ht:ns.map iK=ms.map iK):
 Meets (Builtin.«tuple.__le__» ⟨[.ref l,.ref b],[]⟩)
  (λ_ R s=>s.heap.get? l=some { cls:=.type "tuple",dict:=dd,data:=.seq J n,slots:=sl }/\s.heap.get? b=some { cls:=.type "tuple",dict:=ai,data:=.seq I n2,slots:=aj }/\
    R (.ok (.ret (.bool (!iq ms ns)))) s):=
 .of_wp λprog w A R s h=>by
   obtain⟨hp,g,d,tk,os⟩:=s;obtain⟨hl,hb,h⟩:=h;have f2:=AutoSeq1.sub_tuple_tuple;have z1:J.size=ns.length:=by rw[<-hi.length];simp
   have z2:I.size=ms.length:=by rw[<-hj.length];simp
   have z3:ns.length=ms.length:=by have:=congrArg List.length ht;simpa using this
   wp_walk using wpAny_loadPart' hl,wpAny_loadPart' hb,wpAny_forIn_list _ (λrest b s'=>b.1=none/\s'=⟨hp,g,d,tk,os⟩/\∃(vs ws:List Value) (U Y:List Key),rest=vs.zip ws/\
    KeysAre vs U/\KeysAre ws Y/\U.map iK=Y.map iK/\R (.ok (.ret (.bool (!iq Y U)))) ⟨hp,g,d,tk,os⟩) _
   case turn=>
    rintro⟨y,x⟩ rest b s' ⟨ac,rfl,vs,ws,U,Y,hz,ae,aa,L,hR⟩
    cases ae with
    |nil=>rw[List.zip_nil_left] at hz;cases hz
    |cons a ag=>
     cases aa with
     |nil=>rw[List.zip_nil_right] at hz;cases hz
     |cons c ah=>
      rw[Q38] at hz;injection hz with ak af
      injection ak with hy hx
      subst hy hx;rw[nE] at hR;have t1:=(List.cons.inj L).1;have t2:=(List.cons.inj L).2;obtain⟨e,he,ab⟩:=JW A.in1 ⟨hp,g,d,tk,os⟩ a c t1;refine Q01 (he prog w _ _ ?_)
      cases e with
      |true=>
       rw[if_pos (ab.mp rfl).symm] at hR
       wp_walk
       exact⟨rfl,rfl,_,_,_,_,af,ag,ah,t2,hR⟩
      |false=>
       rw[if_neg (λq=>absurd (ab.mpr q.symm) Bool.false_ne_true)] at hR;have al:=JX A.in1 ⟨hp,g,d,tk,os⟩ a c t1 prog w
       wp_walk using al
       exact⟨_,rfl,by simpa using hR⟩
   case fin=>
    rintro⟨b1,b2⟩ s' ⟨ac,rfl,vs,ws,U,Y,hz,ae,aa,L,hR⟩;simp only at ac;subst ac
    have hv:(!iq Y U)=decide (J.size<=I.size):=by
     cases ae with
     |nil=>
      cases aa with
      |nil=>exact(decide_eq_true (by omega)).symm
      |cons c hw=>cases L
     |cons a hv=>
      cases aa with
      |nil=>cases L
      |cons c hw=>
       rw[Q38] at hz
       cases hz
    rw[hv] at hR
    wp_walk
    exact⟨_,rfl,by simpa[Builtin.Tuple.tupleCompareSizes] using hR⟩
   case h=>
    exact⟨rfl,rfl,J.toList,I.toList,ns,ms,rfl,hi,hj,ht,h⟩
end
section
variable {prog:Program}{w:World}{A:Around}{E:Value->Shared->Prop}{s:Shared}
theorem JZ {l b:Addr}{J I:Array Value}{ns ms:List Key}{Q:Value->Shared->Prop}(hl:IsTup s.heap l J)(hb:IsTup s.heap b I)(hi:KeysAre J.toList ns)(hj:KeysAre I.toList ms)(ht:ns.map iK=ms.map iK)
 (hu:A.units<cLine) (h:Q (.bool (!iq ms ns)) s):wpAny (model prog w) A (compareOp .LtE (.ref l) (.ref b)) Q E s:=by
 obtain⟨⟨cls,dd,data,sl⟩,ho,hc,n,hd⟩:=id hl;obtain⟨⟨ac,aa,data2,ab⟩,L,U,n2,Y⟩:=id hb;simp only at hc hd U Y;subst hc hd U Y
 exact richCompare_meets_room (op:=.LtE) ⟨_,ho,rfl⟩ ⟨_,L,rfl⟩ PySem.F.slot_tuple_le PySem.F.entry_tuple_le (PySem.F.args_tuple_le_2 _ _) (JY l b J I n n2 dd aa sl ab ns ms hi hj ht)
  ⟨ho,L,show Value.bool (!iq ms ns)≠Value.notImplemented/\Q (.bool (!iq ms ns)) s from⟨(λx=>nomatch x),h⟩⟩ hu
end
end HT
namespace L2
open Spec PyProof.Rows
section
variable {X:Cx}
def J0 (K:W.Frag):R2:=λx y H Q=>∃a b ns ms,x=.ref a/\y=.ref b/\f9 K H a (ns.map kV)/\f9 K H b (ms.map kV)/\ns.map iK=ms.map iK/\Q (.bl (!iq ms ns)) H
theorem J1 (L:X.A.units<cLine):iZ X (compareOp .LtE) (J0 X.K):=by
 intro pins s σ H x y v u Q I U Y h;obtain⟨a,b,ns,ms,rfl,rfl,ha,hb,ht,q⟩:=h
 cases U
 cases Y;obtain⟨aa,r1,p1,_⟩:=I.tuple ha;obtain⟨J,r2,p2,_⟩:=I.tuple hb;exact HT.JZ p1 p2 (by simpa using HT.KeysAre.of r1) (by simpa using HT.KeysAre.of r2) ht L ⟨.bl (!iq ms ns),H,I,rfl,q⟩
end
inductive iW (K:W.Frag) (H:Hp):Nat->V->V->Bool->Prop
 |ref {n:Nat} (a:Addr):iW K H n (.ref a) (.ref a) true
 |int {n:Nat} (a b:Int):iW K H n (.int a) (.int b) (decide (a=b))
 |str {n:Nat} (a b:Str):iW K H n (.str a) (.str b) (decide (a=b))
 |is {n:Nat} (a:Int) (b:Str):iW K H n (.int a) (.str b) false
 |si {n:Nat} (a:Str) (b:Int):iW K H n (.str a) (.int b) false
 |lst {n:Nat} {a b:Addr} {xs ys:List V} {e:Nat->Bool} (ne:a≠b) (ha:f_ K H a xs) (hb:f_ K H b ys) (hl:xs.length=ys.length) (he:∀(j:Nat) (x y:V),xs[j]? =some x->ys[j]? =some y->iW K H n x y (e j)):
   iW K H (n+1) (.ref a) (.ref b) ((List.range xs.length).all e)
 |tup {n:Nat} {a b:Addr} {xs ys:List V} {e:Nat->Bool} (ne:a≠b) (ha:f9 K H a xs) (hb:f9 K H b ys) (he:∀(j:Nat) (x y:V),xs[j]? =some x->ys[j]? =some y->iW K H n x y (e j)):
   iW K H (n+1) (.ref a) (.ref b) ((List.range (min xs.length ys.length)).all e && xs.length == ys.length)
section
variable {X:Cx}{pins:List (Addr × Obj)}{σ:St}{H:Hp}{s:Shared}
theorem Vals.at:∀{xs:List V}{us:List Value},Vals xs us->∀(j:Nat) (h:j<us.length),∃x,xs[j]? =some x/\RelV x us[j]
 |_,_,.nil,j,h=>absurd h (by simp)
 |_,_,.cons a r,0,h=>⟨_,rfl,a⟩
 |_,_,.cons a r,j+1,h=>by
  obtain⟨x,h1,h2⟩:=Vals.at r j (by simpa using h);exact⟨x,by simpa using h1,h2⟩
theorem iW.sY (I:Inv X pins σ H s){n:Nat}{x y:V}{b:Bool}(h:iW X.K H n x y b):∀(A:Around) (u v:Value),RelV x u->RelV y v->A.units+n<cLine->SeqAt.EqAt A s u v b:=by
 induction h with
 |ref a=>
  intro A u v J L hu
  cases J
  cases L;exact SeqAt.EqAt.same _
 |int a b=>
  intro A u v J L hu;obtain⟨t,rfl⟩:=J;obtain⟨t',rfl⟩:=L;exact SeqAt.EqAt.int_int a t b t'
 |str a b=>
  intro A u v J L hu;obtain⟨t,rfl⟩:=J;obtain⟨t',rfl⟩:=L
  have e:decide (a=b)=(a == b):=by
   by_cases z:a=b
   . rw[decide_eq_true z,z];simp
   . rw[decide_eq_false z];exact(beq_eq_false_iff_ne.mpr z).symm
  rw[e];exact SeqAt.EqAt.str_str a t b t'
 |is a b=>
  intro A u v J L hu;obtain⟨t,rfl⟩:=J;obtain⟨t',rfl⟩:=L;exact SeqAt.EqAt.int_str a t b t'
 |si a b=>
  intro A u v J L hu;obtain⟨t,rfl⟩:=J;obtain⟨t',rfl⟩:=L;exact SeqAt.EqAt.str_int a t b t'
 |@lst n a b xs ys e ne ha hb hl he ih=>
  intro A u v J L hu
  cases J
  cases L;obtain⟨Y,r1,p1,_⟩:=I.list ha;obtain⟨U,r2,p2,_⟩:=I.list hb;have l1:=r1.length;have l2:=r2.length;refine .of_refs ne ?_;have q:xs.length=Y.toArray.size:=by rw[Q06];exact l1
  rw[q];refine SeqAt.RcAt.lists p1.isList p2.isList (by rw[Q06,Q06];omega) (by omega) λj h1 h2=>?_;obtain⟨x',e1,q1⟩:=Vals.at r1 j (by simpa using h1);obtain⟨y',e2,q2⟩:=Vals.at r2 j (by simpa using h2);refine ih j x' y' e1 e2 _ _ _ (by simpa using q1) (by simpa using q2) ?_;show A.units+1+n<cLine;omega
 |@tup n a b xs ys e ne ha hb he ih=>
  intro A u v J L hu
  cases J
  cases L;obtain⟨Y,r1,p1,_⟩:=I.tuple ha;obtain⟨U,r2,p2,_⟩:=I.tuple hb;have l1:=r1.length;have l2:=r2.length;refine .of_refs ne ?_;have q:xs.length=Y.toArray.size:=by rw[Q06];exact l1
  have q':ys.length=U.toArray.size:=by rw[Q06];exact l2
  rw[q,q'];refine SeqAt.RcAt.tuples p1 p2 (by omega) λj h1 h2=>?_;obtain⟨x',e1,q1⟩:=Vals.at r1 j (by simpa using h1);obtain⟨y',e2,q2⟩:=Vals.at r2 j (by simpa using h2);refine ih j x' y' e1 e2 _ _ _ (by simpa using q1) (by simpa using q2) ?_;show A.units+1+n<cLine;omega
def vG (K:W.Frag) (H:Hp) (n:Nat) (xs ys:List V) (e:Nat->Bool):Prop:=∀(j:Nat) (x y:V),xs[j]? =some x->ys[j]? =some y->iW K H n x y (e j)
def Df (K:W.Frag) (n:Nat):R2:=λx y H Q=>∃a b xs ys e,x=.ref a/\y=.ref b/\vG K H n xs ys e/\
 ((f_ K H a xs/\f_ K H b ys/\((xs.length=ys.length/\Q (.bl ((List.range xs.length).all e)) H)\/(xs.length≠ys.length/\Q (.bl false) H)))\/
  (f9 K H a xs/\f9 K H b ys/\Q (.bl ((List.range (min xs.length ys.length)).all e && xs.length == ys.length)) H))
theorem J3 {n:Nat}(hu:X.A.units+1+n<cLine):iZ X (compareOp .Eq) (Df X.K n):=by
 intro pins s σ H x y v u Q I rx ry h;obtain⟨a,b,xs,ys,e,rfl,rfl,hd,h⟩:=h
 cases rx
 cases ry;rcases h with⟨ha,hb,h⟩|⟨ha,hb,q⟩
 . obtain⟨L,U,p1,_⟩:=I.list ha;obtain⟨J,Y,p2,_⟩:=I.list hb;have l1:=U.length;have l2:=Y.length;rcases h with⟨hl,q⟩|⟨hl,q⟩
   . have z:xs.length=L.toArray.size:=by rw[Q06];exact l1
     rw[z] at q;refine SeqAt.eq_listAt (e:=e) p1.isList p2.isList (by rw[Q06,Q06];omega) (by omega) (λj h1 h2=>?_) ⟨.bl _,H,I,rfl,q⟩;obtain⟨x',e1,q1⟩:=Vals.at U j (by simpa using h1);obtain⟨y',e2,q2⟩:=Vals.at Y j (by simpa using h2);refine(hd j x' y' e1 e2).sY I _ _ _ (by simpa using q1) (by simpa using q2) ?_;show X.A.units+1+n<cLine;omega
   . refine SeqAt.eq_list_lengthsAt p1.isList p2.isList ?_ (by omega) ⟨.bl false,H,I,rfl,q⟩;rw[Q06,Q06];simp;omega
 . obtain⟨L,U,p1,_⟩:=I.tuple ha;obtain⟨J,Y,p2,_⟩:=I.tuple hb;have l1:=U.length;have l2:=Y.length;have z:xs.length=L.toArray.size:=by rw[Q06];exact l1
   have z':ys.length=J.toArray.size:=by rw[Q06];exact l2
   rw[z,z'] at q;refine SeqAt.eq_tupleAt (e:=e) p1 p2 (by omega) (λj h1 h2=>?_) ⟨.bl _,H,I,rfl,q⟩;obtain⟨x',e1,q1⟩:=Vals.at U j (by simpa using h1);obtain⟨y',e2,q2⟩:=Vals.at Y j (by simpa using h2);refine(hd j x' y' e1 e2).sY I _ _ _ (by simpa using q1) (by simpa using q2) ?_;show X.A.units+1+n<cLine;omega
def Dh (K:W.Frag) (n:Nat):R2:=λx y H Q=>∃a b xs ys e,x=.ref a/\y=.ref b/\vG K H n xs ys e/\
 ((f_ K H a xs/\f_ K H b ys/\((xs.length=ys.length/\Q (.bl (!(List.range xs.length).all e)) H)\/(xs.length≠ys.length/\Q (.bl true) H)))\/
  (f9 K H a xs/\f9 K H b ys/\Q (.bl (!((List.range (min xs.length ys.length)).all e && xs.length == ys.length))) H))
theorem J4 {n:Nat}(hu:X.A.units+1+n<cLine):iZ X (compareOp .NotEq) (Dh X.K n):=by
 intro pins s σ H x y v u Q I rx ry h;obtain⟨a,b,xs,ys,e,rfl,rfl,hd,h⟩:=h
 cases rx
 cases ry;rcases h with⟨ha,hb,h⟩|⟨ha,hb,q⟩
 . obtain⟨L,U,p1,_⟩:=I.list ha;obtain⟨J,Y,p2,_⟩:=I.list hb;have l1:=U.length;have l2:=Y.length;rcases h with⟨hl,q⟩|⟨hl,q⟩
   . have z:xs.length=L.toArray.size:=by rw[Q06];exact l1
     rw[z] at q;refine(SeqAt.RcNeAt.lists (e:=e) p1.isList p2.isList (by rw[Q06,Q06];omega) (by omega) (λj h1 h2=>?_)) X.prog X.w _ _ ⟨.bl _,H,I,rfl,q⟩;obtain⟨x',e1,q1⟩:=Vals.at U j (by simpa using h1);obtain⟨y',e2,q2⟩:=Vals.at Y j (by simpa using h2);refine(hd j x' y' e1 e2).sY I _ _ _ (by simpa using q1) (by simpa using q2) ?_;show X.A.units+1+n<cLine;omega
   . refine(SeqAt.RcNeAt.lists_lengths p1.isList p2.isList ?_ (by omega)) X.prog X.w _ _ ⟨.bl true,H,I,rfl,q⟩;rw[Q06,Q06];simp;omega
 . obtain⟨L,U,p1,_⟩:=I.tuple ha;obtain⟨J,Y,p2,_⟩:=I.tuple hb;have l1:=U.length;have l2:=Y.length;have z:xs.length=L.toArray.size:=by rw[Q06];exact l1
   have z':ys.length=J.toArray.size:=by rw[Q06];exact l2
   rw[z,z'] at q;refine(SeqAt.RcNeAt.tuples (e:=e) p1 p2 (by omega) (λj h1 h2=>?_)) X.prog X.w _ _ ⟨.bl _,H,I,rfl,q⟩;obtain⟨x',e1,q1⟩:=Vals.at U j (by simpa using h1);obtain⟨y',e2,q2⟩:=Vals.at Y j (by simpa using h2);refine(hd j x' y' e1 e2).sY I _ _ _ (by simpa using q1) (by simpa using q2) ?_;show X.A.units+1+n<cLine;omega
end
def J5 (e:Addr) (l:List Env) (h h':Heap):Prop:=
 (∀b o,b ∉ frs l->b≠e->h.get? b=some o->h'.get? b=some o)/\∀b o,b≠e->h.get? b=some o->∃I,h'.get? b=some { o with slots:=I }
theorem vH {f:Array Value->Array Value}{o:Obj}{vs:Array Value}(h:o.data=.fields vs):Obj.mapFields f o={ o with data:=.fields (f vs) }:=by
 obtain⟨c,d,I,J⟩:=o;have h:I=.fields vs:=h;subst h;rfl
section
variable {M:Model}{A:Around}{E:Value->Shared->Prop}{s:Shared}
theorem J6 {base:Heap}{env:Env}{outer:List Env}{L e:Addr}{I:Obj}{vs:Array Value}{head:Value}{ac:Bool}{Q:Unit->Shared->Prop}
 (ae:A.frames=some (env::outer)) (hl:s.heap.FunFrames base (env::outer)) (hf:env.frame=some L) (he:s.heap.get? e=some I) (hd:I.data=.fields vs) (hsz:1<vs.size)
 (h:∀(h':Heap) (T:Addr),s.heap.objs.size<=T->J5 e (env::outer) s.heap h'->h'.get? e=some { I with data:=.fields (vs.setIfInBounds 1 (.ref T)) }->(∃oT ts,h'.get? T=some oT/\oT.data=.fields ts/\ts[3]? =some (rawInt L))->Q () { s with heap:=h' }):
 wpAny M A (do let a <-frameOf env;let pl <-entryPlaceOf L ac;let b <-EntryCells.newEntry head a .none (rawInt L) .none pl;setField (.ref e) 1 b) Q E s:=by
 have af:e ∉ (env::outer).filterMap (·.frame):=λz=>by
  obtain⟨_,o,Y,hn⟩:=hl.mem z;rw[he] at Y
  cases Y;exact hn vs hd
 refine Q01 (wpAny_frameOf_fun ae hl hf λh1 x1=>?_);refine Q01 (wpAny_entryPlaceOf λpl aa=>?_);unfold EntryCells.newEntry newFields;refine Q01 (wpAny_newObj_type ?_ (aa.sizeOk5 _ _ _ _ _));have e1:h1.get? e=some I:=(x1.2.1 e af).trans he;generalize ab:({ cls:=.type "traceback",dict:=none,data:=.fields ([head,.ref L,.none,rawInt L,.none]++(if pl.isEmpty then List.replicate 6 Value.none else pl)).toArray }:Obj)=ob;have e2:(h1.push ob).get? e=some I:=Q0a ob e1;have ag:h1.objs.size≠e:=Q0x (Q04 e1);have U:({ I with data:=.fields (vs.setIfInBounds 1 (.ref h1.objs.size)) }:Obj).isFreed=false:=Obj.isFreed_of_fields rfl;have em:Obj.mapFields (·.setIfInBounds 1 (Value.ref h1.objs.size)) I={ I with data:=.fields (vs.setIfInBounds 1 (.ref h1.objs.size)) }:=vH hd;refine wpAny_setField e2 hd hsz (h _ h1.objs.size (Q1w x1.1.symm) ⟨λb o hb J Y=>?_,λb o J Y=>?_⟩ ?_ ?_)
 . rw[Q1c _ _ (Ne.symm J)];exact Q0a ob ((x1.2.1 b hb).trans Y)
 . obtain⟨sl,hs⟩:=x1.2.2 b o Y;refine⟨sl,?_⟩;rw[Q1c _ _ (Ne.symm J)];exact Q0a ob hs
 . have:=Q1x (Obj.mapFields (·.setIfInBounds 1 (Value.ref h1.objs.size))) e2 (by rw[em];exact U);rw[em] at this;exact this
 . refine⟨ob,_,?_,by rw[<-ab],?_⟩
   . rw[Q1c _ _ (Ne.symm ag)];exact Q0i h1 (by rw[<-ab];rfl)
   . first|(simp;done)|(rcases aa with rfl|⟨_,_,_,_,_,_,_,rfl⟩ <;> simp)
structure Tr (h:Heap) (e T:Addr) (cls fl:Value):Prop where
 ex:∃oe vs,h.get? e=some oe/\oe.cls=cls/\oe.dict=none/\oe.data=.fields vs/\vs[1]? =some (.ref T)
 tb:∃oT ts,h.get? T=some oT/\oT.data=.fields ts/\ts[3]? =some fl
 ne:T≠e
end
section
variable {X:Cx}{pins:List (Addr × Obj)}{σ:St}{H:Hp}{s:Shared}
end
section
variable {M:Model}{A:Around}{E:Value->Shared->Prop}{s:Shared}
end
section
variable {X:Cx}{pins:List (Addr × Obj)}{σ:St}{H:Hp}{s:Shared}
end
section
variable {X:Cx}{k:Nat}{f:Addr}{fd:FuncData}{ps:List Str}{sp:Sp}{jg:List V}{ds:List Value}{Ek:XK}{x:Str}{p pos:Pos}{e:Expr}{es:List Expr}{t:TA}{te:TE}
end
end L2
namespace L2
open Spec PyProof.Rows W
theorem J7 {M:Model}{A:Around}{E:Value->Shared->Prop}{K:Frag}{s:Shared}{a C D:Addr}{I:Obj}{b:Bool}{Q:Bool->Shared->Prop}(X:K.In s.heap)(h1:typeIn K (.ref D)=some (.type "type"))(h2:(clsIn K D).isSome=true)(U:subIn K (.ref D) (.type "BaseException")=some true)
 (Y:subIn K (.ref C) (.ref D)=some b) (he:s.heap.get? a=some I) (hc:I.cls=.ref C) (hq:Q b s):wpAny M A (excMatches (.ref a) (.ref D)) Q E s:=by
 obtain⟨h,g,d,t,os⟩:=s;have L1:=looks_typeIn (M:=M) X h1;have L2:Looks M h (isSubtype (.type "type") (.type "tuple")) false:=Looks.of_pure tc_notTuple;have L3:=looks_subIn (M:=M) X U;have L4:=looks_subIn (M:=M) X Y
 have L5:Looks M h (isType (.ref D)) true:=by
  unfold clsIn at h2;split at h2
  . rename_i c' d' aa ab ho;intro J Q' L s' k q;unfold isType loadHead;exact Q01 (wpAny_loadPart (k _ _ (X _ _ ho)) (Q0e q))
  . cases h2
 have L6:Looks M h (typeOf (.ref a)) (.ref C):=by
  have z:Looks M h (typeOf (.ref a)) I.cls:=(Looks.ld (show h.get? a=some I from he)).andThen .now;rw[hc] at z;exact z
 have L7:Looks M h (isInstance (.ref D) (.type "tuple")) false:=L1.andThen L2
 have L8:Looks M h (isExcClass (.ref D)) true:=λJ Q' L s' k q=>by
  unfold isExcClass;exact Q01 (L5 J _ L s' k (L3 J _ L s' k q))
 unfold excMatches;refine Q01 (L7.at ?_)
 repeat (any_goals (first|assumption|with_reducible refine L8.at ?_|with_reducible refine L6.at ?_|with_reducible refine L4.at ?_|wp_step))
 cases b <;> (repeat (any_goals (first|assumption|wp_step)))
end L2
namespace L2
open Spec PyProof.Rows
section
variable {X:Cx}{pins:List (Addr × Obj)}{σ:St}{H:Hp}{s:Shared}
theorem Inv.unbind {M:Model}{A:Around}{E:Value->Shared->Prop}{i:Nat}{x:Str}{pos:Pos}{Q:Unit->Shared->Prop}(I:Inv X pins σ H s)(hN:X.N.Nodup)(hi:X.N[i]? =some x)(hk:X.env.kindOf x=some .local)
 (h:∀s',Inv X pins (σ.set i none) H s'->Q () s'):wpAny M A (do bindName X.env x .none;unbindBehindTheSuite X.env x pos) Q E s:=by
 obtain⟨m,hn,hl⟩:=id I.loc;have aa:(X.env.scope.kind == .class || (X.env.scope.kind == .module && X.env.locals != X.env.globals))=false:=by rw[I.ok.kind];rfl
 have ab:i<σ.length:=by rw[I.len];exact(List.getElem?_eq_some_iff.mp hi).1
 have lM:=I.lM;refine wpAny_nameGoes_keeps hk hn aa λh' v ac L=>?_;obtain⟨oL,_,_,ae,_⟩:=id hn
 have J:iN X.prog X.w H h':=λb ob e=>by
  refine(I.hok b ob e).stay (λc w' hc q=>(L.2 c ?_).trans q) (λ_ q=>q) λ_ _ q=>q;rintro rfl;rcases hc with rfl|hc
  . rw[I.free] at e;cases e
  . rw[I.free] at hc;cases hc
 refine h _ ⟨I.ok,I.os,I.bare,⟨λb o e n hb Y=>?_,λb o e n hb Y=>?_,I.base.free,λb o e Y=>?_,I.base.tups,I.base.ke,I.base.kK⟩,⟨_,ac,λj y v' U e2 e3=>?_⟩,λy c e=>?_,I.free,I.jy,λp hp=>?_,J,by simpa using I.len⟩
 . exact(L.2 b (Q0c (Q0f (Q04 e) I.ok.above))).trans (I.base.keep b o e n hb Y)
 . obtain⟨sl,U⟩:=I.base.slot b o e n hb Y;exact⟨sl,(L.2 b (Q0c (Q0f (Q04 e) I.ok.above))).trans U⟩
 . obtain⟨o',U⟩:=I.base.there b o e Y;exact⟨o',(L.2 b (Q0c (Q0f (Q04 e) I.ok.above))).trans U⟩
 . by_cases hj:j=i
   . subst hj;rw[Q29 ab] at e2
     cases e2
   . rw[Q1v (Ne.symm hj)] at e2;obtain⟨u',r',q⟩:=hl j y v' U e2 e3;refine⟨u',r',?_⟩;rcases q with⟨k,e⟩|⟨k,c,e,z⟩
     . refine .inl ⟨k,?_⟩;have:y≠x:=λe=>hj (uP hN U (e ▸ hi));simp[this,e]
     . exact .inr ⟨k,c,e,z.sameBut L (lM y c e)⟩
 . obtain⟨w',z⟩:=I.cell y c e;exact⟨w',z.sameBut L (lM y c e)⟩
 . obtain⟨e,n,ne,nf,d⟩:=I.pin p hp;exact⟨(L.2 p.1 ne).trans e,n,ne,nf,d⟩
noncomputable abbrev Cx.marked (X:Cx) (a:Addr):Cx:={ X with A:=X.A.mark (some (.ref a)),calm:=false,xe:=λ_ _=>False }
theorem Inv.marked (I:Inv X pins σ H s)(a:Addr):Inv (X.marked a) pins σ H s:=
 ⟨⟨I.ok.mod,I.ok.kind,I.ok.glob,I.ok.blt,I.ok.above,I.ok.inj,I.ok.has,I.ok.cab,(λz=>by cases z),I.ok.frames,I.ok.stk,I.ok.qF,I.ok.bs,I.ok.kL,I.ok.m9,I.ok.oj,I.ok.jW,I.ok.md⟩,I.os,I.bare,I.base,I.loc,I.cell,I.free,I.jy,I.pin,I.hok,I.len⟩
theorem Inv.unmarked {a:Addr}(I:Inv (X.marked a) pins σ H s)(ok:X.Ok):Inv X pins σ H s:=⟨ok,I.os,I.bare,I.base,I.loc,I.cell,I.free,I.jy,I.pin,I.hok,I.len⟩
end
def Ends.un (D:Ends) (i:Nat):Ends:={ nx:=λσ H=>D.nx (σ.set i none) H,rt:=D.rt,bk:=λσ H=>D.bk (σ.set i none) H,ct:=λσ H=>D.ct (σ.set i none) H }
end L2
namespace L2
open Spec Calls PyProof.Rows W Builtin Builtin.ObjectAttr Builtin.Getset_descriptor
section
variable {prog:Program}{w:World}{A:Around}{E:Value->Shared->Prop}{K:Frag}{h:Heap}{g:Array GenState}{d:Drawn}{t:Nat}{os:OsState}{a C:Addr}{o:Obj}
end
end L2
namespace L2
open Spec PyProof.Rows
section
variable {X:Cx}{es:List Expr}{n k:Nat}{t:St->Hp->Prop}{pos:Pos}
end
noncomputable def iB (x:Str):List Key:=[Sum.inr x]
theorem Di (x y:Str):iq (iB x) (iB y)=decide (x.cps.toList<y.cps.toList):=by
 unfold iB;rw[nE];by_cases e:(Sum.inr x:Key)=Sum.inr y
 . rw[if_pos e];have e:=Sum.inr.inj e;subst e;have h:¬x.cps.toList<x.cps.toList:=Q37 _;rw[decide_eq_false h];rfl
 . rw[if_neg e];rfl
theorem vI {ss:List Str}{us:List Value}(r:Vals (ss.map V.str) us){i:Nat}(hi:i<us.length):∃x t,us.getD i Value.none=.str x t/\(ss.map iB).getD i []=iB x:=by
 have hl:=r.length;rw[Q0] at hl;have h1:(ss.map V.str)[i]? =some (V.str (ss[i]'(by omega))):=by rw[Q0h,Q03 (by omega)];rfl
 obtain⟨u,I,t,J⟩:=r.get h1;subst J;refine⟨ss[i]'(by omega),t,by rw[Q05,I];rfl,?_⟩;rw[Q05,Q0h,Q03 (by omega)];rfl
theorem J8 {prog:Program}{w:World}{s:Shared}{A:Around}{ss:List Str}{us:List Value}(r:Vals (ss.map V.str) us):Asks prog w A s us (O:=pO) (λi=>(ss.map iB).getD i []):=by
 intro h2;refine W.kas_kind (T:=.type "str") h2 (λv J=>?_) rfl rfl ⟨rfl,λi j C hi L q=>?_⟩
 . obtain⟨i,hi,e⟩:=Q10 J;obtain⟨x,t,I,_⟩:=vI r hi;rw[Q05,Q03 hi] at I;have I:us[i]=.str x t:=I;rw[<-e,I];exact W.Looks.of_pure rfl
 . unfold W.kas_ask;obtain⟨x,t,I,U⟩:=vI r hi;obtain⟨y,u,Y,e4⟩:=vI r L;rw[I,Y];refine W.kas_lt_str ?_;have q:C (iq ((ss.map iB).getD i []) ((ss.map iB).getD j [])) s:=q;rw[U,e4,Di] at q;exact q
def sZ (K:PySem.W.Frag) (P:Addr) (J:Pos) (qual:Str) (te:TE) (σ:St) (Q:VK):VK:=λx H1=>∃a xs,x=.ref a/\f_ K H1 a xs/\xs.length<64/\gy P J qual H1/\
 ∀c' H2,mN P J qual c' H2->(∀b o,b≠P->H1 b=some o->H2 b=some o)->
 ∃W:List V->Hp->Prop,W [] H2/\(∀ks I,W ks I->mN P J qual c' I)/\(∀ks I y,W ks I->xs[ks.length]? =some y->te (some y::σ) I λk L=>W (ks++[k]) L)/\
 ∀ks I,W ks I->ks.length=xs.length->∃ss:List Str,ks=ss.map V.str/\∀p:List Nat,p.Perm (List.range xs.length)->(p.map λi=>(ss.map iB).getD i []).Pairwise lr->∀D,I D=none->Q (.ref D) (upd I D (.lst (p.map λi=>xs.getD i .non)))
def J9 (K:W.Frag) (P:Addr) (I:Pos) (qual:Str) (tl te:TE):TE:=λσ H Q=>tl σ H (sZ K P I qual te σ Q)
section
variable {X:Cx}
theorem vJ {x:Str}{N':List Str}{l body:Expr}{L:Arguments}{scope:Scope}{lp kp p pos:Pos}{qual:Str}{c P:Addr}{tl te:TE}{k:Nat}(hg:Gl X "sorted")(hm:X.mg "sorted"=none)(hv:bootBuiltins "sorted"=some (.builtin "sorted"))(hr:ig k X.A)(hq:X.env.qual++"<lambda>"=qual)(Y:X.env.code=.ref c)(C:PySem.W.CodeHd X.base c P)
 (B:BM X.mg X.base) (S:kU X x N' scope) (ab:defaultsOf L X.env=([],[])) (hb:∀(cl:List (Str × Addr)) (pm:Value) (c':Addr) (U u:Value),bindArgs (PySem.W.kla_fn "<lambda>" qual L body scope cl pm (.ref c') U) ⟨[u],[]⟩=pure [(x,u)])
 (hl:PE X l tl) (he:∀(cl:List (Str × Addr)) (f c':Addr) (s:Shared) (H:Hp),PE (q_ X x N' scope cl qual f c' s H) body te) (hs:starEach [l] X.env=[(false,eval l X.env)]:=by rfl):
 PE X (.Call (.Name "sorted" p) [l] [⟨some "key",.Lambda L body scope lp,kp⟩] pos) (J9 X.K P lp qual tl te):=by
 intro pins s σ H Q I h;refine wpAny_Call_Name_kw (mC I hg hm hv ?_);have ha:PA X [l] (i5 tl j2):=a_ hl b_ (by rw[hs];rfl);refine callWith_kw (gB (ha pos pins s σ H (λvs H1=>match vs with|[x]=>sZ X.K P lp qual te σ Q x H1|_=>False) I h) λus s1 zq=>?_) (by rw[hs];rfl) (by rw[hs];rfl);obtain⟨vs,H1,I1,r1,q1⟩:=zq
 obtain⟨x',rfl⟩:∃x',vs=[x']:=by
  match vs,q1 with
  |[x'],_=>exact⟨x',rfl⟩
 have q1:sZ X.K P lp qual te σ Q x' H1:=q1;obtain⟨a,xs,rfl,ag,ah,T,cont⟩:=q1;obtain⟨u,rfl,ru⟩:=vals1 r1
 cases ru;show wpAny _ _ (evalAll [do let v <-eval (.Lambda L body scope lp) X.env;standAt pos;pure v]) _ _ s1;obtain⟨cl,aa,ac,ae⟩:=sQ (scope:=scope) (env:=X.env) λy hy hf=>I1.ok.has y.1 (S.free y hy hf);refine wpAny_evalAll_cons (Q01 (PySem.W.kla_eval ab ?_));rw[hq];refine CY I1 Y C B T aa λf c' pm U H2 s2 I2 ai mono=>?_;refine Q01 (wpAny_standAt (Q0e (wpAny_evalAll_nil ?_)));show wpAny _ _ (call (.builtin "sorted") [.ref a] [(Str.ofString "key",.ref f)]) _ _ s2;obtain⟨W,w0,wL,wt,wf⟩:=cont c' H2 ai mono
 have aj:∃ps,H1 P=some (.iJ ps):=by
  rcases T with e|⟨al,e,_⟩
  . exact⟨_,e⟩
  . exact⟨_,e⟩
 have ak:f_ X.K H2 a xs:=by
  obtain⟨ps,hP⟩:=aj;rcases ag with(z|⟨o,z⟩)|z
  . exact .inl (.inl (mono a _ (gR z hP (by intro z;cases z)) z))
  . exact .inl (.inr ⟨o,mono a _ (gR z hP (by intro z;cases z)) z⟩)
  . exact .inr z
 refine gB (C6 (Q:=Q) (W:=W) I2 ak ah w0 (λpl s' H' ks y u J wk hy ry=>?_) λpl s' H' ks us J wk af rk=>?_) λr s' ⟨v,H',J,rv,q⟩=>⟨v,H',J.mE,rv,q⟩
 . exact C2 J S hr.hd hr.depth ac ae (Q0t _ (Q08 _ Q02)) (wL ks H' wk).2 (hb cl pm c' U) ry (he cl f c') (wt ks H' y wk hy)
 . obtain⟨ss,k1,k3⟩:=wf ks H' wk af;subst k1;exact⟨pO,_,J8 rk,λp p1 p2 D hD=>k3 p p1 p2 D hD⟩
end
variable {P:Program}{w:World}{K:W.Frag}{mg:Str->Option Value}{base:Heap}
section
variable {X:Cx}
def s_ (K:W.Frag) (n:Nat):R2:=λx y H Q=>(x=.non/\(∃b ys,y=.ref b/\f9 K H b ys)/\Q (.bl false) H)\/Df K n x y H Q
theorem tf {n:Nat}(U:X.A.units+1+n<cLine):iZ X (compareOp .Eq) (s_ X.K n):=by
 intro pins s σ H x y v u Q I J L h;rcases h with⟨rfl,⟨b,ys,rfl,Y⟩,q⟩|h
 . cases J
   cases L;obtain⟨aa,r1,p1,_⟩:=I.tuple Y;exact SeqAt.RcAt.none_tuple p1 (by omega) _ _ _ _ ⟨.bl false,H,I,rfl,q⟩
 . exact J3 U pins s σ H x y v u Q I J L h
end
theorem mj.oR {x qual:Str}{st:Stmt}{f c:Addr}{fd:FuncData}{N ps:List Str}{k:Nat}{sp:Sp}(F:mj K x qual st f fd)(hc:fd.code=.ref c)(S:gQ N ps (gp st))(len:∀vs H Q E,sp vs H Q E->vs.length=ps.length)
 (I:∀(A:Around) (outer:List Env) (s:Shared) (H:Hp) (vs:List V) (Q:VK) (E:XK),ig k (A.deeper (envOfC qual (gp st) s.heap.objs.size f (.ref c)))->sp vs H Q E->
   ∃t,jX (gO gf P w K mg base N qual (gp st) f (.ref c) A outer s H E).gN (iI st) t/\t { nx:=λ_ H'=>Q .non H',rt:=Q } (start N vs) H):gc P w K mg base gf (k+1) f fd ps sp:=by
 obtain⟨oc,od,kV,aa,pm,an,J,ct,ab,rfl,Y,L⟩:=F.ex;have hc:J=.ref c:=hc;subst hc;refine Cd Y L S len λA outer s H vs Q E hr U=>?_;obtain⟨t,h,q⟩:=I A outer s H vs Q E hr U;exact⟨t,h.gN,q⟩
def tm (I:List Addr) (H:Hp):Prop:=∀b,H b=none\/(∃o xs,H b=some (.iU o (.lst xs)))\/(b∈I/\H b=some (.iJ #[]))
theorem J_ {P:Program}{w:World}{K:W.Frag}{mg mb:Str->Option Value}{CX:j3}{k:Nat}{fa a:Addr}{fd:FuncData}{x:Str}{sp:Sp}{I:Shared}{vs:List Value}{ns:List Int}{J:List (Addr × Addr)}
 (KX:K.In I.heap) (hT:W.TabsAt J I.heap) (aq:W.noTabs K=true) (ar:BM mg I.heap) (ai:I.heap.Ns mainGlobals mg) (L:I.heap.Ns builtinsNs mb) (au:∀x:Str,x≠"__name__"->mb x=bootBuiltins x) (an:I.heap.NoLimit) (hg:I.gens=#[])
 (ha:I.heap.get? a=some { cls:=.type "list",data:=.seq vs.toArray }) (hi:IntsAre vs ns) (hl:ns.length<=sizeLine) (hr:ig k callerA)
 (F:∀base:Heap,K.In base->base.Ns mainGlobals mg->BM mg base->gc P w K mg base CX k fa fd [x] sp) (ah:∀(s:Shared) (u:Value),BindsTo s fd ⟨[u],[]⟩ [(x,u)])
 (av:∀H:Hp,tm (J.map (·.2)) H->(∀q∈J,H q.2=some (.iJ #[]))->f_ K H a (ns.map V.int)->sp [.ref a] H (λv _=>v=.bl true) λ_ _ _=>False)
 (aw:∀H e s',CX [] H I (λ_ _ _=>False) e s'->False):
 codeAny (model P w) callerA (.call (.ref fa) ⟨[.ref a],[]⟩) (λr s'=>r=.ok (.ret (.bool true))/\OldK I.heap s'.heap/\s'.os=I.os/\AllBare s'.gens) I:=by
 have rv:=vk hi;have ao:=hi.length
 have Y:∀b,b∈J.map (·.2)->I.heap.get? b=some (W.tabObj #[]):=λb hm=>by
  obtain⟨q,hq,rfl⟩:=List.mem_map.mp hm;exact(hT q hq).2
 have aj:a ∉ J.map (·.2):=λhm=>by
  have:=Y a hm;rw[ha] at this;cases this
 have af:∀H:Hp,tm (J.map (·.2)) H->(∀q∈J,H q.2=some (.iJ #[]))->f_ K H a (ns.map V.int)->iN P w H I.heap->(∀b,H b≠none->b=a\/b∈J.map (·.2))->(H a≠none->K.lookup a=none)->
  codeAny (model P w) callerA (.call (.ref fa) ⟨[.ref a],[]⟩) (λr s'=>r=.ok (.ret (.bool true))/\OldK I.heap s'.heap/\s'.os=I.os/\AllBare s'.gens) I:=by
  intro H hO ak hS al hA hK;have U:∀{b:Addr} {o:Obj},I.heap.get? b=some o->H b=none->(ma I.heap H).get? b=some o:=λe n=>Hi e n
  have ab:∀{b:Addr} {o:Obj},I.heap.get? b=some o->(∀us n,o.data≠ .seq us n)->(∀us,o.data≠ .fields us)->H b=none:=λ{b o} e d1 d2=>by
   cases q:H b with
   |none=>rfl
   |some u=>
    rcases hA b (by rw[q];simp) with e'|e'
    . subst e';rw[ha] at e;cases e;exact absurd rfl (d1 _ _)
    . rw[Y b e'] at e;cases e;exact absurd rfl (d2 _)
  have ae:∀{b:Addr} {m:Str->Option Value},I.heap.Ns b m->(ma I.heap H).Ns b m:=λ{b m} ⟨o,es,ep,e,d,r⟩=>⟨o,es,ep,U e (ab e (by rw[d];intro us n z;cases z) (by rw[d];intro us z;cases z)),d,r⟩
  have am:K.In (ma I.heap H):=λb o e=>U (KX b o e) (by
   cases q:H b with
   |none=>rfl
   |some u=>
    rcases hA b (by rw[q];simp) with e'|e'
    . subst e';rw[hK (by rw[q];simp)] at e;cases e
    . have e2:=KX b o e;rw[Y b e'] at e2;cases e2;have:=List.all_eq_true.mp aq _ (W.mem_of_lookupK e);simp at this)
  have hM:Mod K mg (ma I.heap H):=⟨am,ae ai,⟨mb,ae L,au⟩,let⟨mc,h1,h2⟩:=an;⟨mc,ae h1,h2⟩⟩
  have ax:BM mg (ma I.heap H):=by
   obtain⟨bm,o,b1,b2,b3,b4,b5,b6,b7⟩:=ar;exact⟨bm,o,b1,b2,b3,U b4 (ab b4 (by rw[b7];intro us n z;cases z) (by rw[b7];intro us z;cases z)),b5,b6,b7⟩
  have e0:oG P w K mg (ma I.heap H) callerA [] I H:=⟨rfl,hM,λb o e=>Hj e,Q1w (Hh _ _),trivial,λb L=>absurd (show b∈([]:List Addr) from L) (by simp),al,.of_eq hg⟩;refine codeAny_mono ((F _ am (ae ai) ax).run callerA [] I H ⟨[.ref a],[]⟩ [.ref a] [.ref a] _ _ hr e0 (ah I (.ref a)) (.cons rfl .nil) (av H hO ak hS)) λr s' h=>?_
  cases r with
  |error e=>exact(aw H e s' h).elim
  |ok fl=>
   cases fl with
   |next=>exact False.elim h
   |brk=>exact False.elim h
   |cont=>exact False.elim h
   |ret u=>
    obtain⟨v,H',os,ap,un,ag,r',q⟩:=h;have q':v=.bl true:=q;subst q';obtain rfl:u=Value.bool true:=r'
    have ac:∀b,b∈J.map (·.2)->∃ps,s'.heap.get? b=some (W.tabObj ps):=λb hm=>by
     obtain⟨q,hq,rfl⟩:=List.mem_map.mp hm;obtain⟨ay,e⟩:=un.kK _ _ (ak q hq);exact⟨_,ag _ _ e⟩
    have keep:∀b o,b ∉ J.map (·.2)->I.heap.get? b=some o->s'.heap.get? b=some o:=λb o L e=>by
     cases q:H b with
     |none=>exact un.keep b o e q (by intro z;exact absurd (show b∈([]:List Addr) from z) (by simp)) (by simp)
     |some u=>
      rcases hO b with z|⟨ob,xs,z⟩|⟨z,_⟩
      . rw[q] at z;cases z
      . have z2:=un.ke b ob _ z;obtain⟨e1,_⟩:=al b _ z;obtain⟨e2,_⟩:=ag b _ z2;rw[e] at e1;cases e1;exact e2
      . exact absurd z L
    refine⟨rfl,⟨λb o e=>?_,λb o e=>?_⟩,os,ap⟩
    . by_cases L:b∈J.map (·.2)
      . obtain⟨ps,hP⟩:=ac b L;have e2:=Y b L;rw[e] at e2;cases e2;obtain⟨q,hq,rfl⟩:=List.mem_map.mp L;exact .inr (.inl ⟨((hT q hq).1.tab (hT q hq).2).isCodeTable,rfl,#[],ps,rfl,by rw[Q2t];exact hP⟩)
      . exact .inl (keep b o L e)
    . by_cases L:b∈J.map (·.2)
      . obtain⟨ps,hP⟩:=ac b L;exact⟨_,hP⟩
      . exact⟨o,keep b o L e⟩
 cases hk:K.lookup a with
 |some o=>
  have e:=KX a o hk;rw[ha] at e
  cases e;refine af (λb=>if b∈J.map (·.2) then some (.iJ #[]) else none) (λb=>?_) (λq hq=>if_pos (Q0y hq)) (.inr ⟨_,vs.toArray,_,hk,rfl,rfl,rfl,by rw[Q06,ao];exact hl,by simpa using rv⟩) (λb u z=>?_) (λb z=>?_) λz=>absurd (if_neg aj) z
  . by_cases L:b∈J.map (·.2)
    . exact .inr (.inr ⟨L,if_pos L⟩)
    . exact .inl (if_neg L)
  . by_cases L:b∈J.map (·.2)
    . have z':=(if_pos L).symm.trans z
      cases z';exact Y b L
    . have z':=(if_neg L).symm.trans z
      cases z'
  . by_cases L:b∈J.map (·.2)
    . exact .inr L
    . exact absurd (if_neg L) z
 |none=>
  refine af (λb=>if b∈J.map (·.2) then some (.iJ #[]) else if b=a then some (.iU { cls:=.type "list",data:=.seq vs.toArray } (.lst (ns.map V.int))) else none) (λb=>?_) (λq hq=>if_pos (Q0y hq))
   (.inl (.inr ⟨{ cls:=.type "list",data:=.seq vs.toArray },(if_neg aj).trans (if_pos rfl)⟩)) (λb u z=>?_) (λb z=>?_) λ_=>hk
  . by_cases L:b∈J.map (·.2)
    . exact .inr (.inr ⟨L,if_pos L⟩)
    . by_cases aa:b=a
      . exact .inr (.inl ⟨_,_,(if_neg L).trans (if_pos aa)⟩)
      . exact .inl ((if_neg L).trans (if_neg aa))
  . by_cases L:b∈J.map (·.2)
    . have z':=(if_pos L).symm.trans z
      cases z';exact Y b L
    . have z:=(if_neg L).symm.trans z;by_cases aa:b=a
      . have z':=(if_pos aa).symm.trans z
        cases z';subst aa;exact⟨ha,by rw[Q0];exact hl,vs,_,rv,ha⟩
      . have z':=(if_neg aa).symm.trans z
        cases z'
  . by_cases L:b∈J.map (·.2)
    . exact .inr L
    . by_cases aa:b=a
      . exact .inl aa
      . exact absurd ((if_neg L).trans (if_neg aa)) z
theorem Kb {l:W.OpenLaw}{n k:Nat}{q:Program}{loose:List Str}{XP:(Str->Option Value)->Heap->Prop}{YP:World->Heap->Prop}{d:DefRec}{K:Params->W.Frag}{sp:World->List (Addr × Addr)->Sp}{x:Str}{names:List Str}
 (hn:l.most=some n) (ac:n<=sizeLine) (ae:d.params.defaults=[]) (hr:ig k callerA)
 (hY:∀(w:World) (h:Heap),YP w h->(K w.params).In h) (af:∀w:World,W.noTabs (K w.params)=true)
 (tb:∀w:World,∃I:List (Addr × Addr),(∀q'∈I,∃y∈names,W.tabIn (K w.params) y=some q')/\
   (∀(mg:Str->Option Value) (fa:Addr) (h:Heap),(K w.params).In h->h.Ns mainGlobals mg->mg d.name=some (.ref fa)->
   ∃fd:FuncData,(∀(s:Shared) (u:Value),BindsTo s fd ⟨[u],[]⟩ [(x,u)])/\
    ∀base:Heap,(K w.params).In base->base.Ns mainGlobals mg->BM mg base->gc l.prog w (K w.params) mg base gf k fa fd [x] (sp w I)))
 (aa:∀y∈names,∃d',(recsOf q).find? (λe=>e.name == y)=some d')
 (ag:∀(w:World) (I:List (Addr × Addr)) (H:Hp) (a:Addr) (ns:List Int),ns.length<=n->tm (I.map (·.2)) H->(∀q∈I,H q.2=some (.iJ #[]))->f_ (K w.params) H a (ns.map V.int)->sp w I [.ref a] H (λv _=>v=.bl true) λ_ _ _=>False):
 W.WalkO q loose XP YP l.row.toRowW d [] (λf vs=>PySem.call f vs):=by
 refine Cy.Jn hn ae λw s₀ J mg mb fa o pm cd al a vs ns G Y ho hd am ah ab U L hg=>?_;have KX:=hY w _ Y;obtain⟨I,ht,F⟩:=tb w;obtain⟨fd,hb,hF⟩:=F mg fa _ KX G.T.g ah
 have hT:W.TabsAt I J.heap:=λq' hq=>by
  obtain⟨y,hy,ai⟩:=ht q' hq;obtain⟨d',aj⟩:=aa y hy;exact W.tab_of G.T KX aj ai
 have ak:BM mg J.heap:=by
  obtain⟨bm,ob,b1,b2,b3,b4,b5,b6⟩:=G.T.bmain;refine⟨bm,ob,b1,b2,λz=>?_,b3,b4,b5,b6⟩;obtain⟨o',es,ep,e,hd,_⟩:=G.T.g;rw[z,e] at b3;cases b3;rw[hd] at b6;cases b6
 exact J_ KX hT (af w) ak G.T.g G.T.b G.T.builtins G.T.nolimit hg ab U (Q0d L ac) hr hF hb (λH hO hP hS=>ag w I H a ns L hO hP hS) λH e s' h=>h.elim
end L2
namespace Pb
open L2 PyProof.Rows
mutual
inductive Kd where
 |num
 |iz
 |iD (fs:Fs)
 |rows (key by_:Str) (fs:Fs)
 |tree (k:Kd)
 |jd (fs:Fs)
inductive Fs where
 |nil
 |cons (x:Str) (k:Kd) (r:Fs)
end
mutual
inductive D where
 |int (z:Int)
 |str (x:Str)
 |non
 |boo (b:Bool)
 |tup (xs:Ds)
 |lst (xs:Ds)
 |dct (m:Ds)
inductive Ds where
 |nil
 |cons (x:Str) (d:D) (r:Ds)
end
mutual
noncomputable def Kd.dep:Kd->Nat
 | .num=>1
 | .iz=>1
 | .iD fs=>fs.dep+1
 | .rows _ _ fs=>fs.dep+1
 | .tree k=>k.dep+1
 | .jd fs=>fs.dep+1
noncomputable def Fs.dep:Fs->Nat
 | .nil=>0
 | .cons _ k r=>max k.dep r.dep
end
mutual
noncomputable def D.dep:D->Nat
 | .int _=>1
 | .str _=>1
 | .non=>1
 | .boo _=>1
 | .tup xs=>xs.dep+1
 | .lst xs=>xs.dep+1
 | .dct m=>m.dep+1
noncomputable def Ds.dep:Ds->Nat
 | .nil=>0
 | .cons _ d r=>max d.dep r.dep
end
theorem Kd.mP (k:Kd):1<=k.dep:=by cases k <;> simp[Kd.dep]
theorem D.mP (d:D):1<=d.dep:=by cases d <;> simp[D.dep]
noncomputable def Fs.names:Fs->List Str
 | .nil=>[]
 | .cons x _ r=>x::r.names
noncomputable def Fs.get:Fs->Str->Option Kd
 | .nil,_=>none
 | .cons y k r,x=>if x=y then some k else r.get x
noncomputable def Fs.at:Fs->Nat->Option (Str × Kd)
 | .nil,_=>none
 | .cons x k _,0=>some (x,k)
 | .cons _ _ r,i+1=>r.at i
noncomputable def Fs.snoc:Fs->Str->Kd->Fs
 | .nil,x,k=>.cons x k .nil
 | .cons y q r,x,k=>.cons y q (r.snoc x k)
noncomputable def Fs.take:Fs->Nat->Fs
 | .nil,_=>.nil
 | .cons _ _ _,0=>.nil
 | .cons x k r,i+1=>.cons x k (r.take i)
theorem Fs.vK:∀(fs:Fs) (x:Str) (k:Kd),(fs.snoc x k).names=fs.names++[x]
 | .nil,_,_=>rfl
 | .cons y q r,x,k=>by
   show y::(r.snoc x k).names=_;rw[Fs.vK r x k];rfl
theorem Fs.vL:∀(fs:Fs) (x:Str) (k:Kd),(fs.snoc x k).dep=max fs.dep k.dep
 | .nil,_,k=>by simp[Fs.snoc,Fs.dep]
 | .cons y q r,x,k=>by
   show max q.dep (r.snoc x k).dep=max (max q.dep r.dep) k.dep;rw[Fs.vL r x k,Nat.max_assoc]
theorem Fs.mr:∀(fs:Fs) (i:Nat),fs.names[i]? =(fs.at i).map (·.1)
 | .nil,i=>by simp[Fs.names,Fs.at]
 | .cons x k r,0=>by simp[Fs.names,Fs.at]
 | .cons x k r,i+1=>by
   show(x::r.names)[i+1]? =_;rw[Q39,Fs.mr r i];rfl
theorem Fs.Dj:∀{fs:Fs}{i:Nat},i<fs.names.length->∃x k,fs.at i=some (x,k)
 | .nil,i,h=>by simp[Fs.names] at h
 | .cons x k r,0,h=>⟨x,k,rfl⟩
 | .cons x k r,i+1,h=>Fs.Dj (fs:=r) (i:=i) (by simpa[Fs.names] using h)
theorem Fs.nF:∀{fs:Fs}{i:Nat}{x:Str}{k:Kd},fs.at i=some (x,k)->k.dep<=fs.dep
 | .nil,_,_,_,h=>by cases h
 | .cons x k r,0,_,_,h=>by
   cases h;exact Q2i _ _
 | .cons x k r,i+1,_,_,h=>Q0d (Fs.nF (fs:=r) (i:=i) h) (Q2j _ _)
theorem Fs.oS:∀{fs:Fs}{i:Nat}{x:Str}{k:Kd},fs.names.Nodup->fs.at i=some (x,k)->fs.get x=some k
 | .nil,_,_,_,_,h=>by cases h
 | .cons y q r,0,x,k,_,h=>by
   cases h;simp[Fs.get]
 | .cons y q r,i+1,x,k,nd,h=>by
   have nd:(y::r.names).Nodup:=nd;obtain⟨I,J⟩:=List.nodup_cons.mp nd;have h:r.at i=some (x,k):=h;have L:x∈r.names:=Q0j (i:=i) (by rw[Fs.mr,h];rfl);show(if x=y then some q else r.get x)=some k;rw[if_neg (λe=>I (by rw[<-e];exact L))];exact Fs.oS J h
theorem Fs.take_succ:∀{fs:Fs}{i:Nat}{x:Str}{k:Kd},fs.at i=some (x,k)->fs.take (i+1)=(fs.take i).snoc x k
 | .nil,_,_,_,h=>by cases h
 | .cons y q r,0,x,k,h=>by
   cases h
   cases r <;> rfl
 | .cons y q r,i+1,x,k,h=>by
   show Fs.cons y q (r.take (i+1))=Fs.cons y q ((r.take i).snoc x k);rw[Fs.take_succ (fs:=r) (i:=i) h]
theorem Fs.take_zero (fs:Fs):fs.take 0=.nil:=by cases fs <;> rfl
theorem Fs.take_all:∀(fs:Fs),fs.take fs.names.length=fs
 | .nil=>rfl
 | .cons x k r=>by
   show Fs.cons x k (r.take r.names.length)=_;rw[Fs.take_all r]
def jQ:Kd->Prop
 | .num=>True
 | .iz=>True
 |_=>False
def Fs.pl (fs:Fs) (x:Str):Prop:=∃k,fs.get x=some k/\jQ k
mutual
def Kd.W:Kd->Prop
 | .num=>True
 | .iz=>True
 | .iD fs=>fs.names.Nodup/\fs.names.length<=12/\fs.W
 | .rows key by_ fs=>fs.names.Nodup/\fs.names.length<=12/\fs.W/\fs.pl key/\(by_=""\/fs.pl by_)
 | .tree k=>k.W
 | .jd fs=>fs.names.Nodup/\fs.names.length<=12/\1<=fs.names.length/\fs.W
def Fs.W:Fs->Prop
 | .nil=>True
 | .cons x k r=>k.W/\x≠""/\r.W
end
theorem Fs.pP:∀{fs:Fs}{i:Nat}{x:Str}{k:Kd},fs.W->fs.at i=some (x,k)->k.W
 | .nil,_,_,_,_,h=>by cases h
 | .cons x k r,0,_,_,w,h=>by
   unfold Fs.W at w
   cases h;exact w.1
 | .cons x k r,i+1,_,_,w,h=>by
   unfold Fs.W at w;exact Fs.pP (fs:=r) (i:=i) w.2.2 h
theorem Fs.vM {x:Str}{k:Kd}(I:k.W)(J:x≠""):∀{fs:Fs},fs.W->(fs.snoc x k).W
 | .nil,_=>by
   show(Fs.cons x k .nil).W;unfold Fs.W;exact⟨I,J,by unfold Fs.W;trivial⟩
 | .cons y q r,h=>by
   unfold Fs.W at h;show(Fs.cons y q (r.snoc x k)).W;unfold Fs.W;exact⟨h.1,h.2.1,Fs.vM I J h.2.2⟩
noncomputable def Ds.get:Ds->Str->Option D
 | .nil,_=>none
 | .cons y d r,x=>if x=y then some d else r.get x
noncomputable def keyOf (m:Ds) (x:Str):Key:=match m.get x with
 |some (.int z)=>.inl z
 |some (.str s)=>.inr s
 |_=>.inl 0
noncomputable def rankOf (key by_:Str) (m:Ds):List Key:=if by_="" then [keyOf m key] else [keyOf m by_,keyOf m key]
theorem Kc {key by_:Str}{a b:Ds}(h:rankOf key by_ a=rankOf key by_ b):keyOf a key=keyOf b key:=by
 unfold rankOf at h;split at h
 . exact(List.cons.inj h).1
 . exact(List.cons.inj (List.cons.inj h).2).1
def kr (key by_:Str) (a b:Ds):Prop:=iq (rankOf key by_ a) (rankOf key by_ b)=true
def mQ (key by_:Str) (a b:Ds):Prop:=lr (rankOf key by_ a) (rankOf key by_ b)
noncomputable def ins (key by_:Str) (m:Ds):List Ds->List Ds
 |[]=>[m]
 |y::q=>if iq (rankOf key by_ y) (rankOf key by_ m)=true then y::ins key by_ m q else m::y::q
noncomputable def iL (key by_:Str):List Ds->List Ds
 |[]=>[]
 |m::r=>ins key by_ m (iL key by_ r)
theorem vN (key by_:Str)(m:Ds):∀l:List Ds,(ins key by_ m l).Perm (m::l)
 |[]=>List.Perm.refl _
 |y::q=>by
  unfold ins;split
  . exact((vN key by_ m q).cons y).trans (List.Perm.swap m y q)
  . exact List.Perm.refl _
theorem lZ (key by_:Str):∀l:List Ds,(iL key by_ l).Perm l
 |[]=>List.Perm.refl _
 |m::r=>(vN key by_ m _).trans ((lZ key by_ r).cons m)
theorem Dk {a b:List Key}(h:iq a b=true):lr a b:=KeyOrd.kle_of_klt (O:=pO) h
theorem Ke {a b c:List Key}(h1:lr a b)(h2:lr b c):lr a c:=KeyOrd.kle_trans (O:=pO) h1 h2
theorem Dl (key by_:Str)(m:Ds):∀{l:List Ds},l.Pairwise (mQ key by_)->(ins key by_ m l).Pairwise (mQ key by_)
 |[],_=>Q1r _ _
 |y::q,h=>by
  obtain⟨h1,h2⟩:=List.pairwise_cons.mp h;unfold ins;by_cases c:iq (rankOf key by_ y) (rankOf key by_ m)=true
  . rw[if_pos c];refine List.pairwise_cons.mpr ⟨λz I=>?_,Dl key by_ m h2⟩;rcases List.mem_cons.mp ((vN key by_ m q).mem_iff.mp I) with e|e
    . rw[e];exact Dk c
    . exact h1 z e
  . rw[if_neg c];have c':mQ key by_ m y:=by unfold mQ lr;simpa using c
    refine List.pairwise_cons.mpr ⟨λz I=>?_,h⟩;rcases List.mem_cons.mp I with e|e
    . rw[e];exact c'
    . exact Ke c' (h1 z e)
theorem rb (key by_:Str):∀l:List Ds,(iL key by_ l).Pairwise (mQ key by_)
 |[]=>List.Pairwise.nil
 |m::r=>Dl key by_ m (rb key by_ r)
theorem rd {key by_:Str}{l:List Ds}(h:l.Pairwise (mQ key by_))(nd:(l.map λm=>keyOf m key).Nodup):l.Pairwise (kr key by_):=by
 have I:l.Pairwise λa b=>keyOf a key≠keyOf b key:=List.pairwise_map.mp nd;refine(h.and I).imp λ{a b} ⟨h1,h2⟩=>?_;rcases pN (rankOf key by_ a) (rankOf key by_ b) with q|q|q
 . exact q
 . exact absurd (Kc q) h2
 . have h1:iq (rankOf key by_ b) (rankOf key by_ a)=false:=h1;rw[h1] at q;cases q
theorem Dq {key by_:Str}:∀{J I:List Ds},J.Perm I->J.Pairwise (kr key by_)->I.Pairwise (kr key by_)->J=I
 |[],I,p,_,_=>by rw[p.nil_eq]
 |a::r,[],p,_,_=>absurd p.length_eq (by simp)
 |a::r,b::q,p,h1,h2=>by
  obtain⟨U,Y⟩:=List.pairwise_cons.mp h1;obtain⟨b1,b2⟩:=List.pairwise_cons.mp h2
  have e:a=b:=by
   have ha:a∈b::q:=p.mem_iff.mp Q02;have hb:b∈a::r:=p.mem_iff.mpr Q02;rcases List.mem_cons.mp ha with e|e
   . exact e
   . rcases List.mem_cons.mp hb with L|L
     . exact L.symm
     . have z:=oO _ _ _ (U b L) (b1 a e);rw[ra] at z;cases z
  subst e;rw[Dq ((Q2k a).mp p) Y b2]
theorem vO {key by_:Str}{l z:List Ds}(p:z.Perm l)(h:z.Pairwise (mQ key by_))(nd:(l.map λm=>keyOf m key).Nodup):z=iL key by_ l:=
 Dq (p.trans (lZ key by_ l).symm) (rd h ((p.map _).nodup_iff.mpr nd)) (rd (rb key by_ l) (((lZ key by_ l).map _).nodup_iff.mpr nd))
noncomputable def ic:List Ds->Ds
 |[]=>.nil
 |m::r=>.cons "" (.dct m) (ic r)
noncomputable abbrev pairD (a b:D):D:=.tup (.cons "" a (.cons "" b .nil))
mutual
def Tree (P:D->Prop):D->Prop
 | .tup xs=>kW P xs
 |_=>False
def kW (P:D->Prop):Ds->Prop
 | .cons _ t (.cons _ (.lst as) .nil)=>P t/\ky P as
 |_=>False
def ky (P:D->Prop):Ds->Prop
 | .nil=>True
 | .cons _ d r=>Tree P d/\ky P r
end
mutual
def ia:Kd->D->Prop
 | .num,d=>∃z,d=.int z
 | .iz,d=>∃x,d=.str x
 | .iD fs,d=>∃m,d=.dct m/\gU fs m
 | .rows key by_ fs,d=>∃I:List Ds,d=.lst (ic I)/\(∀m∈I,gU fs m)/\I.Pairwise (kr key by_)/\(I.map λm=>keyOf m key).Nodup
 | .tree k,d=>Tree (ia k) d
 | .jd fs,d=>∃x v,d=pairD (.str x) v/\lu fs x v
def gU:Fs->Ds->Prop
 | .nil,m=>m=.nil
 | .cons x k r,m=>∃d q,m=.cons x d q/\ia k d/\gU r q
def lu:Fs->Str->D->Prop
 | .nil,_,_=>False
 | .cons y k r,x,v=>(x=y/\ia k v)\/(x≠y/\lu r x v)
end
theorem Tree.shape {P:D->Prop}:∀{d:D},Tree P d->∃x y t as,d=.tup (.cons x t (.cons y (.lst as) .nil))/\P t/\ky P as
 | .tup (.cons x t (.cons y (.lst as) .nil)),h=>by
   unfold Tree kW at h;exact⟨x,y,t,as,rfl,h.1,h.2⟩
 | .tup .nil,h=>by unfold Tree kW at h;exact h.elim
 | .tup (.cons _ _ .nil),h=>by unfold Tree kW at h;exact h.elim
 | .tup (.cons _ _ (.cons _ (.int _) _)),h=>by unfold Tree kW at h;exact h.elim
 | .tup (.cons _ _ (.cons _ (.str _) _)),h=>by unfold Tree kW at h;exact h.elim
 | .tup (.cons _ _ (.cons _ .non _)),h=>by unfold Tree kW at h;exact h.elim
 | .tup (.cons _ _ (.cons _ (.boo _) _)),h=>by unfold Tree kW at h;exact h.elim
 | .tup (.cons _ _ (.cons _ (.tup _) _)),h=>by unfold Tree kW at h;exact h.elim
 | .tup (.cons _ _ (.cons _ (.dct _) _)),h=>by unfold Tree kW at h;exact h.elim
 | .tup (.cons _ _ (.cons _ (.lst _) (.cons _ _ _))),h=>by unfold Tree kW at h;exact h.elim
 | .int _,h=>by unfold Tree at h;exact h.elim
 | .str _,h=>by unfold Tree at h;exact h.elim
 | .non,h=>by unfold Tree at h;exact h.elim
 | .boo _,h=>by unfold Tree at h;exact h.elim
 | .lst _,h=>by unfold Tree at h;exact h.elim
 | .dct _,h=>by unfold Tree at h;exact h.elim
theorem gU.get:∀{fs:Fs}{m:Ds}{x:Str}{k:Kd},gU fs m->fs.get x=some k->∃d,m.get x=some d/\ia k d
 | .nil,_,_,_,_,h=>by cases h
 | .cons y q r,m,x,k,f,h=>by
   unfold gU at f;obtain⟨d,t,rfl,f1,f2⟩:=f;have h:(if x=y then some q else r.get x)=some k:=h;by_cases e:x=y
   . rw[if_pos e] at h
     cases h;exact⟨d,by show(if x=y then some d else t.get x)=_;rw[if_pos e],f1⟩
   . rw[if_neg e] at h;obtain⟨d',I,J⟩:=gU.get f2 h;exact⟨d',by show(if x=y then some d else t.get x)=_;rw[if_neg e];exact I,J⟩
theorem gU.plain {fs:Fs}{m:Ds}{x:Str}(f:gU fs m)(h:fs.pl x):(m.get x=some (.int 0)\/True)/\((∃z,m.get x=some (.int z)/\keyOf m x=.inl z/\fs.get x=some .num)\/∃s,m.get x=some (.str s)/\keyOf m x=.inr s/\fs.get x=some .iz):=by
 refine⟨.inr trivial,?_⟩;obtain⟨k,h1,h2⟩:=h;obtain⟨d,I,J⟩:=f.get h1
 cases k with
 |num=>
  unfold ia at J;obtain⟨z,rfl⟩:=J;exact .inl ⟨z,I,by unfold keyOf;rw[I],h1⟩
 |iz=>
  unfold ia at J;obtain⟨s,rfl⟩:=J;exact .inr ⟨s,I,by unfold keyOf;rw[I],h1⟩
 |iD _=>exact h2.elim
 |rows _ _ _=>exact h2.elim
 |tree _=>exact h2.elim
 |jd _=>exact h2.elim
theorem Dr:∀{fs:Fs}{x:Str}{v:D},lu fs x v->x∈fs.names
 | .nil,_,_,h=>by unfold lu at h;exact h.elim
 | .cons y k r,x,v,h=>by
   unfold lu at h;rcases h with⟨e,_⟩|⟨_,h⟩
   . rw[e];exact Q02
   . exact Q07 _ (Dr h)
noncomputable def kz:Option Kd->Bool
 |some .num=>true
 |_=>false
theorem gU.tag {fs:Fs}{m:Ds}{x:Str}(f:gU fs m)(h:fs.pl x):iK (keyOf m x)=kz (fs.get x):=by
 rcases(f.plain h).2 with⟨z,_,e,g⟩|⟨s,_,e,g⟩ <;> rw[e,g] <;> rfl
theorem Kf {fs:Fs}{key by_:Str}{m:Ds}(f:gU fs m)(h1:fs.pl key)(h2:by_=""\/fs.pl by_):(rankOf key by_ m).map iK=if by_="" then [kz (fs.get key)] else [kz (fs.get by_),kz (fs.get key)]:=by
 unfold rankOf;split
 . show [iK (keyOf m key)]=_;rw[f.tag h1]
 . rename_i e;rcases h2 with z|z
   . exact absurd z e
   . show [iK (keyOf m by_),iK (keyOf m key)]=_;rw[f.tag h1,f.tag z]
noncomputable def cellAt (ns:List Int) (n:Int):Int:=if 0<ns.length then ns.getD (n % (ns.length:Int)).toNat 0 else 0
noncomputable def nx (ns:List Int) (n:Int):Int:=
 ((cellAt ns n % 2147483647+n * n * 7919+11) * 48271 % 2147483647) * ((cellAt ns n % 2147483647+n * n * 7919+11) * 48271 % 2147483647) % 1999999973
theorem vP (ns:List Int)(n:Int):0<=nx ns n:=Q0m _ (by decide)
theorem vQ (ns:List Int)(n:Int):nx ns n<1999999973:=Q0n _ (by decide)
noncomputable def num (ns:List Int) (n:Int):Int:=
 if nx ns n % 3=0 then nx ns n / 3 % 7 - 3 else(cellAt ns n % 10 ^ 40+nx ns n * 10 ^ 29) % (2 * 10 ^ 40) - 10 ^ 40
noncomputable def lx:Str:=" !#$&'()*+,-./0123456789:;<=>?@ABCDEFGHIJKLMNOPQRSTUVWXYZ"++"[\\]^_`abcdefghijklmnopqrstuvwxyz{|}~"
noncomputable def pQ (m:Int):Nat->Str
 |0=>""
 |k+1=>pQ m k++⟨#[(lx.cps.toList.getD ((m / 145+(k:Int) * (k:Int) * (m / 7 % 3)) % 93).toNat 0)]⟩
noncomputable def iz (ns:List Int) (n:Int):Str:=pQ (nx ns n) (if nx ns n / 5 % 29=0 then 40 else(nx ns n % 5).toNat)
noncomputable def times (g:Int->D × Int):Nat->Int->Ds × Int
 |0,n=>(.nil,n)
 |m+1,n=>(.cons "" (g n).1 (times g m (g n).2).1,(times g m (g n).2).2)
noncomputable def iX (ns:List Int) (f:Nat->Int->D × Int):Nat->Nat->Int->D × Int
 |0,_,n=>(.int 0,n)
 |fu+1,room,n=>
  (pairD (f (room / 2) n).1 (.lst (times (iX ns f fu (room / 2)) (nx ns ((f (room / 2) n).2+1) % ((room:Int)+1)).toNat ((f (room / 2) n).2+1)).1),
    (times (iX ns f fu (room / 2)) (nx ns ((f (room / 2) n).2+1) % ((room:Int)+1)).toNat ((f (room / 2) n).2+1)).2)
noncomputable def nG (key:Str) (l:List Ds) (k:Key):Bool:=l.any λr=>decide (keyOf r key=k)
noncomputable def ix (g:Int->Ds × Int) (key:Str):Nat->List Ds->Int->List Ds × Int
 |0,I,n=>(I,n)
 |m+1,I,n=>if nG key I (keyOf (g n).1 key)=true then ix g key m I (g n).2 else ix g key m (I++[(g n).1]) (g n).2
mutual
noncomputable def val (ns:List Int):Kd->Nat->Int->D × Int
 | .num,_,n=>(.int (num ns (n+1)),n+1)
 | .iz,_,n=>(.str (iz ns (n+1)),n+1)
 | .iD fs,room,n=>(.dct (gI ns fs room n).1,(gI ns fs room n).2)
 | .rows key by_ fs,room,n=>
   (.lst (ic (iL key by_ (ix (gI ns fs (room / 2)) key (nx ns (n+1) % ((room:Int)+1)).toNat [] (n+1)).1)),(ix (gI ns fs (room / 2)) key (nx ns (n+1) % ((room:Int)+1)).toNat [] (n+1)).2)
 | .tree k,room,n=>iX ns (val ns k) 4 room n
 | .jd fs,room,n=>jl ns fs (nx ns (n+1) % (fs.names.length:Int)).toNat room (n+1)
noncomputable def gI (ns:List Int):Fs->Nat->Int->Ds × Int
 | .nil,_,n=>(.nil,n)
 | .cons x k r,room,n=>(.cons x (val ns k room n).1 (gI ns r room (val ns k room n).2).1,(gI ns r room (val ns k room n).2).2)
noncomputable def jl (ns:List Int):Fs->Nat->Nat->Int->D × Int
 | .nil,_,_,n=>(.int 0,n)
 | .cons x k _,0,room,n=>(pairD (.str x) (val ns k room n).1,(val ns k room n).2)
 | .cons _ _ r,i+1,room,n=>jl ns r i room n
end
theorem tw {g:Int->Ds × Int}{key:Str}:∀(m:Nat) (I:List Ds) (n:Int),(I.map λr=>keyOf r key).Nodup->((ix g key m I n).1.map λr=>keyOf r key).Nodup
 |0,_,_,h=>h
 |m+1,I,n,h=>by
  unfold ix;split
  . exact tw m I _ h
  . rename_i c;refine tw m _ _ ?_;rw[Q0b];refine List.nodup_append.mpr ⟨h,by simp,λa J b L=>?_⟩;have:b=keyOf (g n).1 key:=by simpa using L
    rw[this];obtain⟨r,U,e⟩:=List.mem_map.mp J;exact λY=>c (List.any_eq_true.mpr ⟨r,U,decide_eq_true (e.trans Y)⟩)
theorem pR {g:Int->Ds × Int}{key:Str}{R:Ds->Prop}(J:∀n,R (g n).1):∀(m:Nat) (I:List Ds) (n:Int),(∀r∈I,R r)->∀r∈(ix g key m I n).1,R r
 |0,_,_,h=>h
 |m+1,I,n,h=>by
  unfold ix;split
  . exact pR J m I _ h
  . refine pR J m _ _ λr L=>?_;rcases List.mem_append.mp L with q|q
    . exact h r q
    . have:r=(g n).1:=by simpa using q
      rw[this];exact J n
theorem Du {P:D->Prop}{g:Int->D × Int}(I:∀n,Tree P (g n).1):∀(m:Nat) (n:Int),ky P (times g m n).1
 |0,_=>by unfold times ky;trivial
 |m+1,n=>by
  unfold times ky;exact⟨I n,Du I m _⟩
theorem Dv {ns:List Int}{P:D->Prop}{f:Nat->Int->D × Int}(I:∀room n,room<8->P (f room n).1):∀(fu room:Nat) (n:Int),room<8->room<2 ^ fu->Tree P (iX ns f (fu+1) room n).1
 |0,room,n,_,h=>by
  have e:room=0:=by simpa using h
  subst e;unfold iX
  have J:(nx ns ((f (0 / 2) n).2+1) % (((0:Nat):Int)+1)).toNat=0:=by
   have:nx ns ((f (0 / 2) n).2+1) % (((0:Nat):Int)+1)=0:=by
    show _ % (1:Int)=0;exact Int.emod_one _
   rw[this];rfl
  rw[J];unfold Tree kW;exact⟨I _ _ (by decide),by unfold times ky;trivial⟩
 |fu+1,room,n,U,h=>by
  have L:=λm=>Dv (ns:=ns) I fu (room / 2) m (by omega) (by rw[Nat.pow_succ] at h;omega);unfold iX;unfold Tree kW;exact⟨I _ _ (by omega),Du L _ _⟩
mutual
theorem tz (ns:List Int):∀(k:Kd),k.W->∀(room:Nat) (n:Int),room<8->ia k (val ns k room n).1
 | .num,_,room,n,_=>by unfold val ia;exact⟨_,rfl⟩
 | .iz,_,room,n,_=>by unfold val ia;exact⟨_,rfl⟩
 | .iD fs,w,room,n,h=>by
   unfold Kd.W at w;unfold val ia;exact⟨_,rfl,oU ns fs w.2.2 room n h⟩
 | .rows key by_ fs,w,room,n,h=>by
   unfold Kd.W at w;unfold val ia;have nd:=tw (g:=gI ns fs (room / 2)) (key:=key) (nx ns (n+1) % ((room:Int)+1)).toNat [] (n+1) Q0o;refine⟨_,rfl,λm I=>?_,?_,?_⟩
   . exact pR (R:=gU fs) (λn=>oU ns fs w.2.2.1 (room / 2) n (by omega)) _ _ _ (λr J=>absurd J (by simp)) m ((lZ key by_ _).mem_iff.mp I)
   . exact rd (rb key by_ _) (((lZ key by_ _).map _).nodup_iff.mpr nd)
   . exact((lZ key by_ _).map _).nodup_iff.mpr nd
 | .tree k,w,room,n,h=>by
   unfold Kd.W at w;unfold val ia;exact Dv (λroom n h=>tz ns k w room n h) 3 room n h (by simpa using h)
 | .jd fs,w,room,n,h=>by
   unfold Kd.W at w;unfold val ia
   have hl:(nx ns (n+1) % (fs.names.length:Int)).toNat<fs.names.length:=by
    have:=Q0n (nx ns (n+1)) (show(0:Int)<fs.names.length by omega);have:=Q0m (nx ns (n+1)) (show(fs.names.length:Int)≠0 by omega);omega
   exact Dw ns fs w.2.2.2 w.1 _ room _ h hl
theorem oU (ns:List Int):∀(fs:Fs),fs.W->∀(room:Nat) (n:Int),room<8->gU fs (gI ns fs room n).1
 | .nil,_,_,_,_=>by unfold gI gU;rfl
 | .cons x k r,w,room,n,h=>by
   unfold Fs.W at w;unfold gI gU;exact⟨_,_,rfl,tz ns k w.1 room n h,oU ns r w.2.2 room _ h⟩
theorem Dw (ns:List Int):∀(fs:Fs),fs.W->fs.names.Nodup->∀(i room:Nat) (n:Int),room<8->i<fs.names.length->∃x v,(jl ns fs i room n).1=pairD (.str x) v/\lu fs x v
 | .nil,_,_,i,_,_,_,hi=>by simp[Fs.names] at hi
 | .cons x k r,w,nd,0,room,n,h,hi=>by
   unfold Fs.W at w;unfold jl;exact⟨x,_,rfl,by unfold lu;exact .inl ⟨rfl,tz ns k w.1 room n h⟩⟩
 | .cons x k r,w,nd,i+1,room,n,h,hi=>by
   unfold Fs.W at w;unfold jl;have nd:(x::r.names).Nodup:=nd;obtain⟨I,J⟩:=List.nodup_cons.mp nd;obtain⟨y,v,e,f⟩:=Dw ns r w.2.2 J i room n h (by simpa[Fs.names] using hi);refine⟨y,v,e,?_⟩;unfold lu;exact .inr ⟨λz=>I (by rw[<-z];exact Dr f),f⟩
end
mutual
noncomputable def Kd.dB:Kd->Nat
 | .num=>1
 | .iz=>1
 | .iD fs=>fs.dB+1
 | .rows _ _ fs=>fs.dB+2
 | .tree k=>k.dB+10
 | .jd fs=>fs.dB+2
noncomputable def Fs.dB:Fs->Nat
 | .nil=>0
 | .cons _ k r=>max k.dB r.dB
end
mutual
noncomputable def Kd.cB:Kd->Nat
 | .num=>1
 | .iz=>1
 | .iD fs=>fs.cB
 | .rows _ _ fs=>8 * fs.cB+1
 | .tree k=>(k.cB+1) * 585
 | .jd fs=>fs.cB+1
noncomputable def Fs.cB:Fs->Nat
 | .nil=>0
 | .cons _ k r=>k.cB+r.cB
end
theorem pS:∀{l:List Ds}{n:Nat},(∀m∈l,m.dep<=n)->(ic l).dep<=n+1
 |[],n,_=>by simp[ic,Ds.dep]
 |m::r,n,h=>by
  have h1:=h m Q02;have h2:=pS (l:=r) (n:=n) λx I=>h x (Q07 _ I);simp only[ic,Ds.dep,D.dep];omega
theorem Dx {g:Int->D × Int}{N:Nat}(I:∀n,(g n).1.dep<=N):∀(m:Nat) (n:Int),(times g m n).1.dep<=N
 |0,_=>by simp[times,Ds.dep]
 |m+1,n=>by
  have h1:=I n;have h2:=Dx I m (g n).2;simp only[times,Ds.dep];omega
theorem Dy {ns:List Int}{f:Nat->Int->D × Int}{N:Nat}(h1:1<=N)(I:∀room n,(f room n).1.dep<=N):∀(fu room:Nat) (n:Int),(iX ns f fu room n).1.dep<=N+2 * fu
 |0,_,_=>by simp[iX,D.dep];omega
 |fu+1,room,n=>by
  have a:=I (room / 2) n;have b:=Dx (g:=iX ns f fu (room / 2)) (N:=N+2 * fu) (λn=>Dy h1 I fu (room / 2) n) (nx ns ((f (room / 2) n).2+1) % ((room:Int)+1)).toNat ((f (room / 2) n).2+1);simp only[iX,D.dep,Ds.dep];omega
theorem Kd.Kg (k:Kd):1<=k.dB:=by cases k <;> simp[Kd.dB]
mutual
theorem vR (ns:List Int):∀(k:Kd) (room:Nat) (n:Int),(val ns k room n).1.dep<=k.dB
 | .num,_,_=>by simp[val,D.dep,Kd.dB]
 | .iz,_,_=>by simp[val,D.dep,Kd.dB]
 | .iD fs,room,n=>by
   have:=tD ns fs room n;simp only[val,D.dep,Kd.dB];omega
 | .rows key by_ fs,room,n=>by
   have:=pS (l:=iL key by_ (ix (gI ns fs (room / 2)) key (nx ns (n+1) % ((room:Int)+1)).toNat [] (n+1)).1) (n:=fs.dB) λm I=>
    pR (R:=λm=>m.dep<=fs.dB) (λn=>tD ns fs (room / 2) n) _ _ _ (λr J=>absurd J (by simp)) m ((lZ key by_ _).mem_iff.mp I)
   simp only[val,D.dep,Kd.dB];omega
 | .tree k,room,n=>by
   have:=Dy (ns:=ns) (f:=val ns k) k.Kg (λroom n=>vR ns k room n) 4 room n;simp only[val,Kd.dB];omega
 | .jd fs,room,n=>by
   have:=DA ns fs (nx ns (n+1) % (fs.names.length:Int)).toNat room (n+1);simp only[val,Kd.dB];omega
theorem tD (ns:List Int):∀(fs:Fs) (room:Nat) (n:Int),(gI ns fs room n).1.dep<=fs.dB
 | .nil,_,_=>by simp[gI,Ds.dep]
 | .cons x k r,room,n=>by
   have a:=vR ns k room n;have b:=tD ns r room (val ns k room n).2;simp only[gI,Ds.dep,Fs.dB];omega
theorem DA (ns:List Int):∀(fs:Fs) (i room:Nat) (n:Int),(jl ns fs i room n).1.dep<=fs.dB+2
 | .nil,_,_,_=>by simp[jl,D.dep]
 | .cons x k r,0,room,n=>by
   have a:=vR ns k room n;simp only[jl,D.dep,Ds.dep,Fs.dB];omega
 | .cons x k r,i+1,room,n=>by
   have a:=DA ns r i room n;simp only[jl,Fs.dB];omega
end
theorem mod_le {a:Int}{room:Nat}(h:room<8):(a % ((room:Int)+1)).toNat<=room:=by
 have:=Q0n a (show(0:Int)<(room:Int)+1 by omega);have:=Q0m a (show((room:Int)+1)≠0 by omega);omega
theorem vS {g:Int->D × Int}{N:Nat}(I:∀n,n<=(g n).2/\(g n).2<=n+N):∀(m:Nat) (n:Int),n<=(times g m n).2/\(times g m n).2<=n+(m * N:Nat)
 |0,n=>by simp[times]
 |m+1,n=>by
  obtain⟨J,L⟩:=I n;obtain⟨U,Y⟩:=vS I m (g n).2;have e:(m+1) * N=m * N+N:=Q1s m N;simp only[times];rw[e];omega
noncomputable def mv:Nat->Nat
 |0=>0
 |n+1=>8 * mv n+1
theorem pT {ns:List Int}{f:Nat->Int->D × Int}{N:Nat}(I:∀room n,room<8->n<=(f room n).2/\(f room n).2<=n+N):∀(fu room:Nat) (n:Int),room<8->n<=(iX ns f fu room n).2/\(iX ns f fu room n).2<=n+((N+1) * mv fu:Nat)
 |0,_,n,_=>by simp[iX,mv]
 |fu+1,room,n,h=>by
  obtain⟨J,L⟩:=I (room / 2) n (by omega);obtain⟨U,Y⟩:=vS (g:=iX ns f fu (room / 2)) (N:=(N+1) * mv fu) (λn=>pT I fu (room / 2) n (by omega)) (nx ns ((f (room / 2) n).2+1) % ((room:Int)+1)).toNat ((f (room / 2) n).2+1);have c:=mod_le (a:=nx ns ((f (room / 2) n).2+1)) h;have d:(nx ns ((f (room / 2) n).2+1) % ((room:Int)+1)).toNat * ((N+1) * mv fu)<=8 * ((N+1) * mv fu):=Q18 _ (by omega)
  have e:(N+1) * mv (fu+1)=8 * ((N+1) * mv fu)+(N+1):=by
   show(N+1) * (8 * mv fu+1)=_;rw[Nat.mul_add,Q3a,Nat.mul_one]
  simp only[iX];rw[e];omega
theorem tE {g:Int->Ds × Int}{key:Str}{N:Nat}(J:∀n,n<=(g n).2/\(g n).2<=n+N):∀(m:Nat) (I:List Ds) (n:Int),n<=(ix g key m I n).2/\(ix g key m I n).2<=n+(m * N:Nat)
 |0,_,n=>by simp[ix]
 |m+1,I,n=>by
  obtain⟨Y,a2⟩:=J n;have e:(m+1) * N=m * N+N:=Q1s m N;unfold ix;rw[e];split
  . obtain⟨L,U⟩:=tE (key:=key) J m I (g n).2;omega
  . obtain⟨L,U⟩:=tE (key:=key) J m (I++[(g n).1]) (g n).2;omega
mutual
theorem pU (ns:List Int):∀(k:Kd) (room:Nat) (n:Int),room<8->n<=(val ns k room n).2/\(val ns k room n).2<=n+k.cB
 | .num,_,_,_=>by simp only[val,Kd.cB];omega
 | .iz,_,_,_=>by simp only[val,Kd.cB];omega
 | .iD fs,room,n,h=>by
   have:=pV ns fs room n h;simp only[val,Kd.cB];omega
 | .rows key by_ fs,room,n,h=>by
   obtain⟨I,J⟩:=tE (g:=gI ns fs (room / 2)) (key:=key) (N:=fs.cB) (λn=>pV ns fs (room / 2) n (by omega)) (nx ns (n+1) % ((room:Int)+1)).toNat [] (n+1);have c:=mod_le (a:=nx ns (n+1)) h;have d:(nx ns (n+1) % ((room:Int)+1)).toNat * fs.cB<=8 * fs.cB:=Q18 _ (by omega);simp only[val,Kd.cB];omega
 | .tree k,room,n,h=>by
   have:=pT (ns:=ns) (f:=val ns k) (N:=k.cB) (λroom n h=>pU ns k room n h) 4 room n h;have e:mv 4=585:=rfl;rw[e] at this;simp only[val,Kd.cB];omega
 | .jd fs,room,n,h=>by
   have:=DB ns fs (nx ns (n+1) % (fs.names.length:Int)).toNat room (n+1) h;simp only[val,Kd.cB];omega
theorem pV (ns:List Int):∀(fs:Fs) (room:Nat) (n:Int),room<8->n<=(gI ns fs room n).2/\(gI ns fs room n).2<=n+fs.cB
 | .nil,_,_,_=>by simp[gI,Fs.cB]
 | .cons x k r,room,n,h=>by
   have a:=pU ns k room n h;have b:=pV ns r room (val ns k room n).2 h;simp only[gI,Fs.cB];omega
theorem DB (ns:List Int):∀(fs:Fs) (i room:Nat) (n:Int),room<8->n<=(jl ns fs i room n).2/\(jl ns fs i room n).2<=n+fs.cB
 | .nil,_,_,_,_=>by simp[jl,Fs.cB]
 | .cons x k r,0,room,n,h=>by
   have a:=pU ns k room n h;simp only[jl,Fs.cB];omega
 | .cons x k r,i+1,room,n,h=>by
   have a:=DB ns r i room n h;simp only[jl,Fs.cB];omega
end
noncomputable def CB:Nat->Nat
 |0=>1
 |d+1=>1200 * CB d
theorem pW:∀d,1<=CB d
 |0=>Q00 _
 |d+1=>by have:=pW d;show 1<=1200 * CB d;omega
mutual
theorem DC:∀(k:Kd) (d:Nat),k.W->k.dep<=d+1->k.cB<=CB d
 | .num,d,_,_=>pW d
 | .iz,d,_,_=>pW d
 | .iD fs,0,_,h=>by
   simp only[Kd.dep] at h
   cases fs with
   |nil=>simp[Kd.cB,Fs.cB]
   |cons x k r=>have:=k.mP;simp only[Fs.dep] at h;omega
 | .iD fs,d+1,w,h=>by
   unfold Kd.W at w;simp only[Kd.dep] at h;have:=rf fs d w.2.2 (by omega);have e:fs.names.length * CB d<=12 * CB d:=Q18 _ w.2.1;show fs.cB<=1200 * CB d;omega
 | .rows key by_ fs,0,w,h=>by
   simp only[Kd.dep] at h
   cases fs with
   |nil=>simp[Kd.cB,Fs.cB,CB]
   |cons x k r=>have:=k.mP;simp only[Fs.dep] at h;omega
 | .rows key by_ fs,d+1,w,h=>by
   unfold Kd.W at w;simp only[Kd.dep] at h;have:=rf fs d w.2.2.1 (by omega);have e:fs.names.length * CB d<=12 * CB d:=Q18 _ w.2.1;have p:=pW d;show 8 * fs.cB+1<=1200 * CB d;omega
 | .tree k,0,w,h=>by
   have:=k.mP;simp only[Kd.dep] at h;omega
 | .tree k,d+1,w,h=>by
   unfold Kd.W at w;simp only[Kd.dep] at h;have:=DC k d w (by omega);have p:=pW d;show(k.cB+1) * 585<=1200 * CB d;omega
 | .jd fs,0,w,h=>by
   simp only[Kd.dep] at h
   cases fs with
   |nil=>simp[Kd.cB,Fs.cB,CB]
   |cons x k r=>have:=k.mP;simp only[Fs.dep] at h;omega
 | .jd fs,d+1,w,h=>by
   unfold Kd.W at w;simp only[Kd.dep] at h;have:=rf fs d w.2.2.2 (by omega);have e:fs.names.length * CB d<=12 * CB d:=Q18 _ w.2.1;have p:=pW d;show fs.cB+1<=1200 * CB d;omega
theorem rf:∀(fs:Fs) (d:Nat),fs.W->fs.dep<=d+1->fs.cB<=fs.names.length * CB d
 | .nil,d,_,_=>by simp[Fs.cB]
 | .cons x k r,d,w,h=>by
   unfold Fs.W at w;simp only[Fs.dep] at h;have a:=DC k d w.1 (by omega);have b:=rf r d w.2.2 (by omega);show k.cB+r.cB<=(r.names.length+1) * CB d;rw[Q1s];omega
end
mutual
theorem DE:∀(k:Kd),k.dB+8<=10 * k.dep
 | .num=>by simp[Kd.dB,Kd.dep]
 | .iz=>by simp[Kd.dB,Kd.dep]
 | .iD fs=>by have:=rg fs;simp only[Kd.dB,Kd.dep];omega
 | .rows _ _ fs=>by have:=rg fs;simp only[Kd.dB,Kd.dep];omega
 | .tree k=>by have:=DE k;simp only[Kd.dB,Kd.dep];omega
 | .jd fs=>by have:=rg fs;simp only[Kd.dB,Kd.dep];omega
theorem rg:∀(fs:Fs),fs.dB<=10 * fs.dep - 8
 | .nil=>by simp[Fs.dB]
 | .cons x k r=>by
   have a:=DE k;have b:=rg r;simp only[Fs.dB,Fs.dep];omega
end
end Pb
namespace Pb
open L2
mutual
def KA (H:Hp):V->Kd->Prop
 |v,.num=>∃a,v=.ref a/\H a=some (.tup [.str "number"])
 |v,.iz=>∃a,v=.ref a/\H a=some (.tup [.str "word"])
 |v,.iD fs=>∃a b vs,v=.ref a/\H a=some (.tup [.str "record",.ref b])/\H b=some (.tup vs)/\FA H vs fs
 |v,.rows key by_ fs=>∃a b vs,v=.ref a/\H a=some (.tup [.str "rows",.str key,.str by_,.ref b])/\H b=some (.tup vs)/\FA H vs fs
 |v,.tree k=>∃a u,v=.ref a/\H a=some (.tup [.str "tree",u])/\KA H u k
 |v,.jd fs=>∃a b vs,v=.ref a/\H a=some (.tup [.str "either",.ref b])/\H b=some (.tup vs)/\FA H vs fs
def FA (H:Hp):List V->Fs->Prop
 |vs,.nil=>vs=[]
 |vs,.cons x k r=>∃c u I,vs=.ref c::I/\H c=some (.tup [.str x,u])/\KA H u k/\FA H I r
end
def Tu (H H':Hp):Prop:=∀a xs,H a=some (.tup xs)->H' a=some (.tup xs)
theorem Tu.trans {H H1 H2:Hp}(a:Tu H H1)(b:Tu H1 H2):Tu H H2:=λc xs h=>b c xs (a c xs h)
theorem Tu.of {H H':Hp}(s:Same H H'):Tu H H':=λa xs h=>s a _ h
theorem Tu.wr {H:Hp}{p:Addr}{o:HO}(h:∀xs,H p≠some (.tup xs)):Tu H (upd H p o):=λa xs e=>by
 rw[d_ (λz=>h xs (by rw[<-z];exact e))];exact e
mutual
theorem KA.mono {H H':Hp}(t:Tu H H'):∀{v:V}(k:Kd),KA H v k->KA H' v k
 |v,.num,h=>by
  unfold KA at h ⊢;obtain⟨a,e,q⟩:=h;exact⟨a,e,t _ _ q⟩
 |v,.iz,h=>by
  unfold KA at h ⊢;obtain⟨a,e,q⟩:=h;exact⟨a,e,t _ _ q⟩
 |v,.iD fs,h=>by
  unfold KA at h ⊢;obtain⟨a,b,vs,e,I,J,f⟩:=h;exact⟨a,b,vs,e,t _ _ I,t _ _ J,FA.mono t fs f⟩
 |v,.rows key by_ fs,h=>by
  unfold KA at h ⊢;obtain⟨a,b,vs,e,I,J,f⟩:=h;exact⟨a,b,vs,e,t _ _ I,t _ _ J,FA.mono t fs f⟩
 |v,.tree k,h=>by
  unfold KA at h ⊢;obtain⟨a,u,e,q,f⟩:=h;exact⟨a,u,e,t _ _ q,KA.mono t k f⟩
 |v,.jd fs,h=>by
  unfold KA at h ⊢;obtain⟨a,b,vs,e,I,J,f⟩:=h;exact⟨a,b,vs,e,t _ _ I,t _ _ J,FA.mono t fs f⟩
theorem FA.mono {H H':Hp}(t:Tu H H'):∀{vs:List V}(fs:Fs),FA H vs fs->FA H' vs fs
 |vs,.nil,h=>by
  unfold FA at h ⊢;exact h
 |vs,.cons x k r,h=>by
  unfold FA at h ⊢;obtain⟨c,u,I,e,q,f,g⟩:=h;exact⟨c,u,I,e,t _ _ q,KA.mono t k f,FA.mono t r g⟩
end
theorem FA.len {H:Hp}:∀{vs:List V}(fs:Fs),FA H vs fs->vs.length=fs.names.length
 |vs,.nil,h=>by
  unfold FA at h;rw[h];rfl
 |vs,.cons x k r,h=>by
  unfold FA at h;obtain⟨c,u,I,e,_,_,g⟩:=h;rw[e];show I.length+1=r.names.length+1;rw[FA.len r g]
theorem FA.get {H:Hp}:∀{vs:List V}(fs:Fs) {i:Nat}{v:V},FA H vs fs->vs[i]? =some v->∃c u x k,v=.ref c/\fs.at i=some (x,k)/\H c=some (.tup [.str x,u])/\KA H u k
 |vs,.nil,i,v,h,e=>by
  unfold FA at h;rw[h] at e;simp at e
 |vs,.cons x k r,0,v,h,e=>by
  unfold FA at h;obtain⟨c,u,J,I,q,f,_⟩:=h;rw[I] at e;have e:some (V.ref c)=some v:=e
  cases e;exact⟨c,u,x,k,rfl,rfl,q,f⟩
 |vs,.cons x k r,i+1,v,h,e=>by
  unfold FA at h;obtain⟨c,u,J,I,_,_,g⟩:=h;rw[I] at e;exact FA.get r (i:=i) g (by simpa using e)
theorem FA.at {H:Hp}{vs:List V}{fs:Fs}{i:Nat}{x:Str}{k:Kd}(h:FA H vs fs)(e:fs.at i=some (x,k)):∃c u,vs[i]? =some (.ref c)/\H c=some (.tup [.str x,u])/\KA H u k:=by
 have hl:=FA.len fs h
 have hi:i<fs.names.length:=by
  have:fs.names[i]? =some x:=by rw[Fs.mr,e];rfl
  exact(List.getElem?_eq_some_iff.mp this).1
 have I:vs[i]? =some (vs[i]'(by omega)):=Q03 (by omega);obtain⟨c,u,U,Y,h1,h2,J,L⟩:=FA.get fs h I;rw[e] at h2;cases h2;exact⟨c,u,by rw[I,h1],J,L⟩
theorem FA.snoc {H:Hp}{c:Addr}{u:V}{x:Str}{k:Kd}(hc:H c=some (.tup [.str x,u]))(I:KA H u k):∀{vs:List V}(fs:Fs),FA H vs fs->FA H (vs++[.ref c]) (fs.snoc x k)
 |vs,.nil,h=>by
  unfold FA at h;subst h;show FA H [.ref c] (.cons x k .nil);unfold FA;exact⟨c,u,[],rfl,hc,I,by unfold FA;rfl⟩
 |vs,.cons y q r,h=>by
  unfold FA at h;obtain⟨d,w,J,e,h1,h2,L⟩:=h;subst e;show FA H (.ref d::(J++[.ref c])) (.cons y q (r.snoc x k));unfold FA;exact⟨d,w,J++[.ref c],rfl,h1,h2,FA.snoc hc I r L⟩
mutual
def Own (H:Hp):V->D->List Addr->Prop
 |v,.int z,I=>v=.int z/\I=[]
 |v,.str x,I=>v=.str x/\I=[]
 |v,.non,I=>v=.non/\I=[]
 |v,.boo b,I=>v=.bl b/\I=[]
 |v,.tup xs,I=>∃a vs,v=.ref a/\H a=some (.tup vs)/\gD H vs xs I
 |v,.lst xs,I=>∃a vs J,v=.ref a/\H a=some (.lst vs)/\I=a::J/\gD H vs xs J
 |v,.dct m,I=>∃a kvs J,v=.ref a/\H a=some (.dK kvs)/\I=a::J/\gj H kvs m J
def gD (H:Hp):List V->Ds->List Addr->Prop
 |vs,.nil,I=>vs=[]/\I=[]
 |vs,.cons _ d r,I=>∃v q f1 f2,vs=v::q/\I=f1++f2/\Own H v d f1/\gD H q r f2
def gj (H:Hp):List (Key × V)->Ds->List Addr->Prop
 |kvs,.nil,I=>kvs=[]/\I=[]
 |kvs,.cons x d r,I=>∃v q f1 f2,kvs=(Sum.inr x,v)::q/\I=f1++f2/\Own H v d f1/\gj H q r f2
end
mutual
theorem Own.keep {H H':Hp}(t:Tu H H'):∀{v:V}(d:D) {I:List Addr},(∀a∈I,∀o,H a=some o->H' a=some o)->Own H v d I->Own H' v d I
 |v,.int z,I,k,h=>by unfold Own at h ⊢;exact h
 |v,.str x,I,k,h=>by unfold Own at h ⊢;exact h
 |v,.non,I,k,h=>by unfold Own at h ⊢;exact h
 |v,.boo _,I,k,h=>by unfold Own at h ⊢;exact h
 |v,.tup xs,I,k,h=>by
  unfold Own at h ⊢;obtain⟨a,vs,e,q,f⟩:=h;exact⟨a,vs,e,t _ _ q,gD.keep t xs k f⟩
 |v,.lst xs,I,k,h=>by
  unfold Own at h ⊢;obtain⟨a,vs,J,e,q,rfl,f⟩:=h;exact⟨a,vs,J,e,k a Q02 _ q,rfl,gD.keep t xs (λb L=>k b (Q07 _ L)) f⟩
 |v,.dct m,I,k,h=>by
  unfold Own at h ⊢;obtain⟨a,vs,J,e,q,rfl,f⟩:=h;exact⟨a,vs,J,e,k a Q02 _ q,rfl,gj.keep t m (λb L=>k b (Q07 _ L)) f⟩
theorem gD.keep {H H':Hp}(t:Tu H H'):∀{vs:List V}(xs:Ds) {I:List Addr},(∀a∈I,∀o,H a=some o->H' a=some o)->gD H vs xs I->gD H' vs xs I
 |vs,.nil,I,k,h=>by unfold gD at h ⊢;exact h
 |vs,.cons x d r,I,k,h=>by
  unfold gD at h ⊢;obtain⟨v,q,f1,f2,e,rfl,L,U⟩:=h;exact⟨v,q,f1,f2,e,rfl,Own.keep t d (λb J=>k b (Q0t _ J)) L,gD.keep t r (λb J=>k b (Q08 _ J)) U⟩
theorem gj.keep {H H':Hp}(t:Tu H H'):∀{kvs:List (Key × V)}(m:Ds) {I:List Addr},(∀a∈I,∀o,H a=some o->H' a=some o)->gj H kvs m I->gj H' kvs m I
 |kvs,.nil,I,k,h=>by unfold gj at h ⊢;exact h
 |kvs,.cons x d r,I,k,h=>by
  unfold gj at h ⊢;obtain⟨v,q,f1,f2,e,rfl,L,U⟩:=h;exact⟨v,q,f1,f2,e,rfl,Own.keep t d (λb J=>k b (Q0t _ J)) L,gj.keep t r (λb J=>k b (Q08 _ J)) U⟩
end
theorem Own.same {H H':Hp}{v:V}{d:D}{I:List Addr}(s:Same H H')(h:Own H v d I):Own H' v d I:=h.keep (Tu.of s) d λa _ o e=>s a o e
theorem gD.same {H H':Hp}{v:List V}{d:Ds}{I:List Addr}(s:Same H H')(h:gD H v d I):gD H' v d I:=h.keep (Tu.of s) d λa _ o e=>s a o e
theorem gj.same {H H':Hp}{v:List (Key × V)}{d:Ds}{I:List Addr}(s:Same H H')(h:gj H v d I):gj H' v d I:=h.keep (Tu.of s) d λa _ o e=>s a o e
def Mu (H:Hp) (a:Addr):Prop:=(∃xs,H a=some (.lst xs))\/∃kvs,H a=some (.dK kvs)
mutual
theorem Own.alive {H:Hp}:∀{v:V}(d:D) {I:List Addr},Own H v d I->∀a∈I,Mu H a
 |v,.int z,I,h=>by unfold Own at h;rw[h.2];intro a J;exact absurd J (by simp)
 |v,.str x,I,h=>by unfold Own at h;rw[h.2];intro a J;exact absurd J (by simp)
 |v,.non,I,h=>by unfold Own at h;rw[h.2];intro a J;exact absurd J (by simp)
 |v,.boo _,I,h=>by unfold Own at h;rw[h.2];intro a J;exact absurd J (by simp)
 |v,.tup xs,I,h=>by
  unfold Own at h;obtain⟨a,vs,e,q,f⟩:=h;exact gD.alive xs f
 |v,.lst xs,I,h=>by
  unfold Own at h;obtain⟨a,vs,U,e,q,rfl,f⟩:=h;intro b L;rcases List.mem_cons.mp L with z|z
  . rw[z];exact .inl ⟨_,q⟩
  . exact gD.alive xs f b z
 |v,.dct m,I,h=>by
  unfold Own at h;obtain⟨a,vs,U,e,q,rfl,f⟩:=h;intro b L;rcases List.mem_cons.mp L with z|z
  . rw[z];exact .inr ⟨_,q⟩
  . exact gj.alive m f b z
theorem gD.alive {H:Hp}:∀{vs:List V}(xs:Ds) {I:List Addr},gD H vs xs I->∀a∈I,Mu H a
 |vs,.nil,I,h=>by unfold gD at h;rw[h.2];intro a J;exact absurd J (by simp)
 |vs,.cons x d r,I,h=>by
  unfold gD at h;obtain⟨v,q,f1,f2,e,rfl,L,U⟩:=h;intro b Y;rcases List.mem_append.mp Y with z|z
  . exact Own.alive d L b z
  . exact gD.alive r U b z
theorem gj.alive {H:Hp}:∀{kvs:List (Key × V)}(m:Ds) {I:List Addr},gj H kvs m I->∀a∈I,Mu H a
 |kvs,.nil,I,h=>by unfold gj at h;rw[h.2];intro a J;exact absurd J (by simp)
 |kvs,.cons x d r,I,h=>by
  unfold gj at h;obtain⟨v,q,f1,f2,e,rfl,L,U⟩:=h;intro b Y;rcases List.mem_append.mp Y with z|z
  . exact Own.alive d L b z
  . exact gj.alive r U b z
end
theorem Mu.ex {H:Hp}{a:Addr}(h:Mu H a):∃o,H a=some o:=by
 rcases h with⟨_,h⟩|⟨_,h⟩ <;> exact⟨_,h⟩
theorem Mu.vT {H:Hp}{a:Addr}(h:Mu H a)(xs:List V):H a≠some (.tup xs):=λz=>by
 rcases h with⟨_,h⟩|⟨_,h⟩ <;> rw[h] at z <;> cases z
noncomputable def Ds.len:Ds->Nat
 | .nil=>0
 | .cons _ _ r=>r.len+1
noncomputable def Ds.names:Ds->List Str
 | .nil=>[]
 | .cons x _ r=>x::r.names
noncomputable def Ds.at:Ds->Nat->Option D
 | .nil,_=>none
 | .cons _ d _,0=>some d
 | .cons _ _ r,i+1=>r.at i
noncomputable def Ds.snoc:Ds->Str->D->Ds
 | .nil,x,d=>.cons x d .nil
 | .cons y e r,x,d=>.cons y e (r.snoc x d)
theorem Ds.nF:∀{xs:Ds}{i:Nat}{d:D},xs.at i=some d->d.dep<=xs.dep
 | .nil,_,_,h=>by cases h
 | .cons _ d r,0,_,h=>by cases h;exact Q2i _ _
 | .cons _ d r,i+1,_,h=>Q0d (Ds.nF (xs:=r) (i:=i) h) (Q2j _ _)
theorem Ds.vU:∀{xs:Ds}{x:Str}{d:D},xs.get x=some d->d.dep<=xs.dep
 | .nil,_,_,h=>by cases h
 | .cons y e r,x,d,h=>by
   have h:(if x=y then some e else r.get x)=some d:=h;by_cases c:x=y
   . rw[if_pos c] at h;cases h;exact Q2i _ _
   . rw[if_neg c] at h;exact Q0d (Ds.vU h) (Q2j _ _)
theorem gD.len {H:Hp}:∀{vs:List V}(xs:Ds) {I:List Addr},gD H vs xs I->vs.length=xs.len
 |vs,.nil,I,h=>by unfold gD at h;rw[h.1];rfl
 |vs,.cons x d r,I,h=>by
  unfold gD at h;obtain⟨v,q,f1,f2,rfl,rfl,L,J⟩:=h;show q.length+1=r.len+1;rw[gD.len r J]
theorem gD.get {H:Hp}:∀{vs:List V}(xs:Ds) {I:List Addr}{i:Nat}{v:V},gD H vs xs I->vs[i]? =some v->∃d f,xs.at i=some d/\Own H v d f/\∀a∈f,a∈I
 |vs,.nil,I,i,v,h,e=>by
  unfold gD at h;rw[h.1] at e;simp at e
 |vs,.cons x d r,I,0,v,h,e=>by
  unfold gD at h;obtain⟨w,q,f1,f2,rfl,rfl,L,U⟩:=h;have e:some w=some v:=e
  cases e;exact⟨d,f1,rfl,L,λa J=>Q0t _ J⟩
 |vs,.cons x d r,I,i+1,v,h,e=>by
  unfold gD at h;obtain⟨w,q,f1,f2,rfl,rfl,L,U⟩:=h;obtain⟨d',f,h1,h2,Y⟩:=gD.get r (i:=i) U (by simpa using e);exact⟨d',f,h1,h2,λa J=>Q08 _ (Y a J)⟩
theorem gD.snoc {H:Hp}{v:V}{d:D}{g:List Addr}{y:Str}(J:Own H v d g):∀{vs:List V}(xs:Ds) {I:List Addr},gD H vs xs I->gD H (vs++[v]) (xs.snoc y d) (I++g)
 |vs,.nil,I,h=>by
  unfold gD at h;obtain⟨rfl,rfl⟩:=h;show gD H [v] (.cons y d .nil) g;unfold gD;exact⟨v,[],g,[],rfl,by simp,J,by unfold gD;exact⟨rfl,rfl⟩⟩
 |vs,.cons x e r,I,h=>by
  unfold gD at h;obtain⟨w,q,f1,f2,rfl,rfl,L,U⟩:=h;show gD H (w::(q++[v])) (.cons x e (r.snoc y d)) (f1++f2++g);unfold gD;exact⟨w,q++[v],f1,f2++g,rfl,by rw[Q13],L,gD.snoc J r U⟩
theorem gj.snoc {H:Hp}{v:V}{d:D}{g:List Addr}{y:Str}(J:Own H v d g):∀{kvs:List (Key × V)}(xs:Ds) {I:List Addr},gj H kvs xs I->gj H (kvs++[(Sum.inr y,v)]) (xs.snoc y d) (I++g)
 |kvs,.nil,I,h=>by
  unfold gj at h;obtain⟨rfl,rfl⟩:=h;show gj H [(Sum.inr y,v)] (.cons y d .nil) g;unfold gj;exact⟨v,[],g,[],rfl,by simp,J,by unfold gj;exact⟨rfl,rfl⟩⟩
 |kvs,.cons x e r,I,h=>by
  unfold gj at h;obtain⟨w,q,f1,f2,rfl,rfl,L,U⟩:=h;show gj H ((Sum.inr x,w)::(q++[(Sum.inr y,v)])) (.cons x e (r.snoc y d)) (f1++f2++g);unfold gj;exact⟨w,q++[(Sum.inr y,v)],f1,f2++g,rfl,by rw[Q13],L,gj.snoc J r U⟩
theorem gj.keys {H:Hp}:∀{kvs:List (Key × V)}(m:Ds) {I:List Addr},gj H kvs m I->kvs.map (·.1)=m.names.map Sum.inr
 |kvs,.nil,I,h=>by unfold gj at h;rw[h.1];rfl
 |kvs,.cons x d r,I,h=>by
  unfold gj at h;obtain⟨v,q,f1,f2,rfl,rfl,L,J⟩:=h;show Sum.inr x::q.map (·.1)=Sum.inr x::r.names.map Sum.inr;rw[gj.keys r J]
theorem gj.len {H:Hp}{kvs:List (Key × V)}{m:Ds}{I:List Addr}(h:gj H kvs m I):kvs.length=m.names.length:=by
 have:=congrArg List.length (gj.keys m h);simpa using this
theorem gj.val {H:Hp}:∀{kvs:List (Key × V)}(m:Ds) {J:List Addr}{x:Str}{d:D},gj H kvs m J->m.get x=some d->∃v f,iw kvs (Sum.inr x)=some v/\Own H v d f/\∀a∈f,a∈J
 |kvs,.nil,J,x,d,h,e=>by cases e
 |kvs,.cons y e r,J,x,d,h,I=>by
  unfold gj at h;obtain⟨v,q,f1,f2,rfl,rfl,U,Y⟩:=h;have I:(if x=y then some e else r.get x)=some d:=I;by_cases c:x=y
  . rw[if_pos c] at I
    cases I;exact⟨v,f1,nv (by rw[c]),U,λa L=>Q0t _ L⟩
  . rw[if_neg c] at I;obtain⟨w,f,h1,h2,h3⟩:=gj.val r Y I;exact⟨w,f,by rw[oI (λz=>c (Sum.inr.inj z).symm)];exact h1,h2,λa L=>Q08 _ (h3 a L)⟩
theorem gU.names:∀{fs:Fs}{m:Ds},gU fs m->m.names=fs.names
 | .nil,m,h=>by unfold gU at h;rw[h];rfl
 | .cons x k r,m,h=>by
   unfold gU at h;obtain⟨d,q,rfl,_,g⟩:=h;show x::q.names=x::r.names;rw[gU.names g]
theorem gj.Kh {H:Hp}{kvs:List (Key × V)}{m:Ds}{I:List Addr}{x:Str}(h:gj H kvs m I)(J:x ∉ m.names):iw kvs (Sum.inr x)=none:=by
 cases e:iw kvs (Sum.inr x) with
 |none=>rfl
 |some v=>
  have:=qV e;rw[gj.keys m h] at this;obtain⟨y,L,U⟩:=List.mem_map.mp this
  cases U;exact absurd L J
theorem nH {kvs:List (Key × V)}{k:Key}{v:V}(h:iw kvs k=none):putK kvs k v=kvs++[(k,v)]:=by
 unfold putK;rw[if_neg];rw[qP,h];simp
def Kp (S:Addr->Prop) (H H':Hp):Prop:=∀c o,¬S c->H c=some o->H' c=some o
theorem Kp.refl (S:Addr->Prop)(H:Hp):Kp S H H:=λ_ _ _ h=>h
theorem Kp.trans {S:Addr->Prop}{H H1 H2:Hp}(x:Kp S H H1)(y:Kp S H1 H2):Kp S H H2:=λc o n h=>y c o n (x c o n h)
theorem Kp.of {S:Addr->Prop}{H H':Hp}(s:Same H H'):Kp S H H':=λc o _ h=>s c o h
theorem Kp.rh {S:Addr->Prop}{H H':Hp}{a:Addr}(x:Kp S H H')(I:¬S a)(h:H' a=none):H a=none:=by
 cases e:H a with
 |none=>rfl
 |some o=>rw[x a o I e] at h;cases h
inductive A3 {α β γ:Type} (R:α->β->γ->Prop):List α->List β->List γ->Prop
 |nil:A3 R [] [] []
 |cons {a:α} {b:β} {c:γ} {as:List α} {bs:List β} {cs:List γ}:R a b c->A3 R as bs cs->A3 R (a::as) (b::bs) (c::cs)
theorem A3.snoc {α I J:Type}{R:α->I->J->Prop}{a:α}{b:I}{c:J}(h:R a b c):∀{as:List α}{bs:List I}{L:List J},A3 R as bs L->A3 R (as++[a]) (bs++[b]) (L++[c])
 |_,_,_,.nil=>.cons h .nil
 |_,_,_,.cons x r=>.cons x (A3.snoc h r)
theorem A3.len {α J L:Type}{R:α->J->L->Prop}:∀{as:List α}{bs:List J}{I:List L},A3 R as bs I->as.length=bs.length/\as.length=I.length
 |_,_,_,.nil=>⟨rfl,rfl⟩
 |_,_,_,.cons x r=>by
  obtain⟨h1,h2⟩:=A3.len r;simp only[Q0k];omega
theorem A3.at {α I J:Type}{R:α->I->J->Prop}{a0:α}{b0:I}{c0:J}:∀{as:List α}{bs:List I}{L:List J},A3 R as bs L->∀i,i<as.length->R (as.getD i a0) (bs.getD i b0) (L.getD i c0)
 |_,_,_,.nil,i,h=>absurd h (by simp)
 |_,_,_,.cons x r,0,h=>x
 |_,_,_,.cons x r,i+1,h=>by
  have:=A3.at (a0:=a0) (b0:=b0) (c0:=c0) r i (by simpa using h);simpa using this
theorem A3.pick {α I J:Type}{R:α->I->J->Prop}{a0:α}{b0:I}{c0:J}{as:List α}{bs:List I}{L:List J}(h:A3 R as bs L):∀p:List Nat,(∀i∈p,i<as.length)->A3 R (p.map λi=>as.getD i a0) (p.map λi=>bs.getD i b0) (p.map λi=>L.getD i c0)
 |[],_=>.nil
 |i::p,hp=>.cons (h.at i (hp i Q02)) (A3.pick h p λj U=>hp j (Q07 _ U))
theorem Ki {α:Type}(a0:α):∀l:List α,((List.range l.length).map λi=>l.getD i a0)=l:=λl=>by
 apply Q32
 . simp
 . intro i h1 h2;simp[h2]
theorem tF {α:Type}(a0:α){l:List α}{p:List Nat}(h:p.Perm (List.range l.length)):(p.map λi=>l.getD i a0).Perm l:=by
 have:=h.map (λi=>l.getD i a0)
 rwa [Ki] at this
theorem vV {α:Type}{I J:List (List α)}(h:I.Perm J):I.flatten.Perm J.flatten:=by
 induction h with
 |nil=>exact List.Perm.refl _
 |cons x _ L=>exact L.append_left x
 |swap x y l=>
  show(y++(x++l.flatten)).Perm (x++(y++l.flatten));rw[<-Q13,<-Q13];exact List.perm_append_comm.append_right _
 |trans _ _ a b=>exact a.trans b
abbrev gu (H:Hp):List V->List Ds->List (List Addr)->Prop:=A3 λv m f=>Own H v (.dct m) f
theorem gu.own {H:Hp}:∀{vs:List V}{I:List Ds}{fs:List (List Addr)},gu H vs I fs->gD H vs (ic I) fs.flatten
 |_,_,_,.nil=>by unfold ic gD;exact⟨rfl,rfl⟩
 |_,_,_,.cons h r=>by
  unfold ic gD;exact⟨_,_,_,_,rfl,rfl,h,gu.own r⟩
theorem gD.rows {H:Hp}:∀{J:List Ds}{vs:List V}{I:List Addr},gD H vs (ic J) I->∃fs,gu H vs J fs/\I=fs.flatten
 |[],vs,I,h=>by
  unfold ic gD at h;obtain⟨rfl,rfl⟩:=h;exact⟨[],.nil,rfl⟩
 |m::J,vs,I,h=>by
  unfold ic gD at h;obtain⟨v,q,f1,f2,rfl,rfl,L,U⟩:=h;obtain⟨fs,h1,rfl⟩:=gD.rows U;exact⟨f1::fs,.cons L h1,rfl⟩
noncomputable def lt (z:Int):Str:=⟨#[97+z.toNat]⟩
theorem tG (z:Int):(lt z).length=1:=rfl
theorem Kj:∀j:Nat,j<26->(("abcdefghijklmnopqrstuvwxyz":Str)).cps.toList[j]? =some (97+j):=by decide +kernel
theorem Kk:(("abcdefghijklmnopqrstuvwxyz":Str)).cps.toList.length=26:=by decide +kernel
theorem tH {z:Int}(I:0<=z)(h1:z<26):i8 (("abcdefghijklmnopqrstuvwxyz":Str)).cps.toList z=some (97+z.toNat):=by
 unfold i8 mf;rw[Kk,if_pos I,if_pos (show z<((26:Nat):Int) by omega)];exact Kj z.toNat (by omega)
theorem Kl {z:Int}(I:0<=z)(h1:z<6):i8 [V.int 1,.int 3,.int 5,.int 7,.int 9,.int 11] z=some (.int (2 * z+1)):=by
 obtain⟨n,rfl⟩:=Int.eq_ofNat_of_zero_le I;have h:=Int.ofNat_lt.mp h1;clear I h1;revert n
 decide
noncomputable def nameAt (m:Int) (k:Nat):Str:=
 if m / 12168 % 4=0 then Txt.mul (lt (m / 6 % 26)) ((k:Int)+1)
 else Txt.slice (lt (m / 6 % 26)++lt (m / 156 % 26)) none (some (m / 4056 % 3))++lt ((m / 156+(k:Int) * (2 * (m % 6)+1)) % 26)++Txt.slice (lt (m / 6 % 26)++lt (m / 156 % 26)) (some (m / 4056 % 3)) none
theorem foldl_size (a:Array Nat):∀(n:Nat) (b:Array Nat),((List.replicate n a).foldl (· ++ ·) b).size=b.size+n * a.size
 |0,b=>by simp
 |n+1,b=>by
  rw[Q1t,Q3b,foldl_size a n,Q33,Q1s];omega
theorem DF {x:Str}(I:x.length=1)(k:Nat):(Txt.mul x ((k:Int)+1)).length=k+1:=by
 have J:x.cps.size=1:=I;unfold Txt.mul;rw[if_neg (by omega)];by_cases h:k=0
 . subst h;rw[if_pos (by simp)];exact I
 . rw[if_neg]
   . show((List.replicate ((k:Int)+1).toNat x.cps).foldl (· ++ ·) #[]).size=k+1;rw[foldl_size,J,show((k:Int)+1).toNat=k+1 by omega];simp
   . rw[I];simp;omega
theorem rj (x y:Str):(x++y).cps.toList=x.cps.toList++y.cps.toList:=by
 show(x.cps++y.cps).toList=_;simp
theorem DG (x y:Str):(x++y).length=x.length+y.length:=by
 show(x.cps++y.cps).size=x.cps.size+y.cps.size;simp
theorem Km {p q:Str}{z w:Int}(h:p++lt z++q=p++lt w++q):z.toNat=w.toNat:=by
 have e:=congrArg (λs:Str=>s.cps.toList) h;simp only[rj] at e;have e:=List.append_cancel_left (List.append_cancel_right e);have e:[97+z.toNat]=[97+w.toNat]:=e;have e:=List.cons.inj e |>.1;omega
theorem Ko:∀s:Nat,s<6->∀i,i<12->∀j,j<12->(i * (2 * s+1)) % 26=(j * (2 * s+1)) % 26->i=j:=by decide +kernel
theorem Kq {m:Int}{i j:Nat}(U:0<=m)(hi:i<12)(J:j<12)(h:nameAt m i=nameAt m j):i=j:=by
 unfold nameAt at h;by_cases I:m / 12168 % 4=0
 . rw[if_pos I,if_pos I] at h;have e:=congrArg Str.length h;rw[DF (tG _),DF (tG _)] at e;omega
 . rw[if_neg I,if_neg I] at h;have e:=Km h;obtain⟨s,L⟩:∃s:Nat,m % 6=s:=⟨(m % 6).toNat,by omega⟩;rw[L] at e;have e:((m / 156+(i * (2 * s+1):Nat)) % 26).toNat=((m / 156+(j * (2 * s+1):Nat)) % 26).toNat:=e;generalize m / 156=a at e;exact Ko s (by omega) i hi j J (by omega)
theorem Kr {f:Nat->Str}:∀{n:Nat},(∀i j,i<n->j<n->f i=f j->i=j)->((List.range n).map f).Nodup:=by
 intro n h;refine List.pairwise_map.mpr (List.Pairwise.imp_of_mem (λ{a b} J L I=>?_) (List.nodup_range (n:=n)));intro e;exact I (h a b (List.mem_range.mp J) (List.mem_range.mp L) e)
theorem names_nodup {m:Int}{n:Nat}(I:0<=m)(J:n<=12):((List.range n).map (nameAt m)).Nodup:=
 Kr λi j hi L e=>Kq I (by omega) (by omega) e
theorem Ks {x:Str}(I:x.length=1){k:Nat}(U:k<12)(hl:∀n,n<=1000->Builtin.Str.tooLong n=false):MulOk x ((k:Int)+1):=by
 refine⟨?_,λ_ z=>?_,λ_ _=>?_⟩
 . have J:decide (((k:Int)+1)< -(2 ^ 63:Int))=false:=decide_eq_false (by omega);have L:decide (((k:Int)+1) ≥ 2 ^ 63)=false:=decide_eq_false (by omega);rw[J,L];rfl
 . rw[I];clear hl I z;revert k
   decide
 . rw[I];exact hl _ (by omega)
end Pb
namespace Pb
open L2 PyProof.Rows Spec StrLaws Builtin Builtin.Str
theorem foldl_rep (c:Nat):∀(n:Nat) (b:Array Nat),((List.replicate n #[c]).foldl (· ++ ·) b).toList=b.toList++List.replicate n c
 |0,b=>by simp
 |n+1,b=>by
  rw[Q1t,Q3b,foldl_rep c n,Array.toList_append,Q13];rfl
theorem DH (z:Int)(k:Nat):(Txt.mul (lt z) ((k:Int)+1)).cps.toList=List.replicate (k+1) (97+z.toNat):=by
 unfold Txt.mul;rw[if_neg (by omega)];by_cases h:(((k:Int)+1 == 1) || (lt z).length == 0)=true
 . rw[if_pos h]
   have I:k=0:=by
    rw[tG] at h;simp at h;omega
   subst I;rfl
 . rw[if_neg h];have e:((k:Int)+1).toNat=k+1:=by omega
   rw[e];show((List.replicate (k+1) #[97+z.toNat]).foldl (· ++ ·) #[]).toList=_;rw[foldl_rep];rfl
theorem DJ (a b:Int){c:Int}(U:0<=c)(h1:c<3):∃I J:List Nat,(Txt.slice (lt a++lt b) none (some c)).cps.toList=I/\(Txt.slice (lt a++lt b) (some c) none).cps.toList=J/\I++J=[97+a.toNat,97+b.toNat]:=by
 have L:(lt a++lt b)=⟨#[97+a.toNat,97+b.toNat]⟩:=rfl;rw[L];have:c=0\/c=1\/c=2:=by omega
 rcases this with rfl|rfl|rfl
 . refine⟨[],[97+a.toNat,97+b.toNat],rfl,?_,rfl⟩;have e:strSliceIndices (some 0) none 1 2=[0,1]:=by decide +kernel
   unfold Txt.slice;rw[show(⟨#[97+a.toNat,97+b.toNat]⟩:Str).length=2 from rfl,e];rfl
 . refine⟨[97+a.toNat],[97+b.toNat],rfl,?_,rfl⟩;have e:strSliceIndices (some 1) none 1 2=[1]:=by decide +kernel
   unfold Txt.slice;rw[show(⟨#[97+a.toNat,97+b.toNat]⟩:Str).length=2 from rfl,e];rfl
 . exact⟨[97+a.toNat,97+b.toNat],[],rfl,rfl,rfl⟩
theorem DK:("":Str).cps.toList=[]:=by decide +kernel
theorem Ku {m:Int}{i:Nat}:nameAt m i≠"":=by
 intro e;unfold nameAt at e;by_cases h:m / 12168 % 4=0
 . rw[if_pos h] at e;have:=congrArg (λx:Str=>x.cps.toList) e;have this:(Txt.mul (lt (m / 6 % 26)) ((i:Int)+1)).cps.toList=("":Str).cps.toList:=this;rw[DH,DK] at this;rw[Q1t] at this
   cases this
 . rw[if_neg h] at e;obtain⟨J,p2,L,U,Y⟩:=DJ (m / 6 % 26) (m / 156 % 26) (c:=m / 4056 % 3) (by omega) (by omega)
   have I:(Txt.slice (lt (m / 6 % 26)++lt (m / 156 % 26)) none (some (m / 4056 % 3))++lt ((m / 156+(i:Int) * (2 * (m % 6)+1)) % 26)++Txt.slice (lt (m / 6 % 26)++lt (m / 156 % 26)) (some (m / 4056 % 3)) none).cps.toList
    =J++[97+((m / 156+(i:Int) * (2 * (m % 6)+1)) % 26).toNat]++p2:=by
    rw[rj,rj,L,U];rfl
   have aa:J.length+p2.length=2:=by
    have:=congrArg List.length Y;rw[Q09] at this;exact this
   have:=congrArg (λx:Str=>x.cps.toList.length) e;have this:List.length _=List.length _:=this;rw[I,DK,Q09,Q09,Q1m] at this;have:J.length+1+p2.length=0:=this;omega
theorem DL:("zyxw":Str).cps.toList=[122,121,120,119]:=by decide +kernel
theorem Kv {m:Int}{i:Nat}:nameAt m i≠"zyxw":=by
 intro e;unfold nameAt at e;by_cases h:m / 12168 % 4=0
 . rw[if_pos h] at e;have:=congrArg (λx:Str=>x.cps.toList) e;have this:(Txt.mul (lt (m / 6 % 26)) ((i:Int)+1)).cps.toList=("zyxw":Str).cps.toList:=this;rw[DH,DL,Q1t] at this;injection this with U I
   cases i with
   |zero=>cases I
   |succ i=>
    rw[Q1t] at I;injection I with Y _
    omega
 . rw[if_neg h] at e;obtain⟨L,p2,U,I,Y⟩:=DJ (m / 6 % 26) (m / 156 % 26) (c:=m / 4056 % 3) (by omega) (by omega)
   have J:(Txt.slice (lt (m / 6 % 26)++lt (m / 156 % 26)) none (some (m / 4056 % 3))++lt ((m / 156+(i:Int) * (2 * (m % 6)+1)) % 26)++Txt.slice (lt (m / 6 % 26)++lt (m / 156 % 26)) (some (m / 4056 % 3)) none).cps.toList
    =L++[97+((m / 156+(i:Int) * (2 * (m % 6)+1)) % 26).toNat]++p2:=by
    rw[rj,rj,U,I];rfl
   have aa:L.length+p2.length=2:=by
    have:=congrArg List.length Y;rw[Q09] at this;exact this
   have:=congrArg (λx:Str=>x.cps.toList.length) e;have this:List.length _=List.length _:=this;rw[J,DL,Q09,Q09,Q1m] at this;have:L.length+1+p2.length=4:=this;omega
def sle (x y:Str):Prop:=lr (iB x) (iB y)
def slt (x y:Str):Prop:=iq (iB x) (iB y)=true
theorem DM (x y:Str)(h:slt x y):¬slt y x:=λh2=>by
 have z:=oO _ _ _ h h2;rw[ra] at z
 cases z
theorem Kw {x y:Str}(h:iB x=iB y):x=y:=Sum.inr.inj (List.cons.inj h).1
theorem vW {x y:Str}(h:sle x y):slt x y\/x=y:=by
 rcases pN (iB x) (iB y) with q|q|q
 . exact .inl q
 . exact .inr (Kw q)
 . have h:iq (iB y) (iB x)=false:=h;rw[h] at q;cases q
theorem DN {x y:Str}(h:slt x y):sle x y:=by
 unfold sle lr
 cases e:iq (iB y) (iB x) with
 |false=>rfl
 |true=>exact absurd e (DM _ _ h)
theorem Kx {x y z:Str}(h1:sle x y)(h2:sle y z):sle x z:=by
 rcases vW h1 with a|a
 . rcases vW h2 with b|b
   . exact DN (oO _ _ _ a b)
   . rw[<-b];exact h1
 . rw[a];exact h2
theorem Ky (x y:Str):ltCps x.cps.toList y.cps.toList=iq (iB x) (iB y):=by
 rw[Di];exact ltCps_eq _ _
theorem vX:∀{ss:List Str},sortedS ss=true->ss.Pairwise sle
 |[],_=>.nil
 |[x],_=>Q1r _ _
 |x::y::r,h=>by
  have h:(!ltCps y.cps.toList x.cps.toList && risingS y r)=true:=h;obtain⟨h1,h2⟩:=Bool.and_eq_true_iff.mp h;have J:(y::r).Pairwise sle:=vX (ss:=y::r) h2
  have I:sle x y:=by
   rw[Ky] at h1;unfold sle lr
   cases e:iq (iB y) (iB x) with
   |false=>rfl
   |true=>rw[e] at h1;cases h1
  refine .cons (λz L=>?_) J;rcases List.mem_cons.mp L with e|e
  . rw[e];exact I
  . exact Kx I ((List.pairwise_cons.mp J).1 z e)
theorem DO {α:Type}{R:α->α->Prop}(as:∀a b,R a b->¬R b a):∀{J I:List α},J.Perm I->J.Pairwise R->I.Pairwise R->J=I
 |[],I,p,_,_=>by rw[p.nil_eq]
 |a::r,[],p,_,_=>absurd p.length_eq (by simp)
 |a::r,b::q,p,h1,h2=>by
  obtain⟨Y,a2⟩:=List.pairwise_cons.mp h1;obtain⟨b1,b2⟩:=List.pairwise_cons.mp h2
  have U:a=b:=by
   have ha:a∈b::q:=p.mem_iff.mp Q02;have hb:b∈a::r:=p.mem_iff.mpr Q02;rcases List.mem_cons.mp ha with e|e
   . exact e
   . rcases List.mem_cons.mp hb with L|L
     . exact L.symm
     . exact absurd (Y b L) (as b a (b1 a e))
  subst U;rw[DO as ((Q2k a).mp p) a2 b2]
end Pb
namespace Pb
open L2
theorem boot_isinstance:bootBuiltins "isinstance"=some (.builtin "isinstance"):=by decide +kernel
theorem boot_sorted:bootBuiltins "sorted"=some (.builtin "sorted"):=by decide +kernel
theorem boot_all:bootBuiltins "all"=some (.builtin "all"):=by decide +kernel
theorem boot_int:bootBuiltins "int"=some (.type "int"):=by decide +kernel
theorem boot_bool:bootBuiltins "bool"=some (.type "bool"):=by decide +kernel
theorem boot_str:bootBuiltins "str"=some (.type "str"):=by decide +kernel
theorem boot_list:bootBuiltins "list"=some (.type "list"):=by decide +kernel
theorem boot_tuple:bootBuiltins "tuple"=some (.type "tuple"):=by decide +kernel
theorem boot_dict:bootBuiltins "dict"=some (.type "dict"):=by decide +kernel
structure Tb (mg:Str->Option Value):Prop where
 ja:mg "len"=none
 j8:mg "isinstance"=none
 mw:mg "sorted"=none
 vY:mg "all"=none
 nI:mg "range"=none
 tJ:mg "enumerate"=none
 DP:mg "zip"=none
 DQ:mg "int"=none
 DR:mg "bool"=none
 vZ:mg "str"=none
 pX:mg "list"=none
 nJ:mg "tuple"=none
 rm:mg "dict"=none
 Oe:mg "min"=none
 Of:mg "sum"=none
structure Dn (K:W.Frag) (mg:Str->Option Value) (x:Str) (ps:List Str) (st:Stmt) (f:Addr) (fd:FuncData):Prop where
 F:mj K x x st f fd
 b:Binds K fd ps []
 m:mg x=some (.ref f)
theorem gv {X:Cx}{k L:Nat}{f:Addr}{fd:FuncData}{ps:List Str}{sp:Sp}{x:Str}{p pos:Pos}{e:Expr}{es:List Expr}{t:TA}{st:Stmt}(F:gc X.prog X.w X.K X.mg X.base gf k f fd ps sp)(U:ig L X.A)(D:Dn X.K X.mg x ps st f fd)(Y:PA X (e::es) t)(hg:Gl X x:=by rfl)(I:(x == ("__debug__":Str))=false:=by decide)(he:starEach (e::es) X.env=(false,eval e X.env)::starEach es X.env:=by rfl)(J:(backTo pos (starEach es X.env)).any (·.1)=false:=by rfl)(hk:k<=L:=by first|decide|omega):PE X (.Call (.Name x p) (e::es) [] pos) (nu sp [] E0 t):=qL F (U.mono hk) hg D.m D.F.kp D.b .nil lh Y I he J
theorem gA {X:Cx}(i:Nat){x:Str}{e:Expr}{te:TE}{pos I:Pos}(J:X.N.Nodup)(L:PE X e te)(hi:X.N[i]? =some x:=by rfl)(U:Loc X.env.scope x:=by exact Or.inl rfl)(Y:swapsWith e (some (.Name x I)) pos.line X.env=pure false:=by rfl)(hf:X.fn x=true\/X.env.scope.names.lookup x=some .local:=by first|exact .inl rfl|exact .inr rfl|assumption):PS X (.Assign [.Name x I] e pos) (oy te (iH i)):=BS J hi U L Y hf
theorem v8 {X:Cx}(i:Nat){x:Str}{e:Expr}{te:TE}{pos I:Pos}(J:X.N.Nodup)(L:PE X e te)(hi:X.N[i]? =some x:=by rfl)(U:Loc X.env.scope x:=by exact Or.inr rfl)(Y:swapsWith e (some (.Name x I)) pos.line X.env=pure false:=by rfl)(hf:X.fn x=true\/X.env.scope.names.lookup x=some .local:=by first|exact .inl rfl|exact .inr rfl|assumption):PS X (.Assign [.Name x I] e pos) (oy te (iH i)):=BS J hi U L Y hf
theorem mR:0<=sizeLine:=by decide
theorem jR:1<=sizeLine:=by decide
theorem i3:2<=sizeLine:=by decide
theorem Og:3<=sizeLine:=by decide
theorem oV:4<=sizeLine:=by decide
theorem Oh:5<=sizeLine:=by decide
theorem Kz:6<=sizeLine:=by decide
theorem gq {X:Cx}{a b:Expr}{ta tb:TE}{pos:Pos}(I:PE X a ta)(J:PE X b tb)(L:u_ b:=by exact λ_ _=>rfl):PE X (.Subscript a b pos) (ie (i9 X.K) ta tb):=oH IB I J L
theorem ju {X:Cx}{a b:Expr}{ta tb:TE}{pos:Pos}(I:PE X a ta)(J:PE X b tb)(L:u_ b:=by exact λ_ _=>rfl):PE X (.Subscript a b pos) (ie (Ci X.K) ta tb):=oH IA I J L
theorem jE {X:Cx}{own N:List Str}{scope sc:Scope}(I:X.env.scope=sc:=by rfl)(J:X.N=N:=by rfl)(k:scope.kind=.function:=by rfl)(c:vy own N scope sc=true:=by decide +kernel):ko X own scope:=ko.of I J k c
theorem iG {α:Type}{a:α}{p:Prop}:a=a\/p:=Or.inl rfl
theorem g_ {N P:List Str}{sc:Scope}(h:(sc.kind == .function && !sc.isCoroutine && !sc.isGenerator && decide N.Nodup && N.take P.length == P && P.all (λx=>sc.names.lookup x == some .local || sc.names.lookup x == some .cell) && sc.names.all (λy=>y.2 != .free))=true:=by decide +kernel):gQ N P sc:=by
 simp only[Bool.and_eq_true,Q17,Bool.or_eq_true,beq_iff_eq,bne_iff_ne,decide_eq_true_eq,Bool.not_eq_true',ne_eq] at h;obtain⟨⟨⟨⟨⟨⟨h1,h2⟩,I⟩,J⟩,L⟩,U⟩,Y⟩:=h;exact⟨h1,h2,I,J,L,U,Y⟩
abbrev gL:List Str:=XB
abbrev jB:List Str:=XI
abbrev jF:List Str:=XS
abbrev kB:List Str:=XH
abbrev kE:List Str:=["kind","value"]
abbrev kX:List Str:=XF
abbrev ly:List Str:=XO
abbrev mx:List Str:=Xd
abbrev mS:List Str:=Xe
abbrev mT:List Str:=Xa
abbrev mU:List Str:=["fields","name"]
abbrev mV:List Str:=["kind","tree"]
abbrev nK:List Str:=XT
abbrev oW:List Str:=["kind","row"]
abbrev oX:List Str:=["value"]
abbrev pY:List Str:=["_law_kind_here"]
abbrev pZ:List Str:=Xb
abbrev p0:List Str:=["self","kind"]
abbrev rn:List Str:=XV
abbrev rq:List Str:=Xh
abbrev rz:List Str:=["fields","value"]
abbrev rA:List Str:=Xq
abbrev tK:List Str:=XU
abbrev tL:List Str:=Xm
abbrev tM:List Str:=Xn
abbrev tN:List Str:=Xf
abbrev tO:List Str:=["key","by","pairs"]
abbrev tQ:List Str:=Xi
abbrev tR:List Str:=Xp
abbrev tT:List Str:=Xk
abbrev tU:List Str:=Xo
abbrev tV:List Str:=["kind","seen"]
abbrev tW:List Str:=Xl
abbrev tX:List Str:=Xc
abbrev tY:List Str:=XM
abbrev tZ:List Str:=XR
def kH (K:W.Frag) (H:Hp) (a:Addr) (ns:List Int):Prop:=
 (∃o,H a=some (.iU o (.lst (ns.map V.int))))\/
   ∃(o:Obj) (I:Array Value) (n:Nat),K.lookup a=some o/\o.cls=.type "list"/\o.dict=none/\o.data=.seq I n/\I.size<=sizeLine/\Vals (ns.map V.int) I.toList
theorem kH.sq {K:W.Frag}{H:Hp}{a:Addr}{ns:List Int}(h:kH K H a ns):f_ K H a (ns.map V.int):=by
 rcases h with⟨o,h⟩|h
 . exact .inl (.inr ⟨o,h⟩)
 . exact .inr h
def SB (b:Addr) (H H':Hp):Prop:=∀c o,c≠b->H c=some o->H' c=some o
theorem SB.trans {b:Addr}{H H1 H2:Hp}(x:SB b H H1)(y:SB b H1 H2):SB b H H2:=λc o n h=>y c o n (x c o n h)
theorem SB.of {b:Addr}{H H':Hp}(s:Same H H'):SB b H H':=λc o _ h=>s c o h
theorem SB.wr {b:Addr}{H:Hp}{o:HO}:SB b H (upd H b o):=λc u n h=>by rw[d_ n];exact h
theorem SB.new {b p:Addr}{H:Hp}{o:HO}(h:H p=none):SB b H (upd H p o):=λc u n q=>by rw[d_ (gz q h)];exact q
structure G0 (K:W.Frag) (H:Hp) (a b:Addr) (ns:List Int) (n:Int):Prop where
 kY:kH K H a ns
 len:ns.length<=63
 at_:H b=some (.lst [.int n])
 pos:0<=n
theorem SB.kY {K:W.Frag}{b:Addr}{H H':Hp}{a:Addr}{ns:List Int}{n:Int}(x:SB b H H')(I:H b=some (.lst [.int n]))(h:kH K H a ns):kH K H' a ns:=by
 rcases h with⟨o,h⟩|h
 . exact .inl ⟨o,x a _ (gR h I (by intro z;cases z)) h⟩
 . exact .inr h
theorem SB.tu {b:Addr}{H H':Hp}{n:Int}(x:SB b H H')(I:H b=some (.lst [.int n])):Tu H H':=λc xs h=>x c _ (gR h I (by intro z;cases z)) h
theorem G0.go {K:W.Frag}{H H':Hp}{a b:Addr}{ns:List Int}{n n':Int}(g:G0 K H a b ns n)(x:SB b H H')(h:H' b=some (.lst [.int n']))(I:n<=n'):G0 K H' a b ns n':=
 ⟨x.kY g.at_ g.kY,g.len,h,by have:=g.pos;omega⟩
theorem Same.new {H:Hp}{p:Addr}{o:HO}(h:H p=none):Same H (upd H p o):=λc u q=>by rw[d_ (gz q h)];exact q
theorem int_at {ns:List Int}{z:Int}(I:0<=z)(h1:z<ns.length):i8 (ns.map V.int) z=some (.int (ns.getD z.toNat 0)):=by
 obtain⟨j,rfl⟩:∃j:Nat,z=(j:Int):=⟨z.toNat,by omega⟩;rw[Q3c];exact ki (by rw[Q0h,Q05,Q03 (by omega)];rfl)
def nL (K:W.Frag):Sp:=λvs H Q _=>∃a b ns n,vs=[.ref a,.ref b]/\G0 K H a b ns n/\n<=1000000000000/\
 ∀(H':Hp),SB b H H'->H' b=some (.lst [.int (n+1)])->Q (.int (nx ns (n+1))) H'
def my (K:W.Frag):Sp:=λvs H Q _=>∃a b ns n,vs=[.ref a,.ref b]/\G0 K H a b ns n/\n<=1000000000000/\
 ∀(r:Int) (H':Hp),0<=r->r<1999999973->SB b H H'->H' b=some (.lst [.int (n+1)])->Q (.int r) H'
theorem t7 {P:Program}{w:World}{K:W.Frag}{mg:Str->Option Value}{base:Heap}{CX:j3}{k:Nat}{f:Addr}{fd:FuncData}{ps:List Str}(F:gc P w K mg base CX k f fd ps (nL K)):gc P w K mg base CX k f fd ps (my K):=
 F.imp λvs H Q E ⟨a,b,ns,n,e,g,I,q⟩=>⟨a,b,ns,n,e,g,I,λH' J h1=>q _ H' (vP _ _) (vQ _ _) J h1⟩
def p6 (K:W.Frag):Sp:=λvs H Q _=>∃a b ns n,vs=[.ref a,.ref b]/\G0 K H a b ns n/\n<=1000000000000/\
 ∀(v:V) (k:Kd) (H':Hp),SB b H H'->H' b=some (.lst [.int (n+1)])->KA H' v k->k.dep<=1->jQ k->k.W->Q v H'
def t8 (K:W.Frag):Sp:=λvs H Q _=>∃a b ns n,∃m:Nat,vs=[.ref a,.ref b,.int m]/\m<=12/\G0 K H a b ns n/\n<=1000000000000/\
 ∀(p:Addr) (ss:List Str) (H':Hp),SB b H H'->H' b=some (.lst [.int (n+1)])->p≠b->H' p=some (.lst (ss.map V.str))->ss.length=m->ss.Nodup->(∀x∈ss,x≠"")->(ss.Pairwise sle/\∀x∈ss,x≠"zyxw")->Q (.ref p) H'
noncomputable def ck:Nat->Nat
 |0=>2
 |d+1=>3 * ck d+6
def oY (K:W.Frag) (d:Nat):Sp:=λvs H Q _=>∃a b ns n,vs=[.ref a,.ref b,.int d]/\G0 K H a b ns n/\n+ck d<=1000000000000/\
 ∀(v:V) (k:Kd) (n':Int) (H':Hp),SB b H H'->H' b=some (.lst [.int n'])->n<=n'->n'<=n+ck d->KA H' v k->k.dep<=d+1->k.W->Q v H'
def DS (K:W.Frag) (d:Nat):Sp:=λvs H Q _=>∃a b ns n,∃m:Nat,vs=[.ref a,.ref b,.int m,.int d]/\m<=3/\G0 K H a b ns n/\n+1+3 * ck d<=1000000000000/\
 ∀(t:Addr) (xs:List V) (fs:Fs) (n':Int) (H':Hp),SB b H H'->H' b=some (.lst [.int n'])->n<=n'->n'<=n+1+3 * ck d->H' t=some (.tup xs)->FA H' xs fs->fs.names.Nodup->fs.names.length=m->fs.dep<=d+1->fs.W->Q (.ref t) H'
def DT (K:W.Frag) (d:Nat):Sp:=λvs H Q _=>∃a b ns n,∃m:Nat,vs=[.ref a,.ref b,.int m,.int d]/\1<=m/\m<=3/\G0 K H a b ns n/\n+5+3 * ck d<=1000000000000/\
 ∀(v:V) (k:Kd) (n':Int) (H':Hp),SB b H H'->H' b=some (.lst [.int n'])->n<=n'->n'<=n+5+3 * ck d->KA H' v k->k.dep<=d+2->k.W->Q v H'
def t9 (K:W.Frag) (d:Nat):Sp:=λvs H Q _=>∃a b ns n,∃m:Nat,vs=[.ref a,.ref b,.int m,.int d]/\1<=m/\m<=12/\G0 K H a b ns n/\n+2+(m:Int) * (ck d+1)<=1000000000000/\
 ∀(v:V) (key by_:Str) (fs:Fs) (n':Int) (H':Hp),SB b H H'->H' b=some (.lst [.int n'])->n<=n'->n'<=n+2+(m:Int) * (ck d+1)->KA H' v (.rows key by_ fs)->(Kd.rows key by_ fs).dep<=d+2->(Kd.rows key by_ fs).W->fs.names.length=m->(fs.names.Pairwise sle/\by_≠key)->Q v H'
def DU (K:W.Frag):Sp:=λvs H Q _=>∃a b ns n,vs=[.ref a,.ref b]/\G0 K H a b ns n/\n<=1000000000000/\
 ∀(H':Hp),SB b H H'->H' b=some (.lst [.int (n+1)])->Q (.int (num ns (n+1))) H'
def DV (K:W.Frag):Sp:=λvs H Q _=>∃a b ns n,vs=[.ref a,.ref b]/\G0 K H a b ns n/\n<=1000000000000/\
 ∀(H':Hp),SB b H H'->H' b=some (.lst [.int (n+1)])->Q (.str (iz ns (n+1))) H'
variable {P:Program}{w:World}{K:W.Frag}{mg:Str->Option Value}{base:Heap}
theorem KC:gQ ["_law_script","_law_at","_law_cell","_law_m"] XB (gp (top 32)):=g_
theorem rB (T:Tb mg)(I:Dn K mg "_law_next" gL (top 32) J L):gc P w K mg base gf (1) J L gL (nL K):=by
 refine I.F.ok KC λvs H Q E h=>?_;obtain⟨a,b,ns,n,rfl,g,hn,q⟩:=h;refine⟨rfl,λaa A outer s nd hr hu=>?_⟩
 refine⟨_,(e_ (BR (gn j0 (ju (pv 1) c_) c_) (HE (pv 1) c_ set_list))
  (e_ (gA 2 nd c_)
  (e_ (gF (gE nr (ij jr (by rfl) T.ja PySem.boot_len (a_ (pv 0) b_)) c_ (gC _)) (gi (gA 2 nd (ju (pv 0) (gn ir (ju (pv 1) c_) (ij jr (by rfl) T.ja PySem.boot_len (a_ (pv 0) b_)))))) gH)
  (e_ (gA 3 nd (gn ir (gn mF (gn j0 (gn j0 (gn ir (pv 2) c_) (gn mF (gn mF (ju (pv 1) c_) (ju (pv 1) c_)) c_)) c_) c_) c_))
  (gi (gw (gn ir (gn mF (pv 3) (pv 3)) c_))))))),?_⟩
 ac_rfl
 have Y:=g.at_;have hp:=g.pos;have hS:f_ K (upd H b (.lst [.int (n+1)])) a (ns.map V.int):=(SB.wr.kY Y g.kY).sq;have U:upd H b (.lst [.int (n+1)]) b=some (.lst [.int (n+1)]):=gh;refine⟨_,rfl,b,_,_,_,rfl,rfl,f_.of Y,rfl,_,_,rfl,rfl,_,rfl,b,_,_,0,rfl,rfl,Y,rfl,?_⟩;refine⟨_,rfl,a,_,rfl,.inl hS,_,_,rfl,rfl,_,rfl,?_⟩;have hl:(ns.map V.int).length=ns.length:=Q0 _;refine h_ (λc=>?_) (λc=>?_)
 . have c':(0:Int)<((ns.map V.int).length:Nat):=of_decide_eq_true c;rw[hl] at c';have i0:=Q0m (n+1) (show(ns.length:Int)≠0 by omega);have i1:=Q0n (n+1) c'
   have hz:i8 (ns.map V.int) ((n+1) % (((ns.map V.int).length:Nat):Int))=some (.int (cellAt ns (n+1))):=by
    rw[hl,int_at i0 i1];unfold cellAt;rw[if_pos (by omega)]
   refine⟨_,rfl,_,rfl,b,_,_,_,rfl,rfl,f_.of U,rfl,_,rfl,a,_,rfl,.inl hS,_,_,rfl,rfl,by rw[hl];exact c',a,_,_,_,rfl,rfl,hS,hz,?_⟩
   refine⟨_,rfl,_,_,rfl,rfl,(by show(0:Int)<_;decide),_,rfl,b,_,_,_,rfl,rfl,f_.of U,rfl,_,rfl,b,_,_,_,rfl,rfl,f_.of U,rfl,_,_,rfl,rfl,.inl ⟨by omega,by omega⟩,_,_,rfl,rfl,.inr ⟨by decide,by decide⟩,
    _,_,rfl,rfl,_,_,rfl,rfl,_,_,rfl,rfl,.inr ⟨by decide,by decide⟩,_,_,rfl,rfl,(by show(0:Int)<_;decide),?_⟩
   refine⟨_,rfl,_,rfl,_,_,rfl,rfl,.inl ⟨?_,?_⟩,_,_,rfl,rfl,(by show(0:Int)<_;decide),q _ SB.wr U⟩
   . exact Q3d (by decide) (Q0m _ (by decide))
   . exact Int.lt_trans (Q0n _ (by decide)) (by decide)
 . have c':¬(0:Int)<((ns.map V.int).length:Nat):=λz=>c (decide_eq_true z);rw[hl] at c'
   have hz:cellAt ns (n+1)=0:=by
    unfold cellAt;rw[if_neg (by omega)]
   have q':Q (.int (((0:Int) % 2147483647+(n+1) * (n+1) * 7919+11) * 48271 % 2147483647 * (((0:Int) % 2147483647+(n+1) * (n+1) * 7919+11) * 48271 % 2147483647) % 1999999973)) (upd H b (.lst [.int (n+1)])):=by
    have:=q _ SB.wr U;unfold nx at this;rw[hz] at this;exact this
   refine⟨_,rfl,_,_,rfl,rfl,(by show(0:Int)<_;decide),_,rfl,b,_,_,_,rfl,rfl,f_.of U,rfl,_,rfl,b,_,_,_,rfl,rfl,f_.of U,rfl,_,_,rfl,rfl,.inl ⟨by omega,by omega⟩,_,_,rfl,rfl,.inr ⟨by decide,by decide⟩,
    _,_,rfl,rfl,_,_,rfl,rfl,_,_,rfl,rfl,.inr ⟨by decide,by decide⟩,_,_,rfl,rfl,(by show(0:Int)<_;decide),?_⟩
   refine⟨_,rfl,_,rfl,_,_,rfl,rfl,.inl ⟨?_,?_⟩,_,_,rfl,rfl,(by show(0:Int)<_;decide),q'⟩
   . exact Q3d (by decide) (Q0m _ (by decide))
   . exact Int.lt_trans (Q0n _ (by decide)) (by decide)
theorem KD:gQ XB XB (gp (top 36)):=g_
theorem v9 (T:Tb mg)(I:Dn K mg "_law_plain" gL (top 36) J L)(U:Dn K mg "_law_next" gL (top 32) Y aa)(ab:gc P w K mg base gf (1) Y aa gL (my K)):gc P w K mg base gf (2) J L gL (p6 K):=by
 refine I.F.ok KD λvs H Q E h=>?_;obtain⟨a,b,ns,n,rfl,g,hn,q⟩:=h;refine⟨rfl,λae A outer s nd hr hu=>?_⟩
 refine⟨_,(e_ (gF (gE iu (gn ir (gv ab hr U (a_ (pv 0) (a_ (pv 1) b_))) c_) c_ (gC _)) (gi (gw (iP (a_ gW b_)))) gH)
  (gi (gw (iP (a_ gW b_))))),?_⟩
 ac_rfl
 refine⟨_,rfl,_,rfl,a,b,ns,n,rfl,g,hn,λr H1 r0 r1 s1 h1=>?_⟩;refine⟨_,_,rfl,rfl,(by show(0:Int)<_;decide),rfl,_,rfl,?_⟩
 have fin:∀(x:Str) (k:Kd),(∀(p:Addr) (H2:Hp),H2 p=some (.tup [.str x])->KA H2 (.ref p) k)->k.dep<=1->jQ k->k.W->∀p,H1 p=none->Q (.ref p) (upd H1 p (.tup [.str x])):=λx k hk hd hp hw p ac=>
  q _ k _ (s1.trans (SB.new ac)) (by rw[d_ (gz h1 ac)];exact h1) (hk p _ gh) hd hp hw
 refine h_ (λc=>?_) (λc=>?_)
 . exact⟨jR,λp hp=>fin _ .num (λp H2 e=>by unfold KA;exact⟨p,rfl,e⟩) (Q00 _) trivial (by unfold Kd.W;trivial) p hp⟩
 . exact⟨jR,λp hp=>fin _ .iz (λp H2 e=>by unfold KA;exact⟨p,rfl,e⟩) (Q00 _) trivial (by unfold Kd.W;trivial) p hp⟩
theorem KG:gQ ["_law_script","_law_at","_law_m","_law_cell"] XB (gp (top 33)):=g_
theorem KH (T:Tb mg)(I:Dn K mg "_law_number" gL (top 33) J L)(U:Dn K mg "_law_next" gL (top 32) Y aa)(ab:gc P w K mg base gf (1) Y aa gL (nL K)):gc P w K mg base gf (2) J L gL (DU K):=by
 refine I.F.ok KG λvs H Q E h=>?_;obtain⟨a,b,ns,n,rfl,g,hn,q⟩:=h;refine⟨rfl,λae A outer s nd hr hu=>?_⟩
 refine⟨_,(e_ (gA 2 nd (gv ab hr U (a_ (pv 0) (a_ (pv 1) b_))))
  (e_ (gA 3 nd c_)
  (e_ (gF (gE nr (ij jr (by rfl) T.ja PySem.boot_len (a_ (pv 0) b_)) c_ (gC _)) (gi (gA 3 nd (ju (pv 0) (gn ir (ju (pv 1) c_) (ij jr (by rfl) T.ja PySem.boot_len (a_ (pv 0) b_)))))) gH)
  (e_ (gF (gE iu (gn ir (pv 2) c_) c_ (gC _)) (gi (gw (gn nq (gn ir (gn jc (pv 2) c_) c_) c_))) gH)
  (gi (gw (gn nq (gn ir (gn j0 (gn ir (pv 3) (gn sG c_ c_)) (gn mF (pv 2) (gn sG c_ c_))) (gn mF c_ (gn sG c_ c_))) (gn sG c_ c_)))))))),?_⟩
 ac_rfl
 refine⟨_,rfl,_,rfl,a,b,ns,n,rfl,g,hn,λH1 s1 h1=>?_⟩;have g1:=g.go s1 h1 (by omega);have hS:=g1.kY.sq;have r0:=vP ns (n+1);have r1:=vQ ns (n+1);have hl:(ns.map V.int).length=ns.length:=Q0 _;have hq:∀e,num ns (n+1)=e->Q (.int e) H1:=λe he=>by rw[<-he];exact q _ s1 h1
 unfold num at hq;refine⟨_,rfl,a,_,rfl,.inl hS,_,_,rfl,rfl,_,rfl,?_⟩;have pw:uW 10 40:=⟨by decide,by decide,by decide⟩;have ac:uW 10 29:=⟨by decide,by decide,by decide⟩;refine h_ (λc=>?_) (λc=>?_)
 . have c':(0:Int)<((ns.map V.int).length:Nat):=of_decide_eq_true c;rw[hl] at c';have i0:=Q0m (n+1) (show(ns.length:Int)≠0 by omega);have i1:=Q0n (n+1) c'
   have hz:i8 (ns.map V.int) ((n+1) % (((ns.map V.int).length:Nat):Int))=some (.int (cellAt ns (n+1))):=by
    rw[hl,int_at i0 i1];unfold cellAt;rw[if_pos (by omega)]
   refine⟨_,rfl,_,rfl,b,_,_,_,rfl,rfl,f_.of h1,rfl,_,rfl,a,_,rfl,.inl hS,_,_,rfl,rfl,by rw[hl];exact c',a,_,_,_,rfl,rfl,hS,hz,?_⟩;refine⟨_,rfl,_,_,rfl,rfl,(by show(0:Int)<_;decide),rfl,_,rfl,h_ (λc2=>?_) (λc2=>?_)⟩
   . have c3:nx ns (n+1) % 3=0:=by
      have:=of_decide_eq_true c2;injection this
     refine⟨_,rfl,_,_,rfl,rfl,⟨by decide,by decide⟩,_,_,rfl,rfl,(by show(0:Int)<_;decide),_,_,rfl,rfl,hq _ (by rw[if_pos c3])⟩
   . have c3:¬nx ns (n+1) % 3=0:=λz=>c2 (decide_eq_true (show V.int (nx ns (n+1) % 3)=V.int 0 by rw[z]));refine⟨_,rfl,_,_,rfl,rfl,pw,_,_,rfl,rfl,(by show(0:Int)<_;decide),_,rfl,_,_,rfl,rfl,ac,_,_,rfl,rfl,.inl ⟨by omega,by omega⟩,_,_,rfl,rfl,_,_,rfl,rfl,pw,_,_,rfl,rfl,.inl ⟨by decide,by decide⟩,_,_,rfl,rfl,(by show(0:Int)<_;decide),_,_,rfl,rfl,pw,_,_,rfl,rfl,hq _ (by rw[if_neg c3];rfl)⟩
 . have c':¬(0:Int)<((ns.map V.int).length:Nat):=λz=>c (decide_eq_true z);rw[hl] at c'
   have hz:cellAt ns (n+1)=0:=by
    unfold cellAt;rw[if_neg (by omega)]
   refine⟨_,rfl,_,_,rfl,rfl,(by show(0:Int)<_;decide),rfl,_,rfl,h_ (λc2=>?_) (λc2=>?_)⟩
   . have c3:nx ns (n+1) % 3=0:=by
      have:=of_decide_eq_true c2;injection this
     refine⟨_,rfl,_,_,rfl,rfl,⟨by decide,by decide⟩,_,_,rfl,rfl,(by show(0:Int)<_;decide),_,_,rfl,rfl,hq _ (by rw[if_pos c3])⟩
   . have c3:¬nx ns (n+1) % 3=0:=λz=>c2 (decide_eq_true (show V.int (nx ns (n+1) % 3)=V.int 0 by rw[z]));refine⟨_,rfl,_,_,rfl,rfl,pw,_,_,rfl,rfl,(by show(0:Int)<_;decide),_,rfl,_,_,rfl,rfl,ac,_,_,rfl,rfl,.inl ⟨by omega,by omega⟩,_,_,rfl,rfl,_,_,rfl,rfl,pw,_,_,rfl,rfl,.inl ⟨by decide,by decide⟩,_,_,rfl,rfl,(by show(0:Int)<_;decide),_,_,rfl,rfl,pw,_,_,rfl,rfl,hq _ (by rw[if_neg c3,hz];rfl)⟩
theorem p7:lx.length=93:=by decide +kernel
theorem DW {z:Int}(I:0<=z)(h1:z<93):i8 lx.cps.toList z=some (lx.cps.toList.getD z.toNat 0):=by
 have hl:lx.cps.toList.length=93:=by
  have:=p7;rw[Q1e];exact this
 unfold i8 mf;rw[hl,if_pos I,if_pos (show z<((93:Nat):Int) by omega)];show lx.cps.toList[z.toNat]? =_;rw[Q05,Q03 (by omega)];rfl
theorem v_ (m:Int):∀k,(pQ m k).length=k
 |0=>rfl
 |k+1=>by
  show(pQ m k++_).length=_;rw[DG,v_ m k];rfl
noncomputable def σW (a b:Addr) (m:Int) (k:Int) (w:Str) (y z:Option V):St:=[some (.ref a),some (.ref b),some (.str lx),some (.int m),some (.int k),some (.str w),y,z]
theorem KI:gQ ["_law_script","_law_at","_law_signs","_law_m","_law_many","_law_word_here","_law_k","_law_place"] XB (gp (top 34)):=g_
theorem KJ (T:Tb mg)(I:Dn K mg "_law_word" gL (top 34) J L)(U:Dn K mg "_law_next" gL (top 32) Y aa)(ab:gc P w K mg base gf (1) Y aa gL (nL K)):gc P w K mg base gf (2) J L gL (DV K):=by
 refine I.F.ok KI λvs H Q E h=>?_;obtain⟨a,b,ns,n,rfl,g,hn,q⟩:=h;refine⟨rfl,λae A outer s nd hr hu=>?_⟩
 refine⟨_,(e_ (gA 2 nd gW)
  (e_ (gA 2 nd (gn qJ (pv 2) gW))
  (e_ (gA 3 nd (gv ab hr U (a_ (pv 0) (a_ (pv 1) b_))))
  (e_ (gA 4 nd (gn ir (pv 3) c_))
  (e_ (gF (gE iu (gn ir (gn jc (pv 3) c_) c_) c_ (gC _)) (gi (gA 4 nd c_)) gH)
  (e_ (gA 5 nd gW)
  (e_ (jk PassesOwn.never rfl (oA rfl T.nI (a_ (pv 4) b_)) (gY (i:=6) nd rfl iG) (e_ (gA 7 nd (gn j0 (gn jc (pv 3) c_) (gn mF (gn mF (pv 6) (pv 6)) (gn ir (gn jc (pv 3) c_) c_))))
  (gi (gA 5 nd (gn qJ (pv 5) (oH qN (pv 2) (gn ir (pv 7) (ij IK (by rfl) T.ja PySem.boot_len (a_ (pv 2) b_))) (λ_ _=>rfl)))))))
  (gi (gw (pv 5)))))))))),?_⟩
 ac_rfl
 have ac:(lx).length<=sizeLine:=by rw[p7];decide
 refine⟨_,rfl,_,_,rfl,rfl,ac,?_⟩;refine⟨_,rfl,_,rfl,a,b,ns,n,rfl,g,hn,λH1 s1 h1=>?_⟩;have r0:=vP ns (n+1);have r1:=vQ ns (n+1);have hq:∀e,iz ns (n+1)=e->Q (.str e) H1:=λe he=>by rw[<-he];exact q _ s1 h1
 unfold iz at hq;generalize nx ns (n+1)=m at *;refine⟨_,rfl,_,_,rfl,rfl,(by show(0:Int)<_;decide),?_⟩;refine⟨_,rfl,_,_,rfl,rfl,⟨by decide,by decide⟩,_,_,rfl,rfl,(by show(0:Int)<_;decide),rfl,_,rfl,h_ (λc=>?_) (λc=>?_)⟩
 . have c3:m / 5 % 29=0:=by
    have:=of_decide_eq_true c;injection this
   rw[if_pos c3] at hq;refine⟨_,rfl,_,rfl,by decide,by decide,nj (n:=Int.toNat 40) (λi σ H'=>∃y z,σ=σW a b m 40 (pQ m i) y z/\H'=H1) ⟨_,_,rfl,rfl⟩ ?_ ?_⟩
   . rintro i σ H' hi ⟨y,z,rfl,rfl⟩;have hi:i<40:=hi;have e0:(0:Int)+(i:Int)=(i:Int):=by omega
     have l3:0<=(m / 145+((0:Int)+(i:Int)) * ((0:Int)+(i:Int)) * (m / 7 % 3)) % 93/\(m / 145+((0:Int)+(i:Int)) * ((0:Int)+(i:Int)) * (m / 7 % 3)) % 93<93:=⟨Q0m _ (by decide),Q0n _ (by decide)⟩;refine⟨_,rfl,_,_,rfl,rfl,⟨by decide,by decide⟩,_,rfl,_,rfl,_,_,rfl,rfl,.inl ⟨by omega,by omega⟩,_,rfl,_,_,rfl,rfl,⟨by decide,by decide⟩,_,_,rfl,rfl,(by show(0:Int)<_;decide),_,_,rfl,rfl,.inr ⟨by omega,by omega⟩,_,_,rfl,rfl,?_⟩;refine⟨_,rfl,_,rfl,_,rfl,_,rfl,_,rfl,ac,_,_,rfl,rfl,(by show(0:Int)<((lx.length:Nat):Int);rw[p7];decide),lx,_,_,rfl,rfl,ac,(by rw[p7];exact DW l3.1 l3.2),_,_,rfl,rfl,?_,?_⟩
     . rw[v_];show i+1<=sizeLine;exact Q0w (iF (by omega))
     . rw[e0];exact⟨_,_,rfl,rfl⟩
   . rintro σ H' ⟨y,z,rfl,rfl⟩;exact⟨_,rfl,hq _ rfl⟩
 . have c3:¬m / 5 % 29=0:=λz=>c (decide_eq_true (show V.int (m / 5 % 29)=V.int 0 by rw[z]));rw[if_neg c3] at hq;have h5:0<=m % 5/\m % 5<5:=by omega
   refine⟨_,rfl,_,rfl,by omega,by omega,nj (n:=Int.toNat (m % 5)) (λi σ H'=>∃y z,σ=σW a b m (m % 5) (pQ m i) y z/\H'=H1) ⟨_,_,rfl,rfl⟩ ?_ ?_⟩
   . rintro i σ H' hi ⟨y,z,rfl,rfl⟩;have hi:i<40:=by omega
     have e0:(0:Int)+(i:Int)=(i:Int):=by omega
     have l3:0<=(m / 145+((0:Int)+(i:Int)) * ((0:Int)+(i:Int)) * (m / 7 % 3)) % 93/\(m / 145+((0:Int)+(i:Int)) * ((0:Int)+(i:Int)) * (m / 7 % 3)) % 93<93:=⟨Q0m _ (by decide),Q0n _ (by decide)⟩;refine⟨_,rfl,_,_,rfl,rfl,⟨by decide,by decide⟩,_,rfl,_,rfl,_,_,rfl,rfl,.inl ⟨by omega,by omega⟩,_,rfl,_,_,rfl,rfl,⟨by decide,by decide⟩,_,_,rfl,rfl,(by show(0:Int)<_;decide),_,_,rfl,rfl,.inr ⟨by omega,by omega⟩,_,_,rfl,rfl,?_⟩;refine⟨_,rfl,_,rfl,_,rfl,_,rfl,_,rfl,ac,_,_,rfl,rfl,(by show(0:Int)<((lx.length:Nat):Int);rw[p7];decide),lx,_,_,rfl,rfl,ac,(by rw[p7];exact DW l3.1 l3.2),_,_,rfl,rfl,?_,?_⟩
     . rw[v_];show i+1<=sizeLine;exact Q0w (iF (by omega))
     . rw[e0];exact⟨_,_,rfl,rfl⟩
   . rintro σ H' ⟨y,z,rfl,rfl⟩;exact⟨_,rfl,hq _ rfl⟩
theorem KL (n:Nat)(h:n<=1000):Builtin.Str.tooLong n=false:=by
 have:n<=sizeLine:=Q0w (iF h);unfold Builtin.Str.tooLong;exact decide_eq_false (by omega)
theorem KN (f:Nat->Str)(i:Nat):((List.range (i+1)).map f).map V.str=((List.range i).map f).map V.str++[V.str (f i)]:=by
 rw[List.range_succ,Q0b,Q0b];rfl
noncomputable abbrev abc:Str:="abcdefghijklmnopqrstuvwxyz"
noncomputable abbrev stemOf (r:Int):Str:=lt (r / 6 % 26)++lt (r / 156 % 26)
noncomputable def σN (a b:Addr) (m:Nat) (r:Int) (p:Addr) (y z:Option V):St:=
 [some (.ref a),some (.ref b),some (.int m),some (.str abc),some (.int r),some (.int (2 * (r % 6)+1)),some (.str (stemOf r)),some (.int (r / 4056 % 3)),some (.ref p),y,z]
theorem KO:gQ ["_law_script","_law_at","_law_many","_law_letters","_law_m","_law_step","_law_stem","_law_cut","_law_names_here","_law_k","_law_sign"] Xe (gp (top 35)):=g_
theorem DX (T:Tb mg)(I:Dn K mg "_law_names" mS (top 35) J L)(Y:Dn K mg "_law_next" gL (top 32) aa ab)(ac:gc P w K mg base gf (1) aa ab gL (my K)):gc P w K mg base gf (2) J L mS (t8 K):=by
 refine I.F.ok KO λvs H Q E h=>?_;obtain⟨a,b,ns,n,m,rfl,hm,g,hn,q⟩:=h;refine⟨rfl,λam A outer s nd hr hu=>?_⟩
 refine⟨_,(e_ (gA 3 nd gW)
  (e_ (gA 4 nd (gv ac hr Y (a_ (pv 0) (a_ (pv 1) b_))))
  (e_ (gA 5 nd (ju (iV (a_ c_ (a_ c_ (a_ c_ (a_ c_ (a_ c_ (a_ c_ b_))))))) (gn ir (pv 4) c_)))
  (e_ (gA 6 nd (gn qJ (oH qN (pv 3) (gn ir (gn jc (pv 4) c_) c_) (λ_ _=>rfl)) (oH qN (pv 3) (gn ir (gn jc (pv 4) c_) c_) (λ_ _=>rfl))))
  (e_ (gA 7 nd (gn ir (gn jc (pv 4) c_) c_))
  (e_ (gA 8 nd (iV b_))
  (e_ (jk PassesOwn.never rfl (oA rfl T.nI (a_ (pv 2) b_)) (gY (i:=9) nd rfl iG) (gi (gF (gE iu (gn ir (gn jc (pv 4) c_) c_) c_ (gC _)) (gi (kh (lg PySem.F.plainAttrs_list PySem.F.slot_list_append PySem.F.type_list_append mi (pv 8) (a_ (gn Jz (oH qN (pv 3) (gn ir (gn jc (pv 4) c_) c_) (λ_ _=>rfl)) (gn j0 (pv 9) c_)) b_)))) (e_ (gA 10 nd (oH qN (pv 3) (gn ir (gn j0 (gn jc (pv 4) c_) (gn mF (pv 9) (pv 5))) c_) (λ_ _=>rfl)))
  (gi (kh (lg PySem.F.plainAttrs_list PySem.F.slot_list_append PySem.F.type_list_append mi (pv 8) (a_ (gn qJ (gn qJ (u7 CI (pv 6) u4 (u5 (pv 7))) (pv 10)) (u7 CI (pv 6) (u5 (pv 7)) u4)) b_))))))))
  (gi (gw (ij Ju (by rfl) T.mw boot_sorted (a_ (pv 8) b_))))))))))),?_⟩
 ac_rfl
 refine⟨_,rfl,_,rfl,a,b,ns,n,rfl,g,hn,λr H1 r0 r1 s1 h1=>?_⟩;have hz:(abc).length<=sizeLine:=by decide +kernel
 have m6:0<=r % 6/\r % 6<6:=by omega
 have l1:0<=r / 6 % 26/\r / 6 % 26<26:=by omega
 have l2:0<=r / 156 % 26/\r / 156 % 26<26:=by omega
 refine⟨Kz,λp1 ai=>?_⟩;refine⟨_,rfl,_,_,rfl,rfl,(by show(0:Int)<_;decide),p1,_,_,_,rfl,rfl,f_.of gh,Kl m6.1 m6.2,?_⟩;have s2:SB b H (upd H1 p1 (.lst [.int 1,.int 3,.int 5,.int 7,.int 9,.int 11])):=s1.trans (SB.new ai);have h2:upd H1 p1 (.lst [.int 1,.int 3,.int 5,.int 7,.int 9,.int 11]) b=some (.lst [.int (n+1)]):=by rw[d_ (gz h1 ai)];exact h1
 generalize upd H1 p1 (.lst [.int 1,.int 3,.int 5,.int 7,.int 9,.int 11])=H2 at s2 h2
 refine⟨_,rfl,_,rfl,_,_,rfl,rfl,⟨by decide,by decide⟩,_,_,rfl,rfl,(by show(0:Int)<_;decide),_,_,_,rfl,rfl,hz,tH l1.1 l1.2,_,rfl,_,rfl,_,_,rfl,rfl,⟨by decide,by decide⟩,_,_,rfl,rfl,(by show(0:Int)<_;decide),_,_,_,rfl,rfl,hz,tH l2.1 l2.2,
  _,_,rfl,rfl,i3,?_⟩
 refine⟨_,rfl,_,_,rfl,rfl,⟨by decide,by decide⟩,_,_,rfl,rfl,(by show(0:Int)<_;decide),?_⟩;refine⟨mR,λp hp=>?_⟩;have ak:p≠b:=λz=>by rw[z,h2] at hp;cases hp
 have em:Int.toNat (m:Int)=m:=by omega
 refine⟨_,rfl,_,rfl,by omega,by omega,nj (n:=Int.toNat (m:Int)) (λi σ H'=>∃y z,σ=σN a b m r p y z/\SB b H H'/\H' b=some (.lst [.int (n+1)])/\H' p=some (.lst (((List.range i).map (nameAt r)).map V.str))) ?_ ?_ ?_⟩
 . exact⟨_,_,rfl,s2.trans (SB.new hp),by rw[d_ (gz h2 hp)];exact h2,gh⟩
 . intro i σ H' hi zq;obtain⟨y,z,rfl,sb,ag,af⟩:=zq;rw[em] at hi
   have ae:(((List.range i).map (nameAt r)).map V.str).length<sizeLine:=by
    rw[Q0,Q0,Q2h];exact iF (by omega)
   have next:∀(v:Str) (y' z':Option V),v=nameAt r i->∃y z,σN a b m r p y' z'=σN a b m r p y z/\SB b H (upd H' p (.lst (((List.range i).map (nameAt r)).map V.str++[V.str v])))/\
    upd H' p (.lst (((List.range i).map (nameAt r)).map V.str++[V.str v])) b=some (.lst [.int (n+1)])/\upd H' p (.lst (((List.range i).map (nameAt r)).map V.str++[V.str v])) p=some (.lst (((List.range (i+1)).map (nameAt r)).map V.str)):=by
    rintro v y' z' rfl;refine⟨y',z',rfl,λc o hc hh=>?_,by rw[d_ (Ne.symm ak)];exact ag,by rw[gh,KN]⟩;by_cases e:c=p
    . subst e;have:=s2 c o hc hh;rw[hp] at this;cases this
    . rw[d_ e];exact sb c o hc hh
   have e0:(0:Int)+(i:Int)=(i:Int):=by omega
   refine⟨_,rfl,_,_,rfl,rfl,⟨by decide,by decide⟩,_,_,rfl,rfl,(by show(0:Int)<_;decide),rfl,_,rfl,?_⟩;refine h_ (λc=>?_) (λc=>?_)
   . have c':r / 12168 % 4=0:=by
      have:=of_decide_eq_true c;injection this
     refine⟨_,rfl,.inl ⟨rfl,_,f_.of af⟩,_,rfl,_,rfl,_,_,rfl,rfl,⟨by decide,by decide⟩,_,_,rfl,rfl,(by show(0:Int)<_;decide),_,_,_,rfl,rfl,hz,tH l1.1 l1.2,_,rfl,_,_,rfl,rfl,_,_,rfl,rfl,?_,p,_,_,rfl,rfl,af,ae,?_⟩
     . rw[e0];exact Ks (tG _) (by omega) KL
     . refine next _ _ _ ?_;rw[e0];unfold nameAt;rw[if_pos c'];rfl
   . have c':¬r / 12168 % 4=0:=λz=>c (decide_eq_true (show V.int (r / 12168 % 4)=V.int 0 by rw[z]));have l3:0<=(r / 156+((0:Int)+(i:Int)) * (2 * (r % 6)+1)) % 26/\(r / 156+((0:Int)+(i:Int)) * (2 * (r % 6)+1)) % 26<26:=⟨Q0m _ (by decide),Q0n _ (by decide)⟩;have ls:(stemOf r).length<=sizeLine:=i3;refine⟨_,rfl,_,rfl,_,_,rfl,rfl,⟨by decide,by decide⟩,_,rfl,_,rfl,_,_,rfl,rfl,.inl ⟨by omega,by omega⟩,_,_,rfl,rfl,_,_,rfl,rfl,(by show(0:Int)<_;decide),_,_,_,rfl,rfl,hz,tH l3.1 l3.2,?_⟩;have k1:=Txt.slice_le (stemOf r) none (some (r / 4056 % 3));have k2:=Txt.slice_le (stemOf r) (some (r / 4056 % 3)) none;have k0:(stemOf r).length=2:=rfl;rw[k0] at k1 k2;refine⟨_,rfl,.inl ⟨rfl,_,f_.of af⟩,_,rfl,_,rfl,_,rfl,_,rfl,ls,_,rfl,_,_,rfl,rfl,?_,_,rfl,_,rfl,_,rfl,_,rfl,ls,_,_,rfl,rfl,?_,p,_,_,rfl,rfl,af,ae,?_⟩
     . show _+1<=sizeLine;exact Q0d (Q3e k1 1) (by decide)
     . rw[DG];show _+1+_<=sizeLine;exact Q0d (Nat.add_le_add (Q3e k1 1) k2) (by decide)
     . refine next _ _ _ ?_;rw[e0];unfold nameAt;rw[if_neg c'];rfl
 . intro σ H' zq;obtain⟨y,z,rfl,sb,ag,af⟩:=zq;rw[em] at af;have ae:((List.range m).map (nameAt r)).length=m:=by rw[Q0,Q2h]
   refine⟨_,rfl,p,_,rfl,f_.of af,by rw[ae];omega,λp' al ah U aj=>?_⟩;refine q p' al _ (sb.trans (SB.new ah)) (by rw[d_ (gz ag ah)];exact ag) (λz=>by rw[z,ag] at ah;cases ah) gh (U.length_eq.trans ae) ?_ ?_ ⟨vX aj,?_⟩
   . exact U.nodup_iff.mpr (names_nodup r0 hm)
   . intro x hx;obtain⟨i,hi,rfl⟩:=List.mem_map.mp (U.mem_iff.mp hx);exact Ku
   . intro x hx;obtain⟨i,hi,rfl⟩:=List.mem_map.mp (U.mem_iff.mp hx);exact Kv
theorem KP:gQ Xj XH (gp (top 37)):=g_
theorem KQ (d:Nat)(T:Tb mg)(I:Dn K mg "_law_fields" kB (top 37) J L)(U:Dn K mg "_law_names" mS (top 35) Y aa)(ab:gc P w K mg base gf (2) Y aa mS (t8 K))(ac:Dn K mg "_law_kind" jF (top 39) ae af)(ag:gc P w K mg base gf (2 * d+4) ae af jF (oY K d)):gc P w K mg base gf (2 * d+5) J L kB (DS K d):=by
 refine I.F.ok KP λvs H Q E h=>?_;obtain⟨a,b,ns,n,m,rfl,hm,g,hn,q⟩:=h;refine⟨rfl,λaC A outer s nd hr hu=>?_⟩
 refine⟨_,(e_ (gA 4 nd (gv ab hr U (a_ (pv 0) (a_ (pv 1) (a_ (pv 2) b_)))))
  (gi (gw (lW pH (by rfl) T.nJ boot_tuple (a_ (kT (g:=(iH 0)) (tt:=mK) (te:=(qK (i5 (gJ 0) (i5 (nu _ _ _ (i5 (gJ 1) (i5 (gJ 2) (i5 (gJ 4) j2)))) j2)))) (own:=["_law_name"]) rfl (jE (N:=Xj) (sc:=gp (top 37))) (kP (pv 4)) (λ_ _ _ _ _=>(gY (i:=0) (show(["_law_name","_law_script","_law_at","_law_many","_law_deep","_law_names_here"]:List Str).Nodup by decide +kernel) rfl (Or.inl rfl) (.inr rfl))) (λ_ _ _ _ _=>oJ) (λ_ _ _ _ _=>(iP (a_ (pv 0) (a_ (gv ag hr ac (a_ (pv 1) (a_ (pv 2) (a_ (pv 4) b_)))) b_))))) b_))))),?_⟩
 ac_rfl
 have ap:n<=1000000000000:=by omega
 refine⟨_,rfl,_,rfl,_,rfl,a,b,ns,n,m,rfl,by omega,g,ap,λp ss H1 s1 h1 aq hp hl ar au _=>?_⟩
 refine⟨_,rfl,p,rfl,⟨_,f_.of hp⟩,λi m' ys H'=>m'=ss.length - i/\i<=ss.length/\∃(fs:Fs) (n':Int),SB b H H'/\H' b=some (.lst [.int n'])/\n<=n'/\n'<=n+1+i * ck d/\H' p=some (.lst (ss.map V.str))/\FA H' ys fs/\fs.names=ss.take i/\fs.dep<=d+1/\ys.length=i/\fs.W,
  ⟨_,rfl,Q0g _,.nil,n+1,s1,h1,by omega,by omega,hp,by unfold FA;rfl,by simp[Fs.names],by simp[Fs.dep],rfl,by unfold Fs.W;trivial⟩,?_⟩
 intro i m' ys H' zq;obtain⟨rfl,aB,fs,n',sb,ai,z1,z2,aj,hf,ak,av,hy,hW⟩:=zq;by_cases hi:i<ss.length
 . refine .inr ⟨⟨_,.str ss[i],f_.of aj,by rw[Q0h,Q03 hi];rfl⟩,iF (by omega),λx aw y=>?_⟩;obtain⟨rfl,y⟩:=y;have hx:=y _ (f_.of aj)
   have ex:x=.str ss[i]:=by
    rw[Q0h,Q03 hi] at hx;exact(Option.some.inj hx).symm
   subst ex;refine⟨rfl,yes (i_ ?_)⟩;have ax:(i:Int)<=2:=by omega
   have aD:(i:Int) * ck d<=2 * ck d:=Q1u ax (by omega);refine⟨_,rfl,_,rfl,_,rfl,_,rfl,a,b,ns,n',rfl,g.go sb ai z1,by omega,λv k ay H2 s2 h2 y1 y2 hk aE az=>?_⟩;refine⟨i3,λt ht=>?_⟩;have aA:t≠b:=λz=>by rw[z,h2] at ht;cases ht
   have al:Tu H2 (upd H2 t (.tup [.str ss[i],v])):=Tu.of (λc o h=>by rw[d_ (gz h ht)];exact h);have tu:Tu aw (upd H2 t (.tup [.str ss[i],v])):=(s2.tu ai).trans al;refine⟨_,Nat.sub_lt_sub_left hi (Q19 i),rfl,hi,fs.snoc ss[i] k,ay,sb.trans (s2.trans (SB.new ht)),by rw[d_ (Ne.symm aA)];exact h2,by omega,?_,?_,FA.snoc gh (KA.mono al k hk) fs (FA.mono tu fs hf),?_,?_,?_,Fs.vM az (au _ (Q0r _)) hW⟩
   . have e:((i+1:Nat):Int) * ck d=(i:Int) * ck d+ck d:=by
      rw[Q20,Q21];simp
     rw[e];omega
   . have h3:=s2 p _ aq aj;rw[d_ (gz h3 ht)];exact h3
   . rw[Fs.vK,ak,Q0q,Q03 hi];rfl
   . rw[Fs.vL];omega
   . rw[Q09,hy];rfl
 . have ei:i=m:=by omega
   subst ei;refine .inl ⟨⟨_,f_.of aj,by rw[Q0];omega⟩,λp' ah=>?_⟩;have e3:(i:Int) * ck d<=3 * ck d:=Q1u (by omega) (by omega);refine⟨p',ys,rfl,.inl ⟨f_.of gh,λt ht=>?_⟩⟩;have ao:p'≠b:=λz=>by rw[z,ai] at ah;cases ah
   have am:upd H' p' (.lst ys) b=some (.lst [.int n']):=by rw[d_ (Ne.symm ao)];exact ai
   have tu:Tu H' (upd (upd H' p' (.lst ys)) t (.tup ys)):=λc xs h=>by
    rw[d_ (gz (show upd H' p' (.lst ys) c=some (.tup xs) by rw[d_ (gz h ah)];exact h) ht),d_ (gz h ah)];exact h
   have an:ss.take i=ss:=by rw[<-hl,Q0p]
   refine q t ys fs n' _ (sb.trans ((SB.new ah).trans (SB.new ht))) (by rw[d_ (gz am ht)];exact am) z1 (by omega) gh (FA.mono tu fs hf) ?_ ?_ av hW
   . rw[ak,an];exact ar
   . rw[ak,an];exact hl
noncomputable def σR (a b:Addr) (m d:Nat) (p:Addr) (r:Int) (I:Addr) (x y z:Option V):St:=
 [some (.ref a),some (.ref b),some (.int m),some (.int d),some (.ref p),some (.int r),some (.int (r % m)),some (.int (r / m % (m+1))),some (.ref I),x,y,z]
theorem rD {ss:List Str}{z:Int}(I:0<=z)(h1:z<ss.length):∃x:Str,i8 (ss.map V.str) z=some (.str x)/\ss[z.toNat]? =some x:=by
 obtain⟨j,rfl⟩:∃j:Nat,z=(j:Int):=⟨z.toNat,by omega⟩;exact⟨ss[j]'(by omega),ki (by rw[Q0h,Q03 (by omega)];rfl),by rw[Q3c];exact Q03 (by omega)⟩
theorem Fs.DY:∀{fs:Fs}{x:Str}{k:Kd}{j:Nat}{y:Str}{q:Kd},fs.at j=some (y,q)->(fs.snoc x k).at j=some (y,q)
 | .nil,_,_,_,_,_,h=>by cases h
 | .cons _ _ _,_,_,0,_,_,h=>h
 | .cons _ _ r,x,k,j+1,y,q,h=>Fs.DY (fs:=r) (j:=j) h
theorem Fs.DZ:∀{fs:Fs}{x:Str}{k:Kd},(fs.snoc x k).at fs.names.length=some (x,k)
 | .nil,_,_=>rfl
 | .cons _ _ r,x,k=>Fs.DZ (fs:=r)
theorem KR:gQ ["_law_script","_law_at","_law_many","_law_deep","_law_names_here","_law_m","_law_lead","_law_by","_law_fields_here","_law_k","_law_kind_here","_law_name"] XH (gp (top 38)):=g_
theorem wa (d:Nat)(T:Tb mg)(L:Dn K mg "_law_rows_kind" kB (top 38) U Y)(ac:Dn K mg "_law_names" mS (top 35) ae af)(ag:gc P w K mg base gf (2) ae af mS (t8 K))(am:Dn K mg "_law_next" gL (top 32) an ao)(ap:gc P w K mg base gf (1) an ao gL (my K))(ah:Dn K mg "_law_plain" gL (top 36) ai aj)(ak:gc P w K mg base gf (2) ai aj gL (p6 K))(aq:Dn K mg "_law_kind" jF (top 39) ar au)(av:gc P w K mg base gf (2 * d+4) ar au jF (oY K d)):
 gc P w K mg base gf (2 * d+5) U Y kB (t9 K d):=by
 refine L.F.ok KR λvs H Q E h=>?_;obtain⟨a,b,ns,n,m,rfl,bu,hm,g,hn,q⟩:=h;refine⟨rfl,λbv A outer s nd hr hu=>?_⟩;have bw:(0:Int)<=(m:Int) * (ck d+1):=Int.mul_nonneg (by omega) (by omega)
 refine⟨_,(e_ (gA 4 nd (gv ag hr ac (a_ (pv 0) (a_ (pv 1) (a_ (pv 2) b_)))))
  (e_ (gA 5 nd (gv ap hr am (a_ (pv 0) (a_ (pv 1) b_))))
  (e_ (gA 6 nd (gn ir (pv 5) (pv 2)))
  (e_ (gA 7 nd (gn ir (gn jc (pv 5) (pv 2)) (gn j0 (pv 2) c_)))
  (e_ (gA 8 nd (iV b_))
  (e_ (jk PassesOwn.never rfl (oA rfl T.nI (a_ (pv 2) b_)) (gY (i:=9) nd rfl iG) (e_ (gA 10 nd (gv av hr aq (a_ (pv 0) (a_ (pv 1) (a_ (pv 3) b_)))))
  (e_ (gF (PW.pt (kg (gE iu (pv 9) (pv 6) (gC _)) (kM (gE iu (pv 9) (pv 7) (gC _))))) (gi (gA 10 nd (gv ak hr ah (a_ (pv 0) (a_ (pv 1) b_))))) gH)
  (gi (kh (lg PySem.F.plainAttrs_list PySem.F.slot_list_append PySem.F.type_list_append mi (pv 8) (a_ (iP (a_ (ju (pv 4) (pv 9)) (a_ (pv 10) b_))) b_)))))))
  (e_ (gA 11 nd gW)
  (e_ (gF (PW.pt (m_ (gE sI (pv 7) (pv 2) (gC _)) (oq (gE j1 (pv 7) (pv 6) (gC _))))) (gi (gA 11 nd (ju (pv 4) (pv 7)))) gH)
  (gi (gw (iP (a_ gW (a_ (ju (pv 4) (pv 6)) (a_ (pv 11) (a_ (lW pH (by rfl) T.nJ boot_tuple (a_ (pv 8) b_)) b_))))))))))))))),?_⟩
 ac_rfl
 refine⟨_,rfl,_,rfl,_,rfl,a,b,ns,n,m,rfl,by omega,g,by omega,λp ss H1 s1 h1 aA hp hl aZ a1 bf=>?_⟩;refine⟨_,rfl,_,rfl,a,b,ns,n+1,rfl,g.go s1 h1 (by omega),by omega,λr H2 r0 r1 s2 h2=>?_⟩;have aQ:H2 p=some (.lst (ss.map V.str)):=s2 p _ aA hp;have a2:SB b H H2:=s1.trans s2;refine⟨_,rfl,_,rfl,_,_,rfl,rfl,by omega,?_⟩;refine⟨_,rfl,_,rfl,_,_,rfl,rfl,⟨by omega,by omega⟩,_,rfl,_,_,rfl,rfl,_,_,rfl,rfl,by omega,?_⟩;refine⟨mR,λI aB=>?_⟩;have aa:I≠b:=λz=>by rw[z,h2] at aB;cases aB
 have a3:p≠I:=λz=>by rw[z,aB] at aQ;cases aQ
 have bc:∀o,H I=some o->False:=λo ho=>by
  have:=a2 I o aa ho;rw[aB] at this;cases this
 have em:Int.toNat (m:Int)=m:=by omega
 refine⟨_,rfl,_,rfl,by omega,by omega,nj (n:=Int.toNat (m:Int)) (λi σ H'=>∃(x y z:Option V) (n':Int) (ys:List V) (fs:Fs),σ=σR a b m d p r I x y z/\SB b H H'/\H' b=some (.lst [.int n'])/\n<=n'/\n'<=n+2+i * (ck d+1)/\
  H' p=some (.lst (ss.map V.str))/\H' I=some (.lst ys)/\FA H' ys fs/\fs.dep<=d+1/\ys.length=i/\fs.W/\fs.names=ss.take i/\∀j:Nat,j<i->((j:Int)=r % m\/(j:Int)=r / m % (m+1))->∃y q,fs.at j=some (y,q)/\jQ q) ?_ ?_ ?_⟩
 . refine⟨_,_,_,n+1+1,[],.nil,rfl,a2.trans (SB.new aB),by rw[d_ (Ne.symm aa)];exact h2,by omega,by omega,by rw[d_ a3];exact aQ,gh,by unfold FA;rfl,by simp[Fs.dep],rfl,by unfold Fs.W;trivial,rfl,λj hj=>absurd hj (by omega)⟩
 . intro i σ H' hi zq;obtain⟨x,y,z,n',ys,fs,rfl,sb,ay,z1,z2,al,J,aJ,bg,hy,hW,aK,aL⟩:=zq;rw[em] at hi
   have e1:((i+1:Nat):Int) * (ck d+1)=(i:Int) * (ck d+1)+(ck d+1):=by
    rw[Q20,Q21];simp
   have bh:((i+1:Nat):Int) * (ck d+1)<=(m:Int) * (ck d+1):=Q1u (by omega) (by omega);rw[e1] at bh;have aC:ys.length<sizeLine:=iF (by omega);have bi:∃q:Str,i8 (ss.map V.str) ((0:Int)+(i:Int))=some (.str q)/\ss[((0:Int)+(i:Int)).toNat]? =some q:=rD (by omega) (by omega);obtain⟨nm,aD,aw⟩:=bi
   have aw:ss[i]? =some nm:=by
    rw[show((0:Int)+(i:Int)).toNat=i by omega] at aw;exact aw
   have bj:fs.names.length=i:=by rw[<-FA.len fs aJ];exact hy
   have next:∀(x' y' z':Option V) (v:V) (k:Kd) (n2:Int) (H3:Hp) (t:Addr),SB b H' H3->H3 b=some (.lst [.int n2])->n'<=n2->n2<=n'+(ck d+1)->KA H3 v k->k.dep<=d+1->k.W->(((i:Int)=r % m\/(i:Int)=r / m % (m+1))->jQ k)->H3 t=none->
    ∃(x y z:Option V) (n':Int) (aT:List V) (fs:Fs),σR a b m d p r I x' y' z'=σR a b m d p r I x y z/\SB b H (upd (upd H3 t (.tup [.str nm,v])) I (.lst (ys++[.ref t])))/\(upd (upd H3 t (.tup [.str nm,v])) I (.lst (ys++[.ref t]))) b=some (.lst [.int n'])/\n<=n'/\
     n'<=n+2+((i+1:Nat):Int) * (ck d+1)/\(upd (upd H3 t (.tup [.str nm,v])) I (.lst (ys++[.ref t]))) p=some (.lst (ss.map V.str))/\(upd (upd H3 t (.tup [.str nm,v])) I (.lst (ys++[.ref t]))) I=some (.lst aT)/\
     FA (upd (upd H3 t (.tup [.str nm,v])) I (.lst (ys++[.ref t]))) aT fs/\fs.dep<=d+1/\aT.length=i+1/\fs.W/\fs.names=ss.take (i+1)/\∀j:Nat,j<i+1->((j:Int)=r % m\/(j:Int)=r / m % (m+1))->∃y q,fs.at j=some (y,q)/\jQ q:=by
    intro x' y' z' v k n2 H3 t s3 h3 w1 w2 hk a4 aU bm ht;have a5:H3 I=some (.lst ys):=s3 I _ aa J;have a6:H3 p=some (.lst (ss.map V.str)):=s3 p _ aA al;have bn:t≠I:=λz=>by rw[z,a5] at ht;cases ht
    have bo:t≠b:=λz=>by rw[z,h3] at ht;cases ht
    have bp:t≠p:=λz=>by rw[z,a6] at ht;cases ht
    have a7:Tu H3 (upd (upd H3 t (.tup [.str nm,v])) I (.lst (ys++[.ref t]))):=λc xs h=>by
     rw[d_ (gR h a5 (by intro z;cases z)),d_ (gz h ht)];exact h
    have rE:upd (upd H3 t (.tup [.str nm,v])) I (.lst (ys++[.ref t])) t=some (.tup [.str nm,v]):=by rw[d_ bn];exact gh
    refine⟨x',y',z',n2,ys++[.ref t],fs.snoc nm k,rfl,λc o hc hh=>?_,?_,by omega,by rw[e1];omega,?_,gh,FA.snoc rE (KA.mono a7 k hk) fs (FA.mono ((s3.tu ay).trans a7) fs aJ),by rw[Fs.vL];omega,by rw[Q09,hy];rfl,Fs.vM aU (a1 _ (Q0j aw)) hW,by rw[Fs.vK,aK,Q0q,aw];rfl,λj hj az=>?_⟩
    . have q1:=s3 c o hc (sb c o hc hh);by_cases e:c=I
      . subst e;exact(bc o hh).elim
      . rw[d_ e,d_ (gz q1 ht)];exact q1
    . rw[d_ (Ne.symm aa),d_ (Ne.symm bo)];exact h3
    . rw[d_ a3,d_ (Ne.symm bp)];exact a6
    . by_cases e:j<i
      . obtain⟨y,q,e1,e2⟩:=aL j e az;exact⟨y,q,Fs.DY e1,e2⟩
      . have:j=i:=by omega
        subst this;exact⟨nm,k,by have:=Fs.DZ (fs:=fs) (x:=nm) (k:=k);rwa [bj] at this,bm az⟩
   refine⟨_,rfl,_,rfl,_,rfl,a,b,ns,n',rfl,g.go sb ay z1,by omega,λv k n2 H3 s3 h3 w1 w2 hk a4 aU=>?_⟩;refine⟨_,rfl,_,rfl,rfl,_,rfl,?_⟩;refine h_ (λc=>i_ ?_) (λcL=>⟨_,rfl,_,rfl,rfl,_,rfl,h_ (λc=>?_) (λc=>?_)⟩)
   . refine⟨_,rfl,_,rfl,a,b,ns,n2,rfl,(g.go sb ay z1).go s3 h3 w1,by omega,λv' k' H4 s4 h4 aV bd aE aH=>?_⟩;have ab:=s3.trans s4;refine⟨_,rfl,.inl ⟨rfl,_,f_.of (ab I _ aa J)⟩,_,rfl,_,rfl,p,_,_,_,rfl,rfl,f_.of (ab p _ aA al),aD,_,rfl,i3,λt ht=>?_⟩;refine⟨I,_,_,rfl,rfl,by rw[d_ (gz (ab I _ aa J) ht)];exact ab I _ aa J,aC,?_⟩;exact next _ _ _ v' k' _ H4 t ab h4 (by omega) (by omega) aV (by omega) aH (λ_=>aE) ht
   . refine⟨_,rfl,_,rfl,a,b,ns,n2,rfl,(g.go sb ay z1).go s3 h3 w1,by omega,λv' k' H4 s4 h4 aV bd aE aH=>?_⟩;have ab:=s3.trans s4;refine⟨_,rfl,.inl ⟨rfl,_,f_.of (ab I _ aa J)⟩,_,rfl,_,rfl,p,_,_,_,rfl,rfl,f_.of (ab p _ aA al),aD,_,rfl,i3,λt ht=>?_⟩;refine⟨I,_,_,rfl,rfl,by rw[d_ (gz (ab I _ aa J) ht)];exact ab I _ aa J,aC,?_⟩;exact next _ _ _ v' k' _ H4 t ab h4 (by omega) (by omega) aV (by omega) aH (λ_=>aE) ht
   . refine⟨_,rfl,.inl ⟨rfl,_,f_.of (s3 I _ aa J)⟩,_,rfl,_,rfl,p,_,_,_,rfl,rfl,f_.of (s3 p _ aA al),aD,_,rfl,i3,λt ht=>?_⟩;refine⟨I,_,_,rfl,rfl,by rw[d_ (gz (s3 I _ aa J) ht)];exact s3 I _ aa J,aC,?_⟩;refine next _ _ _ v k _ H3 t s3 h3 (by omega) (by omega) hk a4 aU (λaz=>?_) ht
     exact(by
      rcases az with e|e
      . exact absurd (decide_eq_true (show V.int ((0:Int)+(i:Int))=V.int (r % m) by rw[<-e];congr 1;omega)) cL
      . exact absurd (decide_eq_true (show V.int ((0:Int)+(i:Int))=V.int (r / m % (m+1)) by rw[<-e];congr 1;omega)) c)
 . intro σ H' zq;obtain⟨x,y,z,n',ys,fs,rfl,sb,ay,z1,z2,al,J,aJ,bg,hy,hW,aK,aL⟩:=zq;rw[em] at z2 hy aL aK;have l0:0<=r % (m:Int):=Q0m _ (by omega);have l1:r % (m:Int)<m:=Q0n _ (by omega);have b0:0<=r / (m:Int) % ((m:Int)+1):=Q0m _ (by omega);obtain⟨xk,aW,aX⟩:=rD (ss:=ss) l0 (by omega);have ax:fs.names=ss:=by rw[aK,<-hl,Q0p]
   have a8:fs.names.Nodup:=by rw[ax];exact aZ
   have pl:∀(z:Int) (x:Str),0<=z->z<m->(z=r % m\/z=r / m % (m+1))->ss[z.toNat]? =some x->fs.pl x:=λz x h0 h1 az hx=>by
    obtain⟨y,q,e1,e2⟩:=aL z.toNat (by omega) (by rw[Q3f h0];exact az);have a9:=Fs.mr fs z.toNat;rw[e1,ax,hx] at a9;have e3:some x=some y:=a9
    cases e3;exact⟨q,Fs.oS a8 e1,e2⟩
   have bq:fs.pl xk:=pl _ _ l0 l1 (.inl rfl) aX;have aM:fs.names.length<=12:=by rw[ax,hl];omega
   have ba:xk≠"":=a1 xk (Q0j aX)
   have fin:∀(nm:Str),(nm=""\/fs.pl nm)->nm≠xk->∀(t:Addr),H' t=none->∀v:Addr,upd H' t (.tup ys) v=none->Q (.ref v) (upd (upd H' t (.tup ys)) v (.tup [.str "rows",.str xk,.str nm,.ref t])):=by
    intro nm br aY t ht v hv;have bt:v≠t:=λz=>by rw[z,gh] at hv;cases hv
    have tu:Tu H' (upd (upd H' t (.tup ys)) v (.tup [.str "rows",.str xk,.str nm,.ref t])):=λc xs h=>by
     have e:upd H' t (.tup ys) c=some (.tup xs):=by rw[d_ (gz h ht)];exact h
     rw[d_ (gz e hv)];exact e
    have bb:upd H' t (.tup ys) b=some (.lst [.int n']):=by rw[d_ (gz ay ht)];exact ay
    refine q (.ref v) xk nm fs n' _ (sb.trans ((SB.new ht).trans (SB.new hv))) (by rw[d_ (gz bb hv)];exact bb) z1 (by omega) ?_ (by simp only[Kd.dep];omega) (by unfold Kd.W;exact⟨a8,aM,hW,bq,br⟩) (by rw[ax,hl]) ⟨by rw[ax];exact bf.1,aY⟩;unfold KA;exact⟨v,t,ys,rfl,gh,by rw[d_ (Ne.symm bt)];exact gh,FA.mono tu fs aJ⟩
   refine⟨_,rfl,_,rfl,_,_,rfl,rfl,_,rfl,?_⟩;refine h_ (λc=>⟨_,rfl,_,rfl,rfl,_,rfl,h_ (λc2=>?_) (λc2=>?_)⟩) (λc=>h9 ?_)
   . have c':r / (m:Int) % ((m:Int)+1)<m:=of_decide_eq_true c;obtain⟨nm,be,aP⟩:=rD (ss:=ss) b0 (by omega)
     have aY:nm≠xk:=λe=>by
      obtain⟨i1,q1⟩:=List.getElem?_eq_some_iff.mp aP;obtain⟨i2,q2⟩:=List.getElem?_eq_some_iff.mp aX;have ei:=(Q1k aZ).mp (q1.trans (e.trans q2.symm));have ez:r / (m:Int) % ((m:Int)+1)=r % (m:Int):=by omega
      rw[ez] at c2;simp at c2
     refine⟨_,rfl,_,rfl,p,_,_,_,rfl,rfl,f_.of al,be,?_⟩;exact⟨_,rfl,_,rfl,p,_,_,_,rfl,rfl,f_.of al,aW,_,rfl,_,rfl,I,ys,rfl,.inl ⟨f_.of J,λt ht=>⟨oV,λv hv=>fin nm (.inr (pl _ _ b0 c' (.inr rfl) aP)) aY t ht v hv⟩⟩⟩
   . exact⟨_,rfl,_,rfl,p,_,_,_,rfl,rfl,f_.of al,aW,_,rfl,_,rfl,I,ys,rfl,.inl ⟨f_.of J,λt ht=>⟨oV,λv hv=>fin _ (.inl rfl) (Ne.symm ba) t ht v hv⟩⟩⟩
   . exact⟨_,rfl,_,rfl,p,_,_,_,rfl,rfl,f_.of al,aW,_,rfl,_,rfl,I,ys,rfl,.inl ⟨f_.of J,λt ht=>⟨oV,λv hv=>fin _ (.inl rfl) (Ne.symm ba) t ht v hv⟩⟩⟩
theorem KS (d:Nat)(T:Tb mg)(I:Dn K mg "_law_rows_kind" kB (top 38) J L)(U:Dn K mg "_law_names" mS (top 35) Y aa)(ab:gc P w K mg base gf (2) Y aa mS (t8 K))(ah:Dn K mg "_law_next" gL (top 32) ai aj)(ak:gc P w K mg base gf (1) ai aj gL (my K))(ac:Dn K mg "_law_plain" gL (top 36) ae af)(ag:gc P w K mg base gf (2) ae af gL (p6 K))(al:Dn K mg "_law_kind" jF (top 39) am an)(ao:gc P w K mg base gf (2 * d+4) am an jF (oY K d)):
 gc P w K mg base gf (2 * d+5) J L kB (DT K d):=(wa d T I U ab ah ak ac ag al ao).imp λvs H Q E h=>by
 obtain⟨a,b,ns,n,m,e,h1,h3,g,hn,q⟩:=h;have e3:(m:Int) * (ck d+1)<=3 * (ck d+1):=Q1u (by omega) (by omega);exact⟨a,b,ns,n,m,e,h1,by omega,g,by omega,λv key by_ fs n' H' s h0 l1 l2 k kd kw _ _=>q v _ n' H' s h0 l1 (by omega) k kd kw⟩
theorem D0:gQ ["_law_script","_law_at","_law_deep","_law_m"] XS (gp (top 39)):=g_
theorem KU (T:Tb mg)(Y:Dn K mg "_law_kind" jF (top 39) aa ab)(ac:Dn K mg "_law_next" gL (top 32) ae af)(ag:gc P w K mg base gf (1) ae af gL (my K))(I:Dn K mg "_law_plain" gL (top 36) J L)(U:gc P w K mg base gf (2) J L gL (p6 K)):gc P w K mg base gf (2 * 0+4) aa ab jF (oY K 0):=by
 refine Y.F.ok D0 λvs H Q E h=>?_;obtain⟨a,b,ns,n,rfl,g,hn,q⟩:=h;refine⟨rfl,λai A outer s nd hr hu=>?_⟩;have ah:ck 0=2:=rfl;rw[ah] at hn q
 refine⟨_,(e_ (gA 3 nd (gv ag hr ac (a_ (pv 0) (a_ (pv 1) b_))))
  (e_ (gF (PW.pt (kg (gE B1 (pv 2) c_ (gC _)) (kM Jt))) (gi (gw (gv U hr I (a_ (pv 0) (a_ (pv 1) b_))))) gH) BP)),?_⟩
 ac_rfl
 refine⟨_,rfl,_,rfl,a,b,ns,n,rfl,g,by omega,λr H1 r0 r1 s1 h1=>?_⟩;refine⟨_,rfl,_,_,rfl,rfl,_,rfl,?_⟩;refine h_ (λc=>i_ ?_) (λc=>(c (by decide)).elim);refine⟨_,rfl,_,rfl,a,b,ns,n+1,rfl,g.go s1 h1 (by omega),by omega,λv k H2 s2 h2 hk hd hp hw=>?_⟩;exact q v k (n+1+1) H2 (s1.trans s2) h2 (by omega) (by omega) hk (by omega) hw
theorem KW (d:Nat)(T:Tb mg)(L:Dn K mg "_law_kind" jF (top 39) U Y)(al:Dn K mg "_law_next" gL (top 32) am an)(ao:gc P w K mg base gf (1) am an gL (my K))(ah:Dn K mg "_law_plain" gL (top 36) ai aj)(ak:gc P w K mg base gf (2) ai aj gL (p6 K))(I:Dn K mg "_law_fields" kB (top 37) af ag)(J:gc P w K mg base gf (2 * d+5) af ag kB (DS K d))(aa:Dn K mg "_law_rows_kind" kB (top 38) ab ac)(ae:gc P w K mg base gf (2 * d+5) ab ac kB (DT K d))
 (ap:gc P w K mg base gf (2 * d+4) U Y jF (oY K d)):gc P w K mg base gf (2 * (d+1)+4) U Y jF (oY K (d+1)):=by
 refine L.F.ok D0 λvs H Q E h=>?_;obtain⟨a,b,ns,n,rfl,g,hn,q⟩:=h;refine⟨rfl,λaw A outer s nd hr hu=>?_⟩
 have aq:(ck (d+1):Int)=3 * ck d+6:=by
  have:ck (d+1)=3 * ck d+6:=rfl;omega
 rw[aq] at hn
 refine⟨_,(e_ (gA 3 nd (gv ao hr al (a_ (pv 0) (a_ (pv 1) b_))))
  (e_ (gF (PW.pt (kg (gE B1 (pv 2) c_ (gC _)) (kM (gE sI (gn ir (pv 3) c_) c_ (gC _))))) (gi (gw (gv ak hr ah (a_ (pv 0) (a_ (pv 1) b_))))) gH)
  (e_ (gF (gE sI (gn ir (pv 3) c_) c_ (gC _)) (gi (gw (iP (a_ gW (a_ (gv J hr I (a_ (pv 0) (a_ (pv 1) (a_ (gn ir (gn jc (pv 3) c_) c_) (a_ (gn nq (pv 2) c_) b_))))) b_))))) gH)
  (e_ (gF (gE sI (gn ir (pv 3) c_) c_ (gC _)) (gi (gw (gv ae hr aa (a_ (pv 0) (a_ (pv 1) (a_ (gn j0 c_ (gn ir (gn jc (pv 3) c_) c_)) (a_ (gn nq (pv 2) c_) b_))))))) gH)
  (e_ (gF (gE iu (gn ir (pv 3) c_) c_ (gC _)) (gi (gw (iP (a_ gW (a_ (gv ap hr L (a_ (pv 0) (a_ (pv 1) (a_ (gn nq (pv 2) c_) b_)))) b_))))) gH)
  (gi (gw (iP (a_ gW (a_ (gv J hr I (a_ (pv 0) (a_ (pv 1) (a_ (gn j0 c_ (gn ir (gn jc (pv 3) c_) c_)) (a_ (gn nq (pv 2) c_) b_))))) b_)))))))))),?_⟩
 ac_rfl
 refine⟨_,rfl,_,rfl,a,b,ns,n,rfl,g,by omega,λr H1 r0 r1 s1 h1=>?_⟩;have g1:=g.go s1 h1 (by omega);have e2:(((d+1:Nat):Int)) - 1=(d:Int):=by omega
 have e0:(if decide ((((d+1:Nat):Int))<=0)=true then True else False)=False:=by
  rw[if_neg (by rw[decide_eq_true_iff];omega)]
 refine⟨_,rfl,_,_,rfl,rfl,_,rfl,h_ (λc=>?_) (λc=>?_)⟩
 . exact absurd (of_decide_eq_true c) (by omega)
 refine⟨_,rfl,_,_,rfl,rfl,(by show(0:Int)<_;decide),_,_,rfl,rfl,_,rfl,h_ (λc1=>?_) (λc1=>?_)⟩
 . refine⟨_,rfl,_,rfl,a,b,ns,n+1,rfl,g1,by omega,λv k H2 s2 h2 hk hd hp hw=>?_⟩;exact q v k (n+1+1) H2 (s1.trans s2) h2 (by omega) (by rw[aq];omega) hk (by omega) hw
 refine⟨_,rfl,_,_,rfl,rfl,(by show(0:Int)<_;decide),_,_,rfl,rfl,_,rfl,h_ (λc2=>?_) (λc2=>?_)⟩
 . obtain⟨m,hm⟩:∃m:Nat,r / 10 % 4=(m:Int):=⟨(r / 10 % 4).toNat,by omega⟩;refine⟨_,rfl,_,rfl,_,rfl,_,_,rfl,rfl,⟨by decide,by decide⟩,_,_,rfl,rfl,(by show(0:Int)<_;decide),_,rfl,_,_,rfl,rfl,a,b,ns,n+1,m,(by show [V.ref a,V.ref b,V.int (r / 10 % 4),V.int (((d+1:Nat):Int) - 1)]=_;rw[hm,e2]),by omega,g1,by omega,λt xs fs n' H2 s2 h2 w1 w2 ht ar au hl av hW=>?_⟩;refine⟨i3,λv hv=>?_⟩;have tu:Tu H2 (upd H2 v (.tup [.str "record",.ref t])):=λc ys h=>by rw[d_ (gz h hv)];exact h
   refine q (.ref v) (.iD fs) n' _ (s1.trans (s2.trans (SB.new hv))) (by rw[d_ (gz h2 hv)];exact h2) (by omega) (by rw[aq];omega) ?_ (by simp only[Kd.dep];omega) (by unfold Kd.W;exact⟨au,by omega,hW⟩);unfold KA;exact⟨v,t,xs,rfl,gh,tu _ _ ht,FA.mono tu fs ar⟩
 refine⟨_,rfl,_,_,rfl,rfl,(by show(0:Int)<_;decide),_,_,rfl,rfl,_,rfl,h_ (λc3=>?_) (λc3=>?_)⟩
 . obtain⟨m,hm⟩:∃m:Nat,1+r / 10 % 3=(m:Int):=⟨(1+r / 10 % 3).toNat,by omega⟩;refine⟨_,rfl,_,rfl,_,rfl,_,_,rfl,rfl,⟨by decide,by decide⟩,_,_,rfl,rfl,(by show(0:Int)<_;decide),_,_,rfl,rfl,_,rfl,_,_,rfl,rfl,a,b,ns,n+1,m,(by show [V.ref a,V.ref b,V.int (1+r / 10 % 3),V.int (((d+1:Nat):Int) - 1)]=_;rw[hm,e2]),by omega,by omega,g1,by omega,λv k n' H2 s2 h2 w1 w2 hk av hw=>?_⟩;exact q v k n' H2 (s1.trans s2) h2 (by omega) (by rw[aq];omega) hk (by omega) hw
 refine⟨_,rfl,_,_,rfl,rfl,(by show(0:Int)<_;decide),rfl,_,rfl,h_ (λc4=>?_) (λc4=>?_)⟩
 . refine⟨_,rfl,_,rfl,_,rfl,_,_,rfl,rfl,a,b,ns,n+1,(by show [V.ref a,V.ref b,V.int (((d+1:Nat):Int) - 1)]=_;rw[e2]),g1,by omega,λu k n' H2 s2 h2 w1 w2 hk av hw=>?_⟩;refine⟨i3,λv hv=>?_⟩;have tu:Tu H2 (upd H2 v (.tup [.str "tree",u])):=λc ys h=>by rw[d_ (gz h hv)];exact h
   refine q (.ref v) (.tree k) n' _ (s1.trans (s2.trans (SB.new hv))) (by rw[d_ (gz h2 hv)];exact h2) (by omega) (by rw[aq];omega) ?_ (by simp only[Kd.dep];omega) (by unfold Kd.W;exact hw);unfold KA;exact⟨v,u,rfl,gh,KA.mono tu k hk⟩
 . obtain⟨m,hm⟩:∃m:Nat,1+r / 10 % 3=(m:Int):=⟨(1+r / 10 % 3).toNat,by omega⟩;refine⟨_,rfl,_,rfl,_,rfl,_,_,rfl,rfl,⟨by decide,by decide⟩,_,_,rfl,rfl,(by show(0:Int)<_;decide),_,_,rfl,rfl,_,rfl,_,_,rfl,rfl,a,b,ns,n+1,m,(by show [V.ref a,V.ref b,V.int (1+r / 10 % 3),V.int (((d+1:Nat):Int) - 1)]=_;rw[hm,e2]),by omega,g1,by omega,λt xs fs n' H2 s2 h2 w1 w2 ht ar au hl av hW=>?_⟩;refine⟨i3,λv hv=>?_⟩;have tu:Tu H2 (upd H2 v (.tup [.str "either",.ref t])):=λc ys h=>by rw[d_ (gz h hv)];exact h
   refine q (.ref v) (.jd fs) n' _ (s1.trans (s2.trans (SB.new hv))) (by rw[d_ (gz h2 hv)];exact h2) (by omega) (by rw[aq];omega) ?_ (by simp only[Kd.dep];omega) (by unfold Kd.W;exact⟨au,by omega,by omega,hW⟩);unfold KA;exact⟨v,t,xs,rfl,gh,tu _ _ ht,FA.mono tu fs ar⟩
theorem kind_all (T:Tb mg)(L:Dn K mg "_law_kind" jF (top 39) ab ac)(I:Dn K mg "_law_next" gL (top 32) am an)(J:Dn K mg "_law_plain" gL (top 36) ai aj)(Y:Dn K mg "_law_names" mS (top 35) ak al)(aa:Dn K mg "_law_fields" kB (top 37) ag ah)(U:Dn K mg "_law_rows_kind" kB (top 38) ae af):∀d:Nat,gc P w K mg base gf (2 * d+4) ab ac jF (oY K d)
 |0=>KU T L I (t7 (rB T I)) J (v9 T J I (t7 (rB T I)))
 |d+1=>by
  have N:=t7 (rB (P:=P) (w:=w) (base:=base) T I);have Pl:=v9 T J I N;have Nm:=DX T Y I N;have ih:=kind_all T L I J Y aa U d;have Fd:=KQ d T aa Y Nm L ih;have Rw:=KS d T U Y Nm I N J Pl L ih;exact KW d T L I N J Pl aa Fd U Rw ih
theorem D8 (ns:List Int)(x:Str)(k:Kd)(room:Nat):∀(fs:Fs) (n:Int),gI ns (fs.snoc x k) room n=((gI ns fs room n).1.snoc x (val ns k room (gI ns fs room n).2).1,(val ns k room (gI ns fs room n).2).2)
 | .nil,n=>by
   show gI ns (.cons x k .nil) room n=_;simp only[gI,Ds.snoc]
 | .cons y q r,n=>by
   show gI ns (.cons y q (r.snoc x k)) room n=_;simp only[gI,Ds.snoc];rw[D8 ns x k room r]
theorem D9 (g:Int->D × Int):∀(m:Nat) (n:Int),times g (m+1) n=((times g m n).1.snoc "" (g (times g m n).2).1,(g (times g m n).2).2)
 |0,n=>by simp only[times,Ds.snoc]
 |m+1,n=>by
  have I:=D9 g m (g n).2;show(Ds.cons "" (g n).1 (times g (m+1) (g n).2).1,(times g (m+1) (g n).2).2)=_;rw[I];simp only[times,Ds.snoc]
theorem wb {g h:Int->D × Int}(e:∀n,g n=h n):∀(m:Nat) (n:Int),times g m n=times h m n
 |0,n=>rfl
 |m+1,n=>by
  simp only[times];rw[e n,wb e m]
theorem nM {ns:List Int}{f:Nat->Int->D × Int}:∀(fu room:Nat) (n:Int),room<2 ^ fu->iX ns f (fu+1) room n=iX ns f (fu+2) room n
 |0,room,n,h=>by
  have e:room=0:=by simpa using h
  subst e
  have I:(nx ns ((f (0 / 2) n).2+1) % (((0:Nat):Int)+1)).toNat=0:=by
   have:nx ns ((f (0 / 2) n).2+1) % (((0:Nat):Int)+1)=0:=by
    show _ % (1:Int)=0;exact Int.emod_one _
   rw[this];rfl
  unfold iX;rw[I];rfl
 |fu+1,room,n,h=>by
  have J:=λm=>nM (ns:=ns) (f:=f) fu (room / 2) m (by rw[Nat.pow_succ] at h;omega);show(pairD (f (room / 2) n).1 (.lst (times (iX ns f (fu+1) (room / 2)) _ _).1),(times (iX ns f (fu+1) (room / 2)) _ _).2)=(pairD (f (room / 2) n).1 (.lst (times (iX ns f (fu+2) (room / 2)) _ _).1),(times (iX ns f (fu+2) (room / 2)) _ _).2);rw[wb J]
theorem KY (ns:List Int)(k:Kd)(room:Nat)(n:Int)(h:room<8):val ns (.tree k) room n=
 (pairD (val ns k (room / 2) n).1 (.lst (times (val ns (.tree k) (room / 2)) (nx ns ((val ns k (room / 2) n).2+1) % ((room:Int)+1)).toNat ((val ns k (room / 2) n).2+1)).1),
   (times (val ns (.tree k) (room / 2)) (nx ns ((val ns k (room / 2) n).2+1) % ((room:Int)+1)).toNat ((val ns k (room / 2) n).2+1)).2):=by
 have e:∀m,val ns (.tree k) (room / 2) m=iX ns (val ns k) 3 (room / 2) m:=λm=>by
  show iX ns (val ns k) 4 (room / 2) m=_;exact(nM 2 (room / 2) m (by show _<4;omega)).symm
 rw[wb e];simp only[val,iX]
theorem wc {g:Int->Ds × Int}{key:Str}:∀(m:Nat) (I:List Ds) (n:Int),ix g key (m+1) I n=
 (if nG key (ix g key m I n).1 (keyOf (g (ix g key m I n).2).1 key)=true then((ix g key m I n).1,(g (ix g key m I n).2).2) else((ix g key m I n).1++[(g (ix g key m I n).2).1],(g (ix g key m I n).2).2))
 |0,I,n=>by
  simp only[ix]
  first
   |rfl
   |(by_cases c:nG key I (keyOf (g n).1 key)=true <;> simp[c])
 |m+1,I,n=>by
  rw[ix];split
  . rename_i c;rw[wc m I]
    conv=>rhs;rw[ix]
    simp only[c,if_true]
  . rename_i c;rw[wc m (I++[(g n).1])]
    conv=>rhs;rw[ix]
    simp only[c,if_false];rfl
noncomputable def mu:Kd->Nat->Nat
 | .rows key by_ fs,room=>(2 * (fs.dep+1)+1) * 8+room
 |k,room=>(2 * k.dep) * 8+room
theorem we (k:Kd)(room:Nat):mu k room<=(2 * k.dep+1) * 8+room:=by
 cases k <;> simp only[mu,Kd.dep] <;> omega
theorem wg {k J:Kd}{room I:Nat}(h:k.dep<J.dep)(L:room<8):mu k room<mu J I:=by
 have:=we k room
 cases J <;> simp only[mu,Kd.dep] at * <;> omega
noncomputable def gr (room:Nat):Nat:=if room=0 then 1 else if room=1 then 9 else if room<4 then 73 else 585
noncomputable def kc:Kd->Nat->Nat
 | .tree k,room=>(k.cB+1) * gr room
 |k,_=>k.cB
theorem wj (room:Nat):1<=gr room/\gr room<=585:=by
 unfold gr;by_cases I:room=0
 . rw[if_pos I];omega
 . rw[if_neg I];by_cases h1:room=1
   . rw[if_pos h1];omega
   . rw[if_neg h1];by_cases h2:room<4
     . rw[if_pos h2];omega
     . rw[if_neg h2];omega
theorem KZ (room:Nat):gr room<=585:=(wj room).2
theorem wo (k:Kd)(room:Nat):kc k room<=k.cB:=by
 cases k with
 |tree k=>exact Q3g _ (KZ room)
 |_=>exact Q00 _
theorem K0 {room:Nat}(h1:1<=room)(I:room<8):1+room * gr (room / 2)<=gr room:=by
 have h:room=1\/room=2\/room=3\/room=4\/room=5\/room=6\/room=7:=by omega
 rcases h with h|h|h|h|h|h|h <;> subst h <;> decide
theorem K1 (ns:List Int)(k:Kd)(room:Nat)(n:Int)(h:room<8):n<=(val ns (.tree k) room n).2/\(val ns (.tree k) room n).2<=n+((k.cB+1) * gr room:Nat):=by
 have I:=λ(room:Nat) (n:Int) (h:room<8)=>pU ns k room n h;have e:val ns (.tree k) room n=iX ns (val ns k) 4 room n:=by simp only[val]
 rw[e];unfold gr;by_cases J:room=0
 . rw[if_pos J,<-nM 2 room n (by omega),<-nM 1 room n (by omega),<-nM 0 room n (by omega)];exact pT (N:=k.cB) I 1 room n h
 . rw[if_neg J];by_cases h1:room=1
   . rw[if_pos h1,<-nM 2 room n (by omega),<-nM 1 room n (by omega)];exact pT (N:=k.cB) I 2 room n h
   . rw[if_neg h1];by_cases h2:room<4
     . rw[if_pos h2,<-nM 2 room n (by omega)];exact pT (N:=k.cB) I 3 room n h
     . rw[if_neg h2];exact pT (N:=k.cB) I 4 room n h
theorem D_ (ns:List Int):∀(fs:Fs) (i room:Nat) (n:Int) (x:Str) (k:Kd),fs.at i=some (x,k)->jl ns fs i room n=(pairD (.str x) (val ns k room n).1,(val ns k room n).2)
 | .nil,i,_,_,_,_,h=>by cases h
 | .cons y q r,0,room,n,x,k,h=>by
   cases h;simp only[jl]
 | .cons y q r,i+1,room,n,x,k,h=>by
   simp only[jl];exact D_ ns r i room n x k h
theorem Fs.Ea:∀{fs:Fs}{i:Nat}{x:Str}{k:Kd},fs.at i=some (x,k)->k.cB<=fs.cB
 | .nil,_,_,_,h=>by cases h
 | .cons y q r,0,x,k,h=>by
   cases h;simp only[Fs.cB];omega
 | .cons y q r,i+1,x,k,h=>by
   have:=Fs.Ea (fs:=r) (i:=i) h;simp only[Fs.cB];omega
theorem Fs.Eb:∀{fs:Fs}{i:Nat}{x:Str}{k:Kd},fs.at i=some (x,k)->(fs.take i).cB+k.cB<=fs.cB
 | .nil,_,_,_,h=>by cases h
 | .cons y q r,0,x,k,h=>by
   cases h;simp only[Fs.take,Fs.cB];omega
 | .cons y q r,i+1,x,k,h=>by
   have:=Fs.Eb (fs:=r) (i:=i) h;simp only[Fs.take,Fs.cB];omega
theorem Fs.wq:∀(fs:Fs) (i:Nat),(fs.take i).names=fs.names.take i
 | .nil,i=>by simp[Fs.take,Fs.names]
 | .cons x k r,0=>by simp[Fs.take,Fs.names]
 | .cons x k r,i+1=>by
   show x::(r.take i).names=x::r.names.take i;rw[Fs.wq r i]
theorem Fs.K2 {fs:Fs}{i:Nat}{x:Str}{k:Kd}(nd:fs.names.Nodup)(h:fs.at i=some (x,k)):x ∉ (fs.take i).names:=by
 rw[Fs.wq];intro I;obtain⟨j,J,e⟩:=Q10 I;have L:fs.names[i]? =some x:=by rw[Fs.mr,h];rfl
 obtain⟨hi,U⟩:=List.getElem?_eq_some_iff.mp L;rw[Q0l] at J;rw[Q2l] at e;have:=(Q1k nd).mp (e.trans U.symm);omega
theorem t_ (ns:List Int)(room:Nat):∀(fs:Fs) (n:Int),(gI ns fs room n).1.names=fs.names
 | .nil,n=>by simp[gI,Ds.names,Fs.names]
 | .cons x k r,n=>by
   simp only[gI,Ds.names,Fs.names];rw[t_ ns room r]
theorem gj.key {H:Hp}{kvs:List (Key × V)}{m:Ds}{L:List Addr}{fs:Fs}{x:Str}(h:gj H kvs m L)(f:gU fs m)(hp:fs.pl x):iw kvs (Sum.inr x)=some (kV (keyOf m x)):=by
 rcases(f.plain hp).2 with⟨z,I,J,_⟩|⟨s,I,J,_⟩
 . obtain⟨v,g,h1,h2,_⟩:=gj.val m h I;unfold Own at h2;rw[h1,J,h2.1];rfl
 . obtain⟨v,g,h1,h2,_⟩:=gj.val m h I;unfold Own at h2;rw[h1,J,h2.1];rfl
def lz (fs:Fs) (m:Ds):Prop:=∀x k,fs.get x=some k->∃e,m.get x=some e/\ia k e
def nN (fs:Fs) (m:Ds):Prop:=m.names.length=fs.names.length/\lz fs m
theorem gU.p {fs:Fs}{m:Ds}(f:gU fs m):lz fs m:=λ_ _ h=>f.get h
theorem gU.u {fs:Fs}{m:Ds}(f:gU fs m):nN fs m:=⟨by rw[f.names],f.p⟩
theorem lz.plain {fs:Fs}{m:Ds}{x:Str}(f:lz fs m)(h:fs.pl x):(∃z,m.get x=some (.int z)/\keyOf m x=.inl z/\fs.get x=some .num)\/∃s,m.get x=some (.str s)/\keyOf m x=.inr s/\fs.get x=some .iz:=by
 obtain⟨k,h1,h2⟩:=h;obtain⟨d,I,J⟩:=f _ _ h1
 cases k with
 |num=>
  unfold ia at J;obtain⟨z,rfl⟩:=J;exact .inl ⟨z,I,by unfold keyOf;rw[I],h1⟩
 |iz=>
  unfold ia at J;obtain⟨s,rfl⟩:=J;exact .inr ⟨s,I,by unfold keyOf;rw[I],h1⟩
 |_=>exact h2.elim
theorem lz.tag {fs:Fs}{m:Ds}{x:Str}(f:lz fs m)(h:fs.pl x):iK (keyOf m x)=kz (fs.get x):=by
 rcases f.plain h with⟨z,_,e,g⟩|⟨s,_,e,g⟩ <;> rw[e,g] <;> rfl
theorem wu {fs:Fs}{key by_:Str}{m:Ds}(f:lz fs m)(h1:fs.pl key)(h2:by_=""\/fs.pl by_):(rankOf key by_ m).map iK=if by_="" then [kz (fs.get key)] else [kz (fs.get by_),kz (fs.get key)]:=by
 unfold rankOf;split
 . show [iK (keyOf m key)]=_;rw[f.tag h1]
 . rename_i e;show [iK (keyOf m by_),iK (keyOf m key)]=_;rw[f.tag h1,f.tag (h2.resolve_left e)]
theorem gj.nO {H:Hp}{kvs:List (Key × V)}{m:Ds}{L:List Addr}{fs:Fs}{x:Str}(h:gj H kvs m L)(f:lz fs m)(hp:fs.pl x):iw kvs (Sum.inr x)=some (kV (keyOf m x)):=by
 rcases f.plain hp with⟨z,I,J,_⟩|⟨s,I,J,_⟩
 . obtain⟨v,g,h1,h2,_⟩:=gj.val m h I;unfold Own at h2;rw[h1,J,h2.1];rfl
 . obtain⟨v,g,h1,h2,_⟩:=gj.val m h I;unfold Own at h2;rw[h1,J,h2.1];rfl
theorem ua {H:Hp}{x:V}{m:Ds}{f:List Addr}{fs:Fs}{key:Str}(L:Own H x (.dct m) f)(hF:lz fs m)(U:fs.pl key):∃I,x=.ref I/\∀H',Same H H'->il H' I (.str key) (some (kV (keyOf m key))):=by
 unfold Own at L;obtain⟨I,kvs,fq,rfl,J,_,Y⟩:=L;refine⟨I,rfl,λH' s=>?_⟩;have:=il.k (k:=Sum.inr key) (s _ _ J);rw[Y.nO hF U] at this;exact this
def mW (k:Kd) (d:D):Prop:=match k with
 | .iD fs=>∃m,d=.dct m/\nN fs m
 | .rows key by_ fs=>∃I:List Ds,d=.lst (ic I)/\(∀m∈I,nN fs m)/\I.Pairwise (kr key by_)/\(I.map λm=>keyOf m key).Nodup
 |k=>ia k d
theorem mW.of {k:Kd}{d:D}(h:ia k d):mW k d:=by
 cases k with
 |iD fs=>
  unfold ia at h;obtain⟨m,e,hF⟩:=h;exact⟨m,e,hF.u⟩
 |rows key by_ fs=>
  unfold ia at h;obtain⟨I,e,hF,h1,h2⟩:=h;exact⟨I,e,λm J=>(hF m J).u,h1,h2⟩
 |_=>exact h
abbrev gP (b P:Addr):Hp->Hp->Prop:=Kp (λc=>c=b\/c=P)
theorem _root_.L2.gy.tab {P:Addr}{I:Pos}{J:Str}{H:Hp}(h:gy P I J H):∃ps,H P=some (.iJ ps):=by
 rcases h with e|⟨c,e,_⟩ <;> exact⟨_,e⟩
theorem _root_.L2.gy.keep {P:Addr}{I:Pos}{J:Str}{H H':Hp}(h:gy P I J H)(k:∀c o,(∀xs,o≠ .lst xs)->H c=some o->H' c=some o):gy P I J H':=by
 rcases h with e|⟨c,e,f⟩
 . exact .inl (k _ _ (by intro xs z;cases z) e)
 . exact .inr ⟨c,k _ _ (by intro xs z;cases z) e,k _ _ (by intro xs z;cases z) f⟩
theorem _root_.L2.gy.same {P:Addr}{I:Pos}{J:Str}{H H':Hp}(h:gy P I J H)(s:Same H H'):gy P I J H':=h.keep λc o _ e=>s c o e
theorem _root_.L2.gy.sb {P b:Addr}{I:Pos}{J:Str}{H H':Hp}{l:List V}(h:gy P I J H)(L:H b=some (.lst l))(s:SB b H H'):gy P I J H':=
 h.keep λc o U e=>s c o (gR e L (U l)) e
theorem _root_.L2.gy.wr {P p:Addr}{J:Pos}{L:Str}{H:Hp}{o:HO}(h:gy P J L H)(hp:Mu H p):gy P J L (upd H p o):=by
 have key:∀c u,(∀xs,u≠ .lst xs)->(∀I,u≠ .dK I)->H c=some u->upd H p o c=some u:=λc u h1 h2 e=>by
  rw[d_];· exact e
  intro z;subst z;rcases hp with⟨xs,q⟩|⟨I,q⟩
  . rw[e] at q;exact h1 xs (Option.some.inj q)
  . rw[e] at q;exact h2 I (Option.some.inj q)
 rcases h with e|⟨c,e,f⟩
 . exact .inl (key _ _ (by intro xs z;cases z) (by intro xs z;cases z) e)
 . exact .inr ⟨c,key _ _ (by intro xs z;cases z) (by intro xs z;cases z) e,key _ _ (by intro xs z;cases z) (by intro xs z;cases z) f⟩
theorem SB.gX {b P:Addr}{H H':Hp}(s:SB b H H'):gP b P H H':=λc o n e=>s c o (λz=>n (.inl z)) e
theorem gP.at {b P c:Addr}{H H':Hp}{n:Int}{I:Pos}{J:Str}{o:HO}(x:gP b P H H')(L:H b=some (.lst [.int n]))(hT:gy P I J H)(h1:o≠ .lst [.int n])(h2:∀ps,o≠ .iJ ps)(e:H c=some o):H' c=some o:=by
 obtain⟨ps,U⟩:=hT.tab;refine x c o (λz=>?_) e;rcases z with z|z
 . exact gR e L h1 z
 . exact gR e U (h2 ps) z
theorem gP.tu {b P:Addr}{H H':Hp}{n:Int}{I:Pos}{J:Str}(x:gP b P H H')(L:H b=some (.lst [.int n]))(hT:gy P I J H):Tu H H':=λa xs e=>x.at L hT (by intro z;cases z) (by intro ps z;cases z) e
theorem gP.g0 {K:W.Frag}{a b P:Addr}{H H':Hp}{ns:List Int}{n n':Int}{I:Pos}{J:Str}(x:gP b P H H')(g:G0 K H a b ns n)(hT:gy P I J H)(h:H' b=some (.lst [.int n']))(L:n<=n'):G0 K H' a b ns n':=by
 refine⟨?_,g.len,h,by have:=g.pos;omega⟩;rcases g.kY with⟨o,e⟩|e
 . exact .inl ⟨o,x.at g.at_ hT (by intro z;cases z) (by intro ps z;cases z) e⟩
 . exact .inr e
theorem Own.gX {b P:Addr}{H₀ H H':Hp}{v:V}{d:D}{I:List Addr}{n:Int}{L:Pos}{U:Str}(h:Own H v d I)(x:gP b P H H')(Y:H b=some (.lst [.int n]))(hT:gy P L U H)(J:∃o,H₀ b=some o)(fr:∀c∈I,H₀ c=none):Own H' v d I:=by
 refine h.keep (x.tu Y hT) d λc hc o e=>x c o (λz=>?_) e;rcases z with z|z
 . obtain⟨o',e'⟩:=J;have:=fr c hc;rw[z,e'] at this;cases this
 . obtain⟨ps,hP⟩:=hT.tab;rcases Own.alive d h c hc with⟨xs,q⟩|⟨xs,q⟩ <;> rw[z,hP] at q <;> cases q
def nQ:Sp:=λvs H Q _=>∃p r b key by_ fs kvs m I,vs=[.ref p,.ref r]/\H p=some (.tup [.str "rows",.str key,.str by_,.ref b])/\H r=some (.dK kvs)/\gj H kvs m I/\lz fs m/\fs.pl key/\(by_=""\/fs.pl by_)/\
 ∀q,H q=none->Q (.ref q) (upd H q (.tup ((rankOf key by_ m).map kV)))
noncomputable def ub (st:Stmt):Pos:=match(iI st).getLast? with
 |some (.Return (some (.Call _ _ [⟨_,.Lambda _ _ _ I,_⟩] _)) _)=>I
 |_=>⟨0,0,0,0⟩
noncomputable abbrev jm:Pos:=ub (top 41)
noncomputable abbrev jn:Str:=("_law_rows":Str)++".<locals>."++"<lambda>"
def oZ (K:W.Frag) (P:Addr) (N:Nat):Sp:=λvs H Q _=>∃a b ns n J k,∃room:Nat,vs=[.ref a,.ref b,J,.int room]/\G0 K H a b ns n/\gy P jm jn H/\KA H J k/\k.W/\room<8/\mu k room<=N/\n+kc k room<=1000000000000/\
 ∀(v:V) (H':Hp) (I:List Addr),gP b P H H'->H' b=some (.lst [.int (val ns k room n).2])->gy P jm jn H'->Own H' v (val ns k room n).1 I->I.Nodup->(∀c∈I,H c=none)->Q v H'
def Ec (K:W.Frag) (P:Addr) (N:Nat):Sp:=λvs H Q _=>∃a b ns n J key by_ fs,∃room:Nat,vs=[.ref a,.ref b,J,.int room]/\G0 K H a b ns n/\gy P jm jn H/\KA H J (.rows key by_ fs)/\(Kd.rows key by_ fs).W/\room<8/\mu (.rows key by_ fs) room<=N+1/\n+(Kd.rows key by_ fs).cB<=1000000000000/\
 ∀(v:V) (H':Hp) (I:List Addr),gP b P H H'->H' b=some (.lst [.int (val ns (.rows key by_ fs) room n).2])->gy P jm jn H'->Own H' v (val ns (.rows key by_ fs) room n).1 I->I.Nodup->(∀c∈I,H c=none)->Q v H'
theorem K3:gQ Xa Xa (gp (top 40)):=g_
theorem Ed (T:Tb mg)(I:Dn K mg "_law_rank" mT (top 40) J L):gc P w K mg base gf (1) J L mT (nQ):=by
 refine I.F.ok K3 λvs H Q E h=>?_;obtain⟨p,r,b,key,by_,fs,kvs,m,fp,rfl,hp,hR,hO,hF,hk,Y,q⟩:=h;refine⟨rfl,λab A outer s nd hr U=>?_⟩
 refine⟨_,(e_ (gF (gE iu (gq (pv 0) c_) gW (gC _)) (gi (gw (iP (a_ (i6 U (pv 1) (gq (pv 0) c_) (λ_ _=>rfl)) b_)))) gH)
  (gi (gw (iP (a_ (i6 U (pv 1) (gq (pv 0) c_) (λ_ _=>rfl)) (a_ (i6 U (pv 1) (gq (pv 0) c_) (λ_ _=>rfl)) b_)))))),?_⟩
 ac_rfl
 have gk:il H r (.str key) (some (kV (keyOf m key))):=by have:=il.k (k:=Sum.inr key) hR;rw[hO.nO hF hk] at this;exact this
 refine⟨_,rfl,p,_,_,_,rfl,rfl,f9.of hp,rfl,rfl,_,rfl,h_ (λc=>?_) (λc=>?_)⟩
 . have c':by_="":=by
    have:=of_decide_eq_true c;injection this
   refine⟨_,rfl,_,rfl,p,_,_,_,rfl,rfl,f9.of hp,rfl,r,_,rfl,gk,jR,λt ht=>?_⟩;have:=q t ht;unfold rankOf at this;rw[if_pos c'] at this;exact this
 . have c':¬by_="":=λz=>c (decide_eq_true (show V.str by_=V.str "" by rw[z]));have aa:fs.pl by_:=Y.resolve_left c';have gb:il H r (.str by_) (some (kV (keyOf m by_))):=by have:=il.k (k:=Sum.inr by_) hR;rw[hO.nO hF aa] at this;exact this
   refine⟨_,rfl,_,rfl,p,_,_,_,rfl,rfl,f9.of hp,rfl,r,_,rfl,gb,_,rfl,_,rfl,p,_,_,_,rfl,rfl,f9.of hp,rfl,r,_,rfl,gk,i3,λt ht=>?_⟩;have:=q t ht;unfold rankOf at this;rw[if_neg c'] at this;exact this
theorem K4:gQ ["kind","row","key","by"] ["kind","row"] (gp (top 18)):=g_
theorem Ee (T:Tb mg)(I:Dn K mg "rank" oW (top 18) J L):gc P w K mg base gf (1) J L oW (nQ):=by
 refine I.F.ok K4 λvs H Q E h=>?_;obtain⟨p,r,b,key,by_,fs,kvs,m,fp,rfl,hp,hR,hO,hF,hk,Y,q⟩:=h;refine⟨rfl,λab A outer s nd hr U=>?_⟩
 refine⟨_,(e_ (gA 2 nd (gq (pv 0) c_))
  (e_ (gA 3 nd (gq (pv 0) c_))
  (e_ (gF (gE iu (pv 3) gW (gC _)) (gi (gw (iP (a_ (i6 U (pv 1) (pv 2) (λ_ _=>rfl)) b_)))) gH)
  (gi (gw (iP (a_ (i6 U (pv 1) (pv 3) (λ_ _=>rfl)) (a_ (i6 U (pv 1) (pv 2) (λ_ _=>rfl)) b_)))))))),?_⟩
 ac_rfl
 have gk:il H r (.str key) (some (kV (keyOf m key))):=by have:=il.k (k:=Sum.inr key) hR;rw[hO.nO hF hk] at this;exact this
 refine⟨_,rfl,p,_,_,_,rfl,rfl,f9.of hp,rfl,?_⟩;refine⟨_,rfl,p,_,_,_,rfl,rfl,f9.of hp,rfl,?_⟩;refine⟨_,rfl,rfl,_,rfl,h_ (λc=>?_) (λc=>?_)⟩
 . have c':by_="":=by
    have:=of_decide_eq_true c;injection this
   refine⟨_,rfl,_,rfl,r,_,rfl,gk,jR,λt ht=>?_⟩;have:=q t ht;unfold rankOf at this;rw[if_pos c'] at this;exact this
 . have c':¬by_="":=λz=>c (decide_eq_true (show V.str by_=V.str "" by rw[z]));have aa:fs.pl by_:=Y.resolve_left c';have gb:il H r (.str by_) (some (kV (keyOf m by_))):=by have:=il.k (k:=Sum.inr by_) hR;rw[hO.nO hF aa] at this;exact this
   refine⟨_,rfl,_,rfl,r,_,rfl,gb,_,rfl,_,rfl,r,_,rfl,gk,i3,λt ht=>?_⟩;have:=q t ht;unfold rankOf at this;rw[if_neg c'] at this;exact this
noncomputable def σV (a b pk:Addr) (room:Nat) (I ps:Addr) (x y:Option V):St:=[some (.ref a),some (.ref b),some (.ref pk),some (.int room),some (.ref I),some (.ref ps),x,y]
theorem wx {α I:Type}{F:α->I->Prop}{a:α}{b:I}:∀{as:List α}{bs:List I},Paired F as bs->F a b->Paired F (as++[a]) (bs++[b])
 |_,_,.nil,h=>.cons h .nil
 |_,_,.cons x r,h=>.cons x (wx r h)
theorem Ef {J:List (Key × V)}{I:List Ds}{key:Str}(h:J.map (·.1)=I.map λr=>keyOf r key)(k:Key):(iw J k).isSome=nG key I k:=by
 rw[<-qP];unfold nG;have e:∀(l:List Ds),(l.any λr=>decide (keyOf r key=k))=((l.map λr=>keyOf r key).any λx=>decide (x=k)):=λl=>by rw[Q22];rfl
 rw[e,<-h,Q22];rfl
theorem gu.gX {b P:Addr}{H₀ H H':Hp}{n:Int}{lp:Pos}{ql:Str}(x:gP b P H H')(L:H b=some (.lst [.int n]))(hT:gy P lp ql H)(I:∃o,H₀ b=some o):
 ∀{vs:List V} {U:List Ds} {J:List (List Addr)},gu H vs U J->(∀c∈J.flatten,H₀ c=none)->gu H' vs U J
 |_,_,_,.nil,_=>.nil
 |_,_,_,.cons h r,Y=>.cons (h.gX x L hT I λc hc=>Y c (Q0t _ hc)) (gu.gX x L hT I r λc hc=>Y c (Q08 _ hc))
theorem gu.keep {H H':Hp}(t:Tu H H'):∀{vs:List V}{J:List Ds}{I:List (List Addr)},gu H vs J I->(∀c∈I.flatten,∀o,H c=some o->H' c=some o)->gu H' vs J I
 |_,_,_,.nil,_=>.nil
 |_,_,_,.cons h r,k=>.cons (h.keep t _ λc hc=>k c (Q0t _ hc)) (gu.keep t r λc hc=>k c (Q08 _ hc))
theorem gu.mu {H:Hp}{vs:List V}{J:List Ds}{I:List (List Addr)}(h:gu H vs J I):∀c∈I.flatten,Mu H c:=gD.alive _ h.own
theorem Eg:gQ XW XI (gp (top 41)):=g_
theorem K5 {Pt c:Addr}(N:Nat)(T:Tb mg)(ah:Dn K mg "_law_rows" jB (top 41) ai U)(bd:U.code=.ref c)(bC:W.CodeHd base c Pt)(bD:BM mg base)(aj:Dn K mg "_law_next" gL (top 32) ak al)(am:gc P w K mg base gf (1) ak al gL (nL K))(J:Dn K mg "_law_rank" mT (top 40) an ao)(ap:gc P w K mg base gf (1) an ao mT (nQ))(ab:Dn K mg "_law_value" jB (top 42) ac ae)(af:gc P w K mg base gf (2 * N+5) ac ae jB (oZ K Pt N)):
 gc P w K mg base gf (2 * N+6) ai U jB (Ec K Pt N):=by
 refine ah.F.oR bd Eg (λvs H Q E h=>?_) (λA outer s H vs Q E hr h=>?_)
 . obtain⟨a,b,ns,n,kv,key,by_,fs,room,rfl,_⟩:=h;rfl
 obtain⟨a,b,ns,n,kv,key,by_,fs,room,rfl,g,hT,hk,hW,b5,bE,hn,q⟩:=h;have nd:=Eg.nd;have hu:=qU hr;unfold KA at hk;obtain⟨pk,pb,xs,rfl,a1,bF,bG⟩:=hk;have b6:=hW;unfold Kd.W at hW;obtain⟨bH,bI,a2,aE,bg⟩:=hW
 refine⟨_,(e_ (gA 4 nd (iV b_))
  (e_ (gA 5 nd pJ)
  (e_ (jk PassesOwn.never rfl (oA rfl T.nI (a_ (gn ir (gv am hr aj (a_ (pv 0) (a_ (pv 1) b_))) (gn j0 (pv 3) c_)) b_)) (gY (i:=6) nd rfl iG) (e_ (gA 7 nd (gv af hr ab (a_ (pv 0) (a_ (pv 1) (a_ (iP (a_ gW (a_ (gq (pv 2) c_) b_))) (a_ (gn jc (pv 3) c_) b_))))))
  (gi (gF (r8 (Cq hu (i6 hu (pv 7) (gq (pv 2) c_) (λ_ _=>rfl)) (pv 5)) (by with_unfolding_all rfl)) (e_ (mJ hu (pv 5) (i6 hu (pv 7) (gq (pv 2) c_) (λ_ _=>rfl)) jz rfl)
  (gi (kh (lg PySem.F.plainAttrs_list PySem.F.slot_list_append PySem.F.type_list_append mi (pv 4) (a_ (pv 7) b_))))) gH))))
  (gi (gw (sX (x:="_law_row") (N':=["","","_law_kind_here","","","","",""]) rfl T.mw boot_sorted hr rfl rfl bC bD (kU.of (N:=XW) (sc:=gp (top 41)) rfl rfl rfl rfl rfl (by decide +kernel)) rfl (λ_ _ _ _ _=>rfl) (pv 4) (λ_ _ _ _ _=>(qL ap (ig.deeper (k:=1) (ig.in1 (k:=2) (ig.in1 (k:=3) (hr.mono (by omega)))) _) rfl J.m J.F.kp J.b .nil lh (a_ (pv 3) (a_ (pv 0) b_)))))))))),?_⟩
 ac_rfl
 have bJ:(Kd.rows key by_ fs).cB=8 * fs.cB+1:=rfl;rw[bJ] at hn;have hb:=g.at_;obtain⟨b7,hP⟩:=hT.tab;refine⟨mR,λpr aP=>?_⟩;intro ps ay
 have aH:H ps=none:=by
  by_cases e:ps=pr
  . rw[e,gh] at ay;cases ay
  . rwa [d_ e] at ay
 have a3:ps≠pr:=λe=>by rw[e,gh] at ay;cases ay
 have s0:Same H (upd (upd H pr (.lst [])) ps (.dK [])):=(Same.new aP).trans (Same.new ay);have hT0:=hT.same s0;have g0:G0 K (upd (upd H pr (.lst [])) ps (.dK [])) a b ns n:=⟨(SB.of s0).kY hb g.kY,g.len,s0 _ _ hb,g.pos⟩;refine⟨_,rfl,_,rfl,a,b,ns,n,rfl,g0,by omega,λH1 s1 h1=>?_⟩;refine⟨_,rfl,_,_,rfl,rfl,_,_,rfl,rfl,by omega,?_⟩;have b8:=Q0m (nx ns (n+1)) (show((room:Int)+1)≠0 by omega);have b9:=Q0n (nx ns (n+1)) (show(0:Int)<(room:Int)+1 by omega);have a4:b≠pr:=gz hb aP;have a5:b≠ps:=gz hb aH;have k9:Pt≠pr:=gz hP aP;have bK:Pt≠ps:=gz hP aH;have bL:H1 pr=some (.lst []):=s1 pr _ (Ne.symm a4) (by rw[d_ (Ne.symm a3)];exact gh);have bM:H1 ps=some (.dK []):=s1 ps _ (Ne.symm a5) gh;have bN:gy Pt jm jn H1:=hT0.sb (s0 _ _ hb) s1;have k1:gP b Pt H H1:=λc o nc e=>s1 c o (λz=>nc (.inl z)) (s0 c o e);have cnt:=λm=>pV ns fs (room / 2) m (by omega)
 refine⟨_,rfl,by omega,by omega,nj (n:=Int.toNat (nx ns (n+1) % ((room:Int)+1))) (λi σ H'=>∃x y vs fl sk,σ=σV a b pk room pr ps x y/\gP b Pt H H'/\H' b=some (.lst [.int (ix (gI ns fs (room / 2)) key i [] (n+1)).2])/\gy Pt jm jn H'/\
  H' pr=some (.lst vs)/\H' ps=some (.dK sk)/\gu H' vs (ix (gI ns fs (room / 2)) key i [] (n+1)).1 fl/\fl.flatten.Nodup/\(∀c∈fl.flatten,H c=none/\c≠pr/\c≠ps)/\sk.map (·.1)=((ix (gI ns fs (room / 2)) key i [] (n+1)).1.map λr=>keyOf r key)/\vs.length<=i) ?_ ?_ ?_⟩
 . exact⟨_,_,[],[],[],rfl,k1,h1,bN,bL,bM,.nil,Q0o,λc hc=>absurd hc (by simp),rfl,Q00 _⟩
 . intro i σ H' hi zq;obtain⟨x,y,vs,fl,sk,rfl,kp,aB,az,aQ,a6,Y,aT,ar,aC,bO⟩:=zq;have ca:i<8:=by omega
   obtain⟨c1,c2⟩:=tE (key:=key) cnt i [] (n+1);have c3:i * fs.cB<=7 * fs.cB:=Q18 _ (by omega);have aD:Tu H H':=kp.tu hb hT;refine⟨_,rfl,_,rfl,_,rfl,pk,_,_,_,rfl,rfl,f9.of (aD _ _ a1),rfl,i3,λt ht=>?_⟩;have st:Same H' (upd H' t (.tup [.str "record",.ref pb])):=Same.new ht;have e2:((room / 2:Nat):Int)=(room:Int) / 2:=by omega
   have bP:KA (upd H' t (.tup [.str "record",.ref pb])) (.ref t) (.iD fs):=by
    unfold KA;exact⟨t,pb,xs,rfl,gh,st _ _ (aD _ _ bF),FA.mono (aD.trans (Tu.of st)) fs bG⟩
   have cb:=g.pos;refine⟨_,rfl,_,_,rfl,rfl,⟨by decide,by decide⟩,a,b,ns,(ix (gI ns fs (room / 2)) key i [] (n+1)).2,.ref t,.iD fs,room / 2,(by rw[e2];rfl),gP.g0 (kp.trans (Kp.of st)) g hT (st _ _ aB) (by omega),az.same st,bP,(by unfold Kd.W;exact⟨bH,bI,a2⟩),by omega,(by simp only[mu,Kd.dep] at bE ⊢;omega),(by simp only[kc,Kd.cB];omega),?_⟩;intro v H2 fp gX aA bh av bv aX;have ev:val ns (.iD fs) (room / 2) (ix (gI ns fs (room / 2)) key i [] (n+1)).2=(.dct (gI ns fs (room / 2) (ix (gI ns fs (room / 2)) key i [] (n+1)).2).1,(gI ns fs (room / 2) (ix (gI ns fs (room / 2)) key i [] (n+1)).2).2):=by simp only[val]
   rw[ev] at aA av;have bw:=oU ns fs a2 (room / 2) (ix (gI ns fs (room / 2)) key i [] (n+1)).2 (by omega);have succ:=wc (g:=gI ns fs (room / 2)) (key:=key) i [] (n+1);generalize ix (gI ns fs (room / 2)) key (i+1) [] (n+1)=cd at succ ⊢;generalize ix (gI ns fs (room / 2)) key i [] (n+1)=I at *;generalize gI ns fs (room / 2) I.2=aa at *;have aq:gP b Pt H' H2:=(Kp.of st).trans gX;have bQ:∃o,H b=some o:=⟨_,hb⟩;have bi:H2 pr=some (.lst vs):=aq pr _ (λz=>z.elim (Ne.symm a4) (Ne.symm k9)) aQ;have aU:H2 ps=some (.dK sk):=aq ps _ (λz=>z.elim (Ne.symm a5) (Ne.symm bK)) a6;have L:gu H2 vs I.1 fl:=gu.gX aq aB az bQ Y λc hc=>(ar c hc).1;have be:=av;unfold Own at av;obtain⟨rr,kvs,fq,rfl,a7,ce,a8⟩:=av;have aw:H2 pk=some (.tup [.str "rows",.str key,.str by_,.ref pb]):=gP.at (kp.trans aq) hb hT (by intro z;cases z) (by intro ps z;cases z) a1;have gk:il H2 rr (.str key) (some (kV (keyOf aa.1 key))):=by have:=il.k (k:=Sum.inr key) a7;rw[a8.key bw aE] at this;exact this
   have gs:il H2 ps (kV (keyOf aa.1 key)) (iw sk (keyOf aa.1 key)):=il.k aU;have sv:=Ef aC (keyOf aa.1 key);have aK:gP b Pt H H2:=kp.trans aq;refine⟨_,rfl,_,rfl,pk,_,_,_,rfl,rfl,f9.of aw,rfl,rr,_,rfl,gk,_,rfl,ps,_,rfl,gs,_,rfl,?_⟩
   cases ec:nG key I.1 (keyOf aa.1 key) with
   |true=>
    rw[ec] at sv;rw[ec,if_pos rfl] at succ;rw[sv];subst succ;exact h9 ⟨_,_,vs,fl,sk,rfl,aK,aA,bh,bi,aU,L,aT,ar,aC,by omega⟩
   |false=>
    rw[ec] at sv;rw[ec,if_neg (by simp)] at succ;rw[sv];subst succ;refine i_ ?_
    have bR:iw sk (keyOf aa.1 key)=none:=by
     cases z:iw sk (keyOf aa.1 key) with
     |none=>rfl
     |some o=>rw[z] at sv;cases sv
    have bx:sk.length<sizeLine:=by
     have e1:sk.length=(I.1.map λr=>keyOf r key).length:=by rw[<-aC,Q0]
     rw[Q0] at e1;have cf:=(A3.len L).1;exact iF (by omega)
    refine⟨_,rfl,_,rfl,_,rfl,pk,_,_,_,rfl,rfl,f9.of aw,rfl,rr,_,rfl,gk,ps,_,rfl,km.k aU bx,?_⟩;rw[nH bR];have bj:Mu H2 ps:=.inr ⟨_,aU⟩;have bS:Tu H2 (upd H2 ps (.dK (sk++[(keyOf aa.1 key,.bl true)]))):=Tu.wr λys z=>bj.vT ys z;have a9:upd H2 ps (.dK (sk++[(keyOf aa.1 key,.bl true)])) pr=some (.lst vs):=by rw[d_ (Ne.symm a3)];exact bi
    refine⟨_,rfl,.inl ⟨rfl,_,f_.of a9⟩,_,rfl,pr,_,_,rfl,rfl,a9,iF (by omega),?_⟩;have bm:Mu (upd H2 ps (.dK (sk++[(keyOf aa.1 key,.bl true)]))) pr:=.inl ⟨_,a9⟩;have bn:Tu H2 (upd (upd H2 ps (.dK (sk++[(keyOf aa.1 key,.bl true)]))) pr (.lst (vs++[.ref rr]))):=bS.trans (Tu.wr λys z=>bm.vT ys z)
    have aJ:∀c∈fp,H c=none/\c≠pr/\c≠ps:=λc hc=>by
     have z:=aX c hc;have z':H' c=none:=st.free z;have nb:c≠b:=λe=>by rw[e,aB] at z';cases z'
     obtain⟨bo,ba⟩:=az.tab;have nP:c≠Pt:=λe=>by rw[e,ba] at z';cases z'
     refine⟨kp.rh (λe=>e.elim nb nP) z',λe=>?_,λe=>?_⟩
     . rw[e,aQ] at z';cases z'
     . rw[e,a6] at z';cases z'
    have ag:∀c,c≠pr->c≠ps->upd (upd H2 ps (.dK (sk++[(keyOf aa.1 key,.bl true)]))) pr (.lst (vs++[.ref rr])) c=H2 c:=λc n1 n2=>by rw[d_ n1,d_ n2]
    refine⟨_,_,vs++[.ref rr],fl++[fp],_,rfl,λc o nc e=>?_,by rw[ag b a4 a5];exact aA,(bh.wr bj).wr bm,gh,by rw[d_ a3];exact gh,?_,?_,?_,?_,by rw[Q09];show vs.length+1<=i+1;omega⟩
    . rw[ag c (gz e aP) (gz e aH)];exact aK c o nc e
    . refine A3.snoc ?_ (gu.keep bn L λc hc o e=>by rw[ag c (ar c hc).2.1 (ar c hc).2.2];exact e);exact be.keep bn _ λc hc o e=>by rw[ag c (aJ c hc).2.1 (aJ c hc).2.2];exact e
    . rw[Q14];refine List.nodup_append.mpr ⟨aT,by simpa using bv,λc hc d hd=>?_⟩;have bT:d∈fp:=by simpa using hd
      intro e;subst e;obtain⟨o,eo⟩:=(gu.mu Y c hc).ex;have:=st.free (aX c bT);rw[eo] at this;cases this
    . intro c hc;rw[Q14] at hc;rcases List.mem_append.mp hc with z|z
      . exact ar c z
      . exact aJ c (by simpa using z)
    . rw[Q0b,Q0b,aC];rfl
 . intro σ H' zq;obtain⟨x,y,vs,fl,sk,rfl,kp,aB,az,aQ,a6,Y,aT,ar,aC,bO⟩:=zq;have bU:val ns (.rows key by_ fs) room n=(.lst (ic (iL key by_ (ix (gI ns fs (room / 2)) key (nx ns (n+1) % ((room:Int)+1)).toNat [] (n+1)).1)),(ix (gI ns fs (room / 2)) key (nx ns (n+1) % ((room:Int)+1)).toNat [] (n+1)).2):=by simp only[val]
   rw[bU] at q;have aL:∀m∈(ix (gI ns fs (room / 2)) key (nx ns (n+1) % ((room:Int)+1)).toNat [] (n+1)).1,gU fs m:=pR (R:=gU fs) (λn=>oU ns fs a2 (room / 2) n (by omega)) _ _ _ (λr hr=>absurd hr (by simp));have bV:=tw (g:=gI ns fs (room / 2)) (key:=key) (nx ns (n+1) % ((room:Int)+1)).toNat [] (n+1) Q0o;generalize ix (gI ns fs (room / 2)) key (nx ns (n+1) % ((room:Int)+1)).toNat [] (n+1)=I at *;obtain⟨aY,bz⟩:=A3.len Y;refine⟨_,rfl,pr,vs,rfl,f_.of aQ,by omega,az,λc' H2 bb mono=>?_⟩;have aD:Tu H H':=kp.tu hb hT
   have np:∀cc o,(∀ps,o≠ .iJ ps)->H' cc=some o->H2 cc=some o:=λcc o ho e=>by
    obtain⟨bo,ba⟩:=az.tab;exact mono cc o (gR e ba (ho bo)) e
   have bp:Tu H' H2:=λcc ys e=>np cc _ (by intro ps z;cases z) e
   have L:gu H2 vs I.1 fl:=gu.keep bp Y λcc hc o e=>np cc o (by
    intro ps z;rcases gu.mu Y cc hc with⟨_,q⟩|⟨_,q⟩ <;> rw[e] at q <;> rw[z] at q <;> cases q) e
   have aw:H2 pk=some (.tup [.str "rows",.str key,.str by_,.ref pb]):=bp _ _ (aD _ _ a1);refine⟨λks H3=>Same H2 H3/\ks.length<=vs.length/\oP H3 ks ((I.1.map (rankOf key by_)).take ks.length),⟨Same.refl _,Q0g _,.nil⟩,λks H3 hw=>bb.mono λcc o _ e=>hw.1 _ _ e,?_,?_⟩
   . rintro ks H3 yv ⟨s3,bW,aV⟩ hy;have bq:ks.length<vs.length:=(List.getElem?_eq_some_iff.mp hy).1;have aZ:=A3.at (a0:=V.non) (b0:=Ds.nil) (c0:=[]) L ks.length bq;have ey:vs.getD ks.length .non=yv:=by rw[Q05,hy];rfl
     rw[ey] at aZ
     have bA:I.1.getD ks.length .nil∈I.1:=by
      rw[Q05,Q03 (by omega)];exact Q0r _
     have aM:=Own.same s3 aZ;unfold Own at aM;obtain⟨rr,kvs,fq,rfl,a7,_,a8⟩:=aM;refine⟨_,rfl,_,rfl,pk,rr,pb,key,by_,fs,kvs,_,fq,rfl,s3 _ _ aw,a7,a8,(aL _ bA).p,aE,bg,λt ht=>⟨s3.trans (Same.new ht),by rw[Q09];exact bq,?_⟩⟩
     have et:(I.1.map (rankOf key by_)).take (ks++[V.ref t]).length=(I.1.map (rankOf key by_)).take ks.length++[rankOf key by_ (I.1.getD ks.length .nil)]:=by
      rw[Q09];show List.take (ks.length+1) _=_;rw[Q0q,Q0h,Q05,Q03 (by omega)];rfl
     rw[et];refine wx (Paired.qC aV λk kl z=>?_) ⟨t,rfl,gh⟩;obtain⟨pp,e,hh⟩:=z;exact⟨pp,e,by rw[d_ (gz hh ht)];exact hh⟩
   . rintro ks H3 ⟨s3,bW,aV⟩ bB
     have bX:(I.1.map (rankOf key by_)).take ks.length=I.1.map (rankOf key by_):=by
      rw[bB,aY,Q15 (by rw[Q0];exact Q00 _)]
     rw[bX] at aV;refine⟨_,aV,⟨if by_="" then [kz (fs.get key)] else [kz (fs.get by_),kz (fs.get key)],by split <;> simp,λkl bY=>?_⟩,λp hp hs D hD=>?_⟩
     . obtain⟨m,hm,rfl⟩:=List.mem_map.mp bY;exact Kf (aL m hm) aE bg
     have bc:∀i∈p,i<vs.length:=λi hi=>by
      have:=hp.mem_iff.mp hi;simpa using this
     have bZ:p.Perm (List.range I.1.length):=by rw[<-aY];exact hp
     have hz:(p.map λi=>I.1.getD i .nil)=iL key by_ I.1:=by
      refine vO (tF _ bZ) ?_ bV;rw[Q12] at hs ⊢;refine List.Pairwise.imp_of_mem (λ{i j} hi hj h=>?_) hs;have b1:=bc i hi;have b2:=bc j hj
      have ge:∀i,i<vs.length->(I.1.map (rankOf key by_)).getD i []=rankOf key by_ (I.1.getD i .nil):=λi hi=>by
       rw[Q05,Q05,Q0h,Q03 (by omega)];rfl
      rw[ge i b1,ge j b2] at h;exact h
     have ax:gu H3 vs I.1 fl:=gu.keep (Tu.of s3) L λcc _ o e=>s3 cc o e;have sD:Same H3 (upd H3 D (.lst (p.map λi=>vs.getD i .non))):=Same.new hD;have aW:gu (upd H3 D (.lst (p.map λi=>vs.getD i .non))) vs I.1 fl:=gu.keep (Tu.of sD) ax λcc _ o e=>sD cc o e;have bf:=A3.pick (a0:=V.non) (b0:=Ds.nil) (c0:=[]) aW p bc;have b3:(p.map λi=>fl.getD i []).Perm fl:=tF _ (by rw[<-bz];exact hp);have au:=vV b3;have aA:H2 b=some (.lst [.int I.2]):=np b _ (by intro ps z;cases z) aB;have br:D≠b:=λe=>by rw[e,s3 _ _ aA] at hD;cases hD
     have bt:D≠Pt:=λe=>by rw[e,s3 _ _ bb.1] at hD;cases hD
     have bu:=s3.free hD
     have b4:H' D=none:=by
      cases e:H' D with
      |none=>rfl
      |some o=>rw[mono D o bt e] at bu;cases bu
     refine q (.ref D) _ (D::(p.map λi=>fl.getD i []).flatten) (λcc o nc e=>?_) (by rw[d_ (Ne.symm br)];exact s3 _ _ aA) (.inr ⟨c',bb.mono λcc o _ e=>sD _ _ (s3 _ _ e)⟩) ?_ ?_ ?_
     . have e1:=kp cc o nc e;exact sD _ _ (s3 _ _ (mono cc o (λz=>nc (.inr z)) e1))
     . unfold Own;exact⟨D,_,_,rfl,gh,rfl,by rw[<-hz];exact gu.own bf⟩
     . refine List.nodup_cons.mpr ⟨λhm=>?_,au.nodup_iff.mpr aT⟩;obtain⟨o,eo⟩:=(gu.mu ax D (au.mem_iff.mp hm)).ex;rw[hD] at eo;cases eo
     . intro cc hc;rcases List.mem_cons.mp hc with z|z
       . rw[z];exact kp.rh (λe=>e.elim br bt) b4
       . exact(ar cc (au.mem_iff.mp z)).1
theorem K6 (k:Kd)(room:Nat):16<=mu k room:=by
 have:=k.mP
 cases k <;> simp only[mu,Kd.dep] at * <;> omega
noncomputable def σU (a b:Addr) (I:V) (room:Nat) (J L U Y x5:Option V):St:=[some (.ref a),some (.ref b),some I,some (.int room),J,L,U,Y,x5]
theorem gj.gX {b P:Addr}{H₀ H H':Hp}{v:List (Key × V)}{d:Ds}{I:List Addr}{n:Int}{L:Pos}{U:Str}(h:gj H v d I)(x:gP b P H H')(Y:H b=some (.lst [.int n]))(hT:gy P L U H)(J:∃o,H₀ b=some o)(fr:∀c∈I,H₀ c=none):gj H' v d I:=by
 refine h.keep (gP.tu x Y hT) d λc hc o e=>x c o (λz=>?_) e;rcases z with z|z
 . obtain⟨o',e'⟩:=J;have:=fr c hc;rw[z,e'] at this;cases this
 . obtain⟨ps,hP⟩:=hT.tab;rcases gj.alive d h c hc with⟨xs,q⟩|⟨xs,q⟩ <;> rw[z,hP] at q <;> cases q
theorem gD.gX {b P:Addr}{H₀ H H':Hp}{v:List V}{d:Ds}{I:List Addr}{n:Int}{L:Pos}{U:Str}(h:gD H v d I)(x:gP b P H H')(Y:H b=some (.lst [.int n]))(hT:gy P L U H)(J:∃o,H₀ b=some o)(fr:∀c∈I,H₀ c=none):gD H' v d I:=by
 refine h.keep (gP.tu x Y hT) d λc hc o e=>x c o (λz=>?_) e;rcases z with z|z
 . obtain⟨o',e'⟩:=J;have:=fr c hc;rw[z,e'] at this;cases this
 . obtain⟨ps,hP⟩:=hT.tab;rcases gD.alive d h c hc with⟨xs,q⟩|⟨xs,q⟩ <;> rw[z,hP] at q <;> cases q
theorem gP.fresh {b P c:Addr}{H H':Hp}{n:Int}{I:Pos}{J:Str}(x:gP b P H H')(L:H' b=some (.lst [.int n]))(hT:gy P I J H')(h:H' c=none):H c=none:=by
 obtain⟨ps,U⟩:=hT.tab;exact x.rh (λe=>e.elim (λz=>by rw[z,L] at h;cases h) λz=>by rw[z,U] at h;cases h) h
theorem Eh:gQ XQ XI (gp (top 42)):=g_
theorem K7 {Pt:Addr}(T:Tb mg)(I:Dn K mg "_law_value" jB (top 42) J L):gc P w K mg base gf (2 * 0+5) J L jB (oZ K Pt 0):=by
 refine I.F.ok Eh λvs H Q E h=>?_;obtain⟨a,b,ns,n,kv,k,room,rfl,g,hT,hk,hW,Y,U,_⟩:=h;refine⟨rfl,λaa A outer s nd hr hu=>?_⟩;exact absurd U (by have:=K6 k room;omega)
theorem K8 {Pt:Addr}(N:Nat)(T:Tb mg)(I:Dn K mg "_law_value" jB (top 42) aa ab)(L:gc P w K mg base gf (2 * N+5) aa ab jB (oZ K Pt N))(ao:Dn K mg "_law_rows" jB (top 41) ap aq)(ar:gc P w K mg base gf (2 * N+6) ap aq jB (Ec K Pt N))(ac:Dn K mg "_law_next" gL (top 32) au av)(ae:gc P w K mg base gf (1) au av gL (nL K))(ak:Dn K mg "_law_number" gL (top 33) al am)(an:gc P w K mg base gf (2) al am gL (DU K))(aw:Dn K mg "_law_word" gL (top 34) ax ay)(az:gc P w K mg base gf (2) ax ay gL (DV K)):
 gc P w K mg base gf (2 * (N+1)+5) aa ab jB (oZ K Pt (N+1)):=by
 refine I.F.ok Eh λvs H Q E h=>?_;obtain⟨a,b,ns,n,kv,k,room,rfl,g,hT,hk,hW,Y,a7,hn,q⟩:=h;refine⟨rfl,λbF A outer s nd hr hu=>?_⟩
 refine⟨_,(e_ (gF (gE iu (gq (pv 2) c_) gW (gC _)) (gi (gw (gv an hr ak (a_ (pv 0) (a_ (pv 1) b_))))) gH)
  (e_ (gF (gE iu (gq (pv 2) c_) gW (gC _)) (gi (gw (gv az hr aw (a_ (pv 0) (a_ (pv 1) b_))))) gH)
  (e_ (gF (gE iu (gq (pv 2) c_) gW (gC _)) (e_ (gA 4 nd pJ)
  (e_ (jk PassesOwn.never rfl (lb (gq (pv 2) c_)) (lU rfl (ji (gY (i:=5) nd rfl iG) (ji (gY (i:=6) nd rfl iG) lQ))) (gi (mJ hu (pv 4) (pv 5) (gv L hr I (a_ (pv 0) (a_ (pv 1) (a_ (pv 6) (a_ (pv 3) b_))))) rfl)))
  (gi (gw (pv 4))))) gH)
  (e_ (gF (gE iu (gq (pv 2) c_) gW (gC _)) (gi (gw (gv ar hr ao (a_ (pv 0) (a_ (pv 1) (a_ (pv 2) (a_ (pv 3) b_))))))) gH)
  (e_ (gF (gE iu (gq (pv 2) c_) gW (gC _)) (e_ (gA 7 nd (gv L hr I (a_ (pv 0) (a_ (pv 1) (a_ (gq (pv 2) c_) (a_ (gn jc (pv 3) c_) b_))))))
  (e_ (gA 8 nd (gn ir (gv ae hr ac (a_ (pv 0) (a_ (pv 1) b_))) (gn j0 (pv 3) c_)))
  (gi (gw (iP (a_ (pv 7) (a_ (kT (g:=(iH 0)) (tt:=mK) (te:=(nu _ _ _ (i5 (gJ 1) (i5 (gJ 2) (i5 (gJ 3) (i5 (ie _ (gJ 4) (tC (.int 2))) j2)))))) (own:=["_law_k"]) rfl (jE (N:=XQ) (sc:=gp (top 42))) (oA rfl T.nI (a_ (pv 8) b_)) (λ_ _ _ _ _=>(gY (i:=0) (show(["_law_k","_law_script","_law_at","_law_kind_here","_law_room","_law_made","_law_name","_law_inner","_law_top","_law_many"]:List Str).Nodup by decide +kernel) rfl (Or.inl rfl) (.inr rfl))) (λ_ _ _ _ _=>oJ) (λ_ _ _ _ _=>(gv L hr I (a_ (pv 1) (a_ (pv 2) (a_ (pv 3) (a_ (gn jc (pv 4) c_) b_))))))) b_))))))) gH)
  (e_ (BR (gq (gq (pv 2) c_) (gn ir (gv ae hr ac (a_ (pv 0) (a_ (pv 1) b_))) (ij jr (by rfl) T.ja PySem.boot_len (a_ (gq (pv 2) c_) b_)))) (lU rfl (ji (gY (i:=5) nd rfl iG) (ji (gY (i:=6) nd rfl iG) lQ))))
  (gi (gw (iP (a_ (pv 5) (a_ (gv L hr I (a_ (pv 0) (a_ (pv 1) (a_ (pv 6) (a_ (pv 3) b_))))) b_))))))))))),?_⟩
 ac_rfl
 have hb:=g.at_;have bG:=g.pos;have aW:∃o,H b=some o:=⟨_,hb⟩;obtain⟨bH,hP⟩:=hT.tab;have e2:((room / 2:Nat):Int)=(room:Int) / 2:=by omega
 cases k with
 |num=>
  unfold KA at hk;obtain⟨c,rfl,hc⟩:=hk;simp only[kc,Kd.cB] at hn;refine mq rfl hc rfl (by decide +kernel) ?_;refine⟨_,rfl,_,rfl,a,b,ns,n,rfl,g,by omega,λH1 s1 h1=>?_⟩;have ev:val ns .num room n=(.int (num ns (n+1)),n+1):=by simp only[val]
  rw[ev] at q;exact q _ H1 [] (SB.gX s1) h1 (hT.sb hb s1) (by unfold Own;exact⟨rfl,rfl⟩) Q0o λc hc=>absurd hc (by simp)
 |iz=>
  unfold KA at hk;obtain⟨c,rfl,hc⟩:=hk;simp only[kc,Kd.cB] at hn;refine iR rfl hc rfl (by decide +kernel) ?_;refine mq rfl hc rfl (by decide +kernel) ?_;refine⟨_,rfl,_,rfl,a,b,ns,n,rfl,g,by omega,λH1 s1 h1=>?_⟩;have ev:val ns .iz room n=(.str (iz ns (n+1)),n+1):=by simp only[val]
  rw[ev] at q;exact q _ H1 [] (SB.gX s1) h1 (hT.sb hb s1) (by unfold Own;exact⟨rfl,rfl⟩) Q0o λc hc=>absurd hc (by simp)
 |iD fs=>
  unfold KA at hk;obtain⟨pk,pb,xs,rfl,U,aC,aD⟩:=hk;unfold Kd.W at hW;obtain⟨a8,bi,aX⟩:=hW;refine iR rfl U rfl (by decide +kernel) ?_;refine iR rfl U rfl (by decide +kernel) ?_;refine mq rfl U rfl (by decide +kernel) ?_;intro p hp;have a9:b≠p:=gz hb hp;have bj:Pt≠p:=gz hP hp;have s0:Same H (upd H p (.dK [])):=Same.new hp;have bm:val ns (.iD fs) room n=(.dct (gI ns fs room n).1,(gI ns fs room n).2):=by simp only[val]
  rw[bm] at q;simp only[kc,Kd.cB] at hn
  refine⟨_,rfl,pk,_,_,_,rfl,rfl,f9.of (s0 _ _ U),rfl,pb,rfl,⟨_,f9.of (s0 _ _ aC)⟩,sE (xs:=xs) (λi σ H'=>∃x2 x3 x4 x5 kvs fq,σ=σU a b (.ref pk) room (some (.ref p)) x2 x3 x4 x5/\gP b Pt H H'/\H' b=some (.lst [.int (gI ns (fs.take i) room n).2])/\gy Pt jm jn H'/\
   H' p=some (.dK kvs)/\gj H' kvs (gI ns (fs.take i) room n).1 fq/\fq.Nodup/\∀c∈fq,H c=none/\c≠p) ?_ ?_ ?_ ?_⟩
  . rw[Fs.take_zero];refine⟨_,_,_,_,[],[],rfl,Kp.of s0,by simp only[gI];exact s0 _ _ hb,hT.same s0,gh,?_,Q0o,λc hc=>absurd hc (by simp)⟩;simp only[gI];unfold gj;exact⟨rfl,rfl⟩
  . intro i σ H' _ zq;obtain⟨x2,x3,x4,x5,kvs,fq,rfl,kp,_⟩:=zq;exact f9.of (gP.tu kp hb hT _ _ aC)
  . intro i v σ H' hv zq;obtain⟨x2,x3,x4,x5,kvs,fq,rfl,kp,af,ag,aL,hO,aE,ah⟩:=zq;have ba:=gP.tu kp hb hT;obtain⟨c,u,nm,k,rfl,ai,hc,hk⟩:=FA.get fs aD hv;have cn:=pV ns (fs.take i) room n Y;have cb:=Fs.Eb ai;refine⟨c,_,rfl,f9.of (ba _ _ hc),rfl,_,_,rfl,_,_,rfl,rfl,?_⟩;refine⟨_,rfl,_,rfl,_,rfl,_,rfl,a,b,ns,(gI ns (fs.take i) room n).2,u,k,room,rfl,gP.g0 kp g hT af cn.1,ag,KA.mono ba k hk,Fs.pP aX ai,Y,?_,by have:=wo k room;omega,?_⟩
    . have:mu k room<mu (.iD fs) room:=wg (by have:=Fs.nF ai;simp only[Kd.dep];omega) Y;omega
    intro v2 H2 fp gX aH aJ aA aB aj;have bb:H2 p=some (.dK kvs):=gX p _ (λz=>z.elim (Ne.symm a9) (Ne.symm bj)) aL;have bn:=gj.gX hO gX af ag aW λc hc=>(ah c hc).1;have bo:nm ∉ (gI ns (fs.take i) room n).1.names:=by rw[t_];exact Fs.K2 a8 ai
    have bp:kvs.length<sizeLine:=by
     rw[gj.len hO,t_];have:(fs.take i).names.length<=fs.names.length:=by rw[Fs.wq,Q0l];omega
     exact iF (by omega)
    refine⟨_,rfl,_,rfl,p,_,rfl,km.k (k:=Sum.inr nm) bb bp,?_⟩;rw[nH (gj.Kh hO bo)];have bc:Mu H2 p:=.inr ⟨_,bb⟩;have bd:Tu H2 (upd H2 p (.dK (kvs++[(Sum.inr nm,v2)]))):=Tu.wr λys z=>bc.vT ys z
    have aT:∀c∈fp,H c=none/\c≠p:=λc hc=>by
     have z:=aj c hc;exact⟨gP.fresh kp af ag z,λe=>by rw[e,aL] at z;cases z⟩
    have sn:=D8 ns nm k room (fs.take i) n;rw[Fs.take_succ ai,sn];refine⟨_,_,_,_,_,fq++fp,rfl,λc o nc e=>?_,by rw[d_ a9];exact aH,aJ.wr bc,gh,?_,?_,?_⟩
    . rw[d_ (gz e hp)];exact gX c o nc (kp c o nc e)
    . exact gj.snoc (aA.keep bd _ λc hc o e=>by rw[d_ (aT c hc).2];exact e) _ (bn.keep bd _ λc hc o e=>by rw[d_ (ah c hc).2];exact e)
    . refine List.nodup_append.mpr ⟨aE,aB,λc hc d hd=>?_⟩;intro e;subst e;obtain⟨o,eo⟩:=(gj.alive _ hO c hc).ex;rw[aj c hd] at eo;cases eo
    . intro c hc;rcases List.mem_append.mp hc with z|z
      . exact ah c z
      . exact aT c z
  . intro σ H' zq;obtain⟨x2,x3,x4,x5,kvs,fq,rfl,kp,af,ag,aL,hO,aE,ah⟩:=zq;rw[FA.len fs aD,Fs.take_all] at af hO;refine⟨_,rfl,q (.ref p) H' (p::fq) kp af ag ?_ ?_ ?_⟩
    . unfold Own;exact⟨p,kvs,fq,rfl,aL,rfl,hO⟩
    . exact List.nodup_cons.mpr ⟨λhm=>(ah p hm).2 rfl,aE⟩
    . intro c hc;rcases List.mem_cons.mp hc with z|z
      . rw[z];exact hp
      . exact(ah c z).1
 |rows key by_ fs=>
  have aY:=hk;unfold KA at hk;obtain⟨pk,pb,xs,rfl,U,aC,aD⟩:=hk;simp only[kc] at hn;refine iR rfl U rfl (by decide +kernel) ?_;refine iR rfl U rfl (by decide +kernel) ?_;refine iR rfl U rfl (by decide +kernel) ?_;refine mq rfl U rfl (by decide +kernel) ?_;exact⟨_,rfl,_,rfl,_,rfl,_,rfl,a,b,ns,n,_,key,by_,fs,room,rfl,g,hT,aY,hW,Y,a7,hn,q⟩
 |tree k=>
  have aY:=hk;unfold KA at hk;obtain⟨pk,u,rfl,U,bq⟩:=hk;unfold Kd.W at hW;refine iR rfl U rfl (by decide +kernel) ?_;refine iR rfl U rfl (by decide +kernel) ?_;refine iR rfl U rfl (by decide +kernel) ?_;refine iR rfl U rfl (by decide +kernel) ?_;refine mq rfl U rfl (by decide +kernel) ?_;have ev:=KY ns k room n Y;rw[ev] at q;simp only[kc,Kd.cB] at hn;have bI:k.cB+1<=(k.cB+1) * gr room:=Q3h _ (wj room).1
  have m1:mu k (room / 2)<=N:=by
   have:mu k (room / 2)<mu (.tree k) room:=wg (by simp only[Kd.dep];omega) (by omega);omega
  refine⟨_,rfl,_,rfl,_,rfl,pk,_,_,_,rfl,rfl,f9.of U,rfl,_,rfl,_,_,rfl,rfl,⟨by decide,by decide⟩,a,b,ns,n,u,k,room / 2,(by rw[e2];rfl),g,hT,bq,hW,by omega,m1,by have:=wo k (room / 2);have:k.cB+1<=(k.cB+1) * gr room:=Q3h _ (wj room).1;omega,?_⟩;intro vt Ht aM aZ aP be br bt a5;have ct:=pU ns k (room / 2) n (by omega);generalize bJ:val ns k (room / 2) n=J at *;refine⟨_,rfl,_,rfl,a,b,ns,J.2,rfl,gP.g0 aZ g hT aP ct.1,by omega,λH1 s1 h1=>?_⟩;have g1:G0 K H1 a b ns (J.2+1):=(gP.g0 aZ g hT aP ct.1).go s1 h1 (by omega);have a6:=be.sb aP s1;have k1:gP b Pt H H1:=aZ.trans (SB.gX s1);have aU:Own H1 vt J.1 aM:=br.gX (SB.gX s1) aP be aW a5;refine⟨_,rfl,_,_,rfl,rfl,_,_,rfl,rfl,by omega,?_⟩;have bu:=Q0m (nx ns (J.2+1)) (show((room:Int)+1)≠0 by omega);have bv:=Q0n (nx ns (J.2+1)) (show(0:Int)<(room:Int)+1 by omega);have bw:=λm=>K1 ns k (room / 2) m (by omega);have bg:=λi=>vS (g:=val ns (.tree k) (room / 2)) (N:=(k.cB+1) * gr (room / 2)) bw i (J.2+1)
  refine⟨_,rfl,_,rfl,_,rfl,by omega,by omega,λi m ys H'=>m=(nx ns (J.2+1) % ((room:Int)+1)).toNat - i/\i<=(nx ns (J.2+1) % ((room:Int)+1)).toNat/\ys.length=i/\∃fq,gP b Pt H1 H'/\H' b=some (.lst [.int (times (val ns (.tree k) (room / 2)) i (J.2+1)).2])/\gy Pt jm jn H'/\
   gD H' ys (times (val ns (.tree k) (room / 2)) i (J.2+1)).1 fq/\fq.Nodup/\∀c∈fq,H1 c=none,⟨(nx ns (J.2+1) % ((room:Int)+1)).toNat,rfl,Q0g _,rfl,[],Kp.refl _ _,h1,a6,?_,Q0o,λc hc=>absurd hc (by simp)⟩,?_⟩
  . simp only[times];unfold gD;exact⟨rfl,rfl⟩
  intro i m ys H' zq;obtain⟨rfl,bE,bx,fq,kp,af,ag,hO,aE,ah⟩:=zq;by_cases hi:i<(nx ns (J.2+1) % ((room:Int)+1)).toNat
  . refine .inr ⟨hi,iF (by omega),λx bz y=>?_⟩;obtain⟨rfl,rfl⟩:=y;refine⟨rfl,yes (i_ ?_)⟩;have bA:1<=room:=by omega
    have bK:=bg i
    have bB:(times (val ns (.tree k) (room / 2)) i (J.2+1)).2+((k.cB+1) * gr (room / 2):Nat)<=1000000000000:=by
     have a1:=Q3g (k.cB+1) (K0 bA Y);have a2:(k.cB+1) * (1+room * gr (room / 2))=(k.cB+1)+room * ((k.cB+1) * gr (room / 2)):=by rw[Nat.mul_add,Nat.mul_one,Q3a]
     have a3:(i+1) * ((k.cB+1) * gr (room / 2))<=room * ((k.cB+1) * gr (room / 2)):=Q18 _ (by omega);have a4:(i+1) * ((k.cB+1) * gr (room / 2))=i * ((k.cB+1) * gr (room / 2))+(k.cB+1) * gr (room / 2):=Q1s _ _;omega
    have kA:gP b Pt H bz:=k1.trans kp;refine⟨_,rfl,_,rfl,_,rfl,_,rfl,_,_,rfl,rfl,⟨by decide,by decide⟩,a,b,ns,(times (val ns (.tree k) (room / 2)) i (J.2+1)).2,.ref pk,.tree k,room / 2,(by rw[e2];rfl),gP.g0 kA g hT af (by omega),ag,KA.mono (gP.tu kA hb hT) _ aY,(by unfold Kd.W;exact hW),by omega,(by simp only[mu] at a7 ⊢;omega),bB,?_⟩;intro v2 H2 fp gX aH aJ aA aB aj;have sn:=D9 (val ns (.tree k) (room / 2)) i (J.2+1);refine⟨(nx ns (J.2+1) % ((room:Int)+1)).toNat - (i+1),by omega,rfl,hi,by rw[Q09,bx];rfl,fq++fp,kp.trans gX,by rw[sn];exact aH,aJ,?_,?_,?_⟩
    . rw[sn];exact gD.snoc aA _ (gD.gX hO gX af ag ⟨_,h1⟩ ah)
    . refine List.nodup_append.mpr ⟨aE,aB,λc hc d hd=>?_⟩;intro e;subst e;obtain⟨o,eo⟩:=(gD.alive _ hO c hc).ex;rw[aj c hd] at eo;cases eo
    . intro c hc;rcases List.mem_append.mp hc with z|z
      . exact ah c z
      . exact gP.fresh kp af ag (aj c z)
  . have ei:i=(nx ns (J.2+1) % ((room:Int)+1)).toNat:=by omega
    subst ei;refine .inl ⟨Q00 _,λpl aQ=>⟨i3,λt ht=>?_⟩⟩;have sl:Same H' (upd H' pl (.lst ys)):=Same.new aQ;have st:Same (upd H' pl (.lst ys)) (upd (upd H' pl (.lst ys)) t (.tup [vt,.ref pl])):=Same.new ht;have sa:=sl.trans st;have aV:Own H' vt J.1 aM:=aU.gX kp h1 a6 aW a5;have kA:gP b Pt H H':=k1.trans kp;refine q (.ref t) _ (aM++(pl::fq)) (kA.trans (Kp.of sa)) (sa _ _ af) (ag.same sa) ?_ ?_ ?_
    . unfold Own;refine⟨t,_,rfl,gh,?_⟩;unfold gD;refine⟨vt,[.ref pl],aM,pl::fq,rfl,rfl,Own.same sa aV,?_⟩;unfold gD;refine⟨.ref pl,[],pl::fq,[],rfl,by simp,?_,by unfold gD;exact⟨rfl,rfl⟩⟩;unfold Own;exact⟨pl,ys,fq,rfl,st _ _ gh,rfl,gD.same sa hO⟩
    . refine List.nodup_append.mpr ⟨bt,List.nodup_cons.mpr ⟨λhm=>?_,aE⟩,λc hc d hd=>?_⟩
      . obtain⟨o,eo⟩:=(gD.alive _ hO pl hm).ex;rw[aQ] at eo;cases eo
      . intro e;subst e;rcases List.mem_cons.mp hd with z|z
        . obtain⟨o,eo⟩:=(Own.alive _ aV c hc).ex;rw[z,aQ] at eo;cases eo
        . obtain⟨o,eo⟩:=(Own.alive _ aU c hc).ex;rw[ah c z] at eo;cases eo
    . intro c hc;rcases List.mem_append.mp hc with z|z
      . exact a5 c z
      . rcases List.mem_cons.mp z with y|y
        . rw[y];exact gP.fresh kA af ag aQ
        . exact gP.fresh k1 h1 a6 (ah c y)
 |jd fs=>
  unfold KA at hk;obtain⟨pk,pb,xs,rfl,U,aC,aD⟩:=hk;unfold Kd.W at hW;obtain⟨a8,bi,bL,aX⟩:=hW;refine iR rfl U rfl (by decide +kernel) ?_;refine iR rfl U rfl (by decide +kernel) ?_;refine iR rfl U rfl (by decide +kernel) ?_;refine iR rfl U rfl (by decide +kernel) ?_;refine iR rfl U rfl (by decide +kernel) ?_;simp only[kc,Kd.cB] at hn;refine⟨_,rfl,pk,_,_,_,rfl,rfl,f9.of U,rfl,_,rfl,_,rfl,a,b,ns,n,rfl,g,by omega,λH1 s1 h1=>?_⟩;have aK:=s1.tu hb;have bf:(xs.length:Int)=(fs.names.length:Int):=by rw[FA.len fs aD]
  have bu:=Q0m (nx ns (n+1)) (show((fs.names.length:Int))≠0 by omega);have bv:=Q0n (nx ns (n+1)) (show(0:Int)<(fs.names.length:Int) by omega);obtain⟨nm,k,ai⟩:=Fs.Dj (fs:=fs) (i:=(nx ns (n+1) % (fs.names.length:Int)).toNat) (by omega);obtain⟨c,u,bC,hc,hk⟩:=FA.at aD ai
  have bD:i8 xs (nx ns (n+1) % ((xs.length:Nat):Int))=some (.ref c):=by
   have e:nx ns (n+1) % ((xs.length:Nat):Int)=(((nx ns (n+1) % (fs.names.length:Int)).toNat:Nat):Int):=by rw[bf];omega
   rw[e];exact ki bC
  refine⟨_,rfl,pk,_,_,_,rfl,rfl,f9.of (aK _ _ U),rfl,pb,_,rfl,.inr (f9.of (aK _ _ aC)),_,_,rfl,rfl,by rw[bf];omega,pb,_,_,_,rfl,rfl,f9.of (aK _ _ aC),bD,?_⟩;refine⟨c,_,rfl,f9.of (aK _ _ hc),rfl,_,_,rfl,_,_,rfl,rfl,?_⟩
  have ev:val ns (.jd fs) room n=(pairD (.str nm) (val ns k room (n+1)).1,(val ns k room (n+1)).2):=by
   show jl ns fs (nx ns (n+1) % (fs.names.length:Int)).toNat room (n+1)=_;exact D_ ns fs _ room (n+1) nm k ai
  rw[ev] at q;have cb:=Fs.Ea ai;refine⟨_,rfl,_,rfl,_,rfl,_,rfl,_,rfl,a,b,ns,n+1,u,k,room,rfl,g.go s1 h1 (by omega),hT.sb hb s1,KA.mono aK k hk,Fs.pP aX ai,Y,?_,by have:=wo k room;omega,?_⟩
  . have:mu k room<mu (.jd fs) room:=wg (by have:=Fs.nF ai;simp only[Kd.dep];omega) Y;omega
  intro v2 H2 fp gX aH aJ aA aB aj;have bh:gP b Pt H H2:=(SB.gX s1).trans gX;refine⟨i3,λt ht=>?_⟩;have st:Same H2 (upd H2 t (.tup [.str nm,v2])):=Same.new ht;refine q (.ref t) _ fp (bh.trans (Kp.of st)) (st _ _ aH) (aJ.same st) ?_ aB λc hc=>gP.fresh (SB.gX s1) h1 (hT.sb hb s1) (aj c hc);unfold Own;refine⟨t,_,rfl,gh,?_⟩;unfold gD;refine⟨.str nm,[v2],[],fp,rfl,rfl,by unfold Own;exact⟨rfl,rfl⟩,?_⟩;unfold gD;exact⟨v2,[],fp,[],rfl,by simp,Own.same st aA,by unfold gD;exact⟨rfl,rfl⟩⟩
theorem Ej {Pt c:Addr}{ae:Addr}{af:FuncData}(T:Tb mg)(J:Dn K mg "_law_value" jB (top 42) ab ac)(U:Dn K mg "_law_rows" jB (top 41) ak ag)(ah:ag.code=.ref c)(ap:W.CodeHd base c Pt)(aq:BM mg base)(I:Dn K mg "_law_next" gL (top 32) al am)(L:Dn K mg "_law_number" gL (top 33) ai aj)(Y:Dn K mg "_law_word" gL (top 34) an ao)(aa:Dn K mg "_law_rank" mT (top 40) ae af):∀N:Nat,gc P w K mg base gf (2 * N+5) ab ac jB (oZ K Pt N)
 |0=>K7 T J
 |N+1=>by
  have ih:=Ej T J U ah ap aq I L Y aa N;have Nx:=rB (P:=P) (w:=w) (base:=base) T I;have R:=K5 N T U ah ap aq I Nx aa (Ed T aa) J ih;exact K8 N T J ih U R I Nx L (KH T L I Nx) Y (KJ T Y I Nx)
mutual
def D.Sm:D->Prop
 | .int _=>True
 | .str _=>True
 | .non=>True
 | .boo _=>True
 | .tup xs=>xs.len<=100/\xs.Sm
 | .lst xs=>xs.len<=100/\xs.Sm
 | .dct m=>m.len<=100/\m.Sm
def Ds.Sm:Ds->Prop
 | .nil=>True
 | .cons _ d r=>d.Sm/\r.Sm
end
theorem Ds.uc:∀{xs:Ds}{i:Nat}{d:D},xs.Sm->xs.at i=some d->d.Sm
 | .nil,_,_,_,h=>by cases h
 | .cons _ d r,0,_,w,h=>by unfold Ds.Sm at w;cases h;exact w.1
 | .cons _ d r,i+1,_,w,h=>by unfold Ds.Sm at w;exact Ds.uc (xs:=r) (i:=i) w.2 h
theorem Ds.wy:∀{xs:Ds}{x:Str}{d:D},xs.Sm->xs.get x=some d->d.Sm
 | .nil,_,_,_,h=>by cases h
 | .cons y e r,x,d,w,h=>by
   unfold Ds.Sm at w;have h:(if x=y then some e else r.get x)=some d:=h;by_cases c:x=y
   . rw[if_pos c] at h;cases h;exact w.1
   . rw[if_neg c] at h;exact Ds.wy w.2 h
theorem o3:∀(m:Ds),m.names.length=m.len
 | .nil=>rfl
 | .cons _ _ r=>by show r.names.length+1=r.len+1;rw[o3 r]
theorem l4:∀l:List Ds,(ic l).len=l.length
 |[]=>rfl
 |m::r=>by show(ic r).len+1=r.length+1;rw[l4 r]
theorem p8:∀{l:List Ds},(∀m∈l,(D.dct m).Sm)->(ic l).Sm
 |[],_=>by unfold ic Ds.Sm;trivial
 |m::r,h=>by
  unfold ic Ds.Sm;exact⟨h m Q02,p8 λx I=>h x (Q07 _ I)⟩
theorem El:∀{l:List Ds},(ic l).Sm->∀m∈l,(D.dct m).Sm
 |[],_,m,I=>absurd I (by simp)
 |x::r,h,m,I=>by
  unfold ic Ds.Sm at h;rcases List.mem_cons.mp I with e|e
  . rw[e];exact h.1
  . exact El h.2 m e
theorem Em:∀{l:List Ds},∀m∈l,m.dep+1<=(ic l).dep
 |[],m,I=>absurd I (by simp)
 |x::r,m,I=>by
  simp only[ic,Ds.dep,D.dep];rcases List.mem_cons.mp I with e|e
  . rw[e];omega
  . have:=Em (l:=r) m e;omega
theorem En (g:Int->D × Int):∀(m:Nat) (n:Int),(times g m n).1.len=m
 |0,_=>rfl
 |m+1,n=>by show(times g m (g n).2).1.len+1=m+1;rw[En g m]
theorem Eo {g:Int->D × Int}(I:∀n,(g n).1.Sm):∀(m:Nat) (n:Int),(times g m n).1.Sm
 |0,_=>by unfold times Ds.Sm;trivial
 |m+1,n=>by
  unfold times Ds.Sm;exact⟨I n,Eo I m _⟩
theorem Ep {a b:D}(h1:a.Sm)(h2:b.Sm):(pairD a b).Sm:=by
 unfold D.Sm;exact⟨by show 2<=100;decide,by unfold Ds.Sm;exact⟨h1,by unfold Ds.Sm;exact⟨h2,by unfold Ds.Sm;trivial⟩⟩⟩
theorem Er {ns:List Int}{f:Nat->Int->D × Int}(I:∀room n,room<8->(f room n).1.Sm):∀(fu room:Nat) (n:Int),room<8->(iX ns f fu room n).1.Sm
 |0,_,_,_=>by unfold iX D.Sm;trivial
 |fu+1,room,n,h=>by
  unfold iX;refine Ep (I _ _ (by omega)) ?_;unfold D.Sm;refine⟨?_,Eo (λn=>Er I fu (room / 2) n (by omega)) _ _⟩;rw[En];have:=mod_le (a:=nx ns ((f (room / 2) n).2+1)) h;omega
theorem wz {g:Int->Ds × Int}{key:Str}:∀(m:Nat) (I:List Ds) (n:Int),(ix g key m I n).1.length<=I.length+m
 |0,I,n=>by simp[ix]
 |m+1,I,n=>by
  unfold ix;split
  . have:=wz (g:=g) (key:=key) m I (g n).2;omega
  . have:=wz (g:=g) (key:=key) m (I++[(g n).1]) (g n).2;rw[Q09] at this;have e:[(g n).1].length=1:=rfl;omega
mutual
theorem wA (ns:List Int):∀(k:Kd),k.W->∀(room:Nat) (n:Int),room<8->(val ns k room n).1.Sm
 | .num,_,_,_,_=>by unfold val D.Sm;trivial
 | .iz,_,_,_,_=>by unfold val D.Sm;trivial
 | .iD fs,w,room,n,h=>by
   unfold Kd.W at w;unfold val;exact ud ns fs w.2.2 room n h w.2.1
 | .rows key by_ fs,w,room,n,h=>by
   unfold Kd.W at w;unfold val D.Sm;refine⟨?_,p8 λm I=>?_⟩
   . rw[l4,(lZ key by_ _).length_eq];have:=wz (g:=gI ns fs (room / 2)) (key:=key) (nx ns (n+1) % ((room:Int)+1)).toNat [] (n+1);have e:=mod_le (a:=nx ns (n+1)) h;have L:([]:List Ds).length=0:=rfl;omega
   . exact pR (R:=λm=>(D.dct m).Sm) (λn=>ud ns fs w.2.2.1 (room / 2) n (by omega) w.2.1) _ _ _ (λr J=>absurd J (by simp)) m ((lZ key by_ _).mem_iff.mp I)
 | .tree k,w,room,n,h=>by
   unfold Kd.W at w;unfold val;exact Er (λroom n h=>wA ns k w room n h) 4 room n h
 | .jd fs,w,room,n,h=>by
   unfold Kd.W at w;unfold val;exact Es ns fs w.2.2.2 _ room _ h
theorem ud (ns:List Int):∀(fs:Fs),fs.W->∀(room:Nat) (n:Int),room<8->fs.names.length<=12->(D.dct (gI ns fs room n).1).Sm
 | .nil,_,_,_,_,_=>by
   unfold gI D.Sm;exact⟨by show 0<=100;omega,by unfold Ds.Sm;trivial⟩
 | .cons x k r,w,room,n,h,hl=>by
   unfold Fs.W at w;have hl:r.names.length+1<=12:=hl;have a:=wA ns k w.1 room n h;have b:=ud ns r w.2.2 room (val ns k room n).2 h (by omega);unfold D.Sm at b;unfold gI D.Sm;refine⟨?_,by unfold Ds.Sm;exact⟨a,b.2⟩⟩;show(gI ns r room (val ns k room n).2).1.len+1<=100;rw[<-o3,t_];omega
theorem Es (ns:List Int):∀(fs:Fs),fs.W->∀(i room:Nat) (n:Int),room<8->(jl ns fs i room n).1.Sm
 | .nil,_,_,_,_,_=>by unfold jl D.Sm;trivial
 | .cons x k r,w,0,room,n,h=>by
   unfold Fs.W at w;unfold jl;exact Ep (by unfold D.Sm;trivial) (wA ns k w.1 room n h)
 | .cons x k r,w,i+1,room,n,h=>by
   unfold Fs.W at w;unfold jl;exact Es ns r w.2.2 i room n h
end
theorem ky.at {P:D->Prop}:∀{xs:Ds}{i:Nat}{d:D},ky P xs->xs.at i=some d->Tree P d
 | .nil,_,_,_,h=>by cases h
 | .cons _ d r,0,_,w,h=>by unfold ky at w;cases h;exact w.1
 | .cons _ d r,i+1,_,w,h=>by unfold ky at w;exact ky.at (xs:=r) (i:=i) w.2 h
theorem Own.pair {H:Hp}{v:V}{x y:Str}{a b:D}{I:List Addr}(h:Own H v (.tup (.cons x a (.cons y b .nil))) I):∃c v1 v2 f1 f2,v=.ref c/\H c=some (.tup [v1,v2])/\I=f1++f2/\Own H v1 a f1/\Own H v2 b f2:=by
 unfold Own at h;obtain⟨c,vs,rfl,hc,h⟩:=h;unfold gD at h;obtain⟨v1,q,f1,f2,rfl,rfl,J,h⟩:=h;unfold gD at h;obtain⟨v2,U,g,f3,rfl,rfl,L,h⟩:=h;unfold gD at h;obtain⟨rfl,rfl⟩:=h;exact⟨c,v1,v2,f1,g,rfl,hc,by simp,J,L⟩
theorem Et:∀{l:List Ds}{i:Nat}{d:D},(ic l).at i=some d->∃m∈l,d=.dct m
 |[],_,_,h=>by cases h
 |m::r,0,_,h=>by cases h;exact⟨m,Q02,rfl⟩
 |m::r,i+1,d,h=>by
  obtain⟨I,h1,h2⟩:=Et (l:=r) (i:=i) h;exact⟨I,Q07 _ h1,h2⟩
theorem K9 {kvs:List (Key × V)}:∀{i:Nat}{k:Key}{v:V},(kvs.map (·.1)).Nodup->kvs[i]? =some (k,v)->iw kvs k=some v:=by
 induction kvs with
 |nil=>intro i k v _ e;simp at e
 |cons p r I=>
  intro i k v nd e;have nd:(p.1::r.map (·.1)).Nodup:=nd;obtain⟨J,L⟩:=List.nodup_cons.mp nd
  cases i with
  |zero=>
   have e:some p=some (k,v):=e
   cases e;exact nv rfl
  |succ i=>
   have e:r[i]? =some (k,v):=by simpa using e
   have U:k∈r.map (·.1):=List.mem_map.mpr ⟨(k,v),Q0j e,rfl⟩;rw[oI (λz=>J (by rw[z];exact U))];exact I L e
theorem Eu:∀{l:List Str},l.Nodup->(l.map (Sum.inr:Str->Key)).Nodup
 |[],_=>Q0o
 |x::r,h=>by
  obtain⟨h1,h2⟩:=List.nodup_cons.mp h;refine List.nodup_cons.mpr ⟨λm=>?_,Eu h2⟩;obtain⟨y,I,e⟩:=List.mem_map.mp m
  cases e;exact h1 I
noncomputable def Ds.upd:Ds->Str->D->Ds
 | .nil,_,_=>.nil
 | .cons y d r,x,e=>.cons y (if y=x then e else d) (r.upd x e)
noncomputable def Ds.del:Ds->Str->Ds
 | .nil,_=>.nil
 | .cons y d r,x=>if y=x then r.del x else .cons y d (r.del x)
noncomputable def Fs.toL:Fs->List (Str × Kd)
 | .nil=>[]
 | .cons x k r=>(x,k)::r.toL
theorem Ds.wB:∀(m:Ds) (x:Str) (e:D),(m.snoc x e).names=m.names++[x]
 | .nil,_,_=>rfl
 | .cons y d r,x,e=>by
   show y::(r.snoc x e).names=_;rw[Ds.wB r x e];rfl
theorem Ds.wC:∀(m:Ds) (x:Str) (e:D),(m.upd x e).names=m.names
 | .nil,_,_=>rfl
 | .cons y d r,x,e=>by
   show y::(r.upd x e).names=_;rw[Ds.wC r x e];rfl
theorem Ds.ue:∀(m:Ds) (x:Str),x ∉ (m.del x).names
 | .nil,_=>by simp[Ds.del,Ds.names]
 | .cons y d r,x=>by
   unfold Ds.del;split
   . exact Ds.ue r x
   . rename_i h;intro z;rcases List.mem_cons.mp (show x∈y::(r.del x).names from z) with e|e
     . exact h e.symm
     . exact Ds.ue r x e
theorem Fs.uf:∀(fs:Fs) (i:Nat),fs.toL[i]? =fs.at i
 | .nil,i=>by simp[Fs.toL,Fs.at]
 | .cons x k r,0=>rfl
 | .cons x k r,i+1=>by
   show((x,k)::r.toL)[i+1]? =r.at i;rw[Q39,Fs.uf r i]
theorem Ds.Ew {x z:Str}(h:z≠x)(e:D):∀(m:Ds),(m.upd x e).get z=m.get z
 | .nil=>rfl
 | .cons y d r=>by
   show(if z=y then some (if y=x then e else d) else(r.upd x e).get z)=(if z=y then some d else r.get z);by_cases c:z=y
   . rw[if_pos c,if_pos c,if_neg (λq=>h (c.trans q))]
   . rw[if_neg c,if_neg c,Ds.Ew h e r]
theorem Ds.Ex {x:Str}(e:D):∀{m:Ds},x∈m.names->(m.upd x e).get x=some e
 | .nil,h=>by simp[Ds.names] at h
 | .cons y d r,h=>by
   show(if x=y then some (if y=x then e else d) else(r.upd x e).get x)=some e;by_cases c:x=y
   . rw[if_pos c,if_pos c.symm]
   . rw[if_neg c];rcases List.mem_cons.mp (show x∈y::r.names from h) with q|q
     . exact absurd q c
     . exact Ds.Ex e q
theorem Ds.Ey:∀{xs:Ds}{i:Nat}{d:D},xs.at i=some d->i<xs.len
 | .nil,_,_,h=>by cases h
 | .cons x d r,0,_,_=>by show 0<r.len+1;omega
 | .cons x d r,i+1,_,h=>by
   have:=Ds.Ey (xs:=r) (i:=i) h;show i+1<r.len+1;omega
theorem ug:∀{I:List Ds}{i:Nat},i<I.length->(ic I).at i=some (.dct (I.getD i .nil))
 |[],_,h=>by simp at h
 |m::r,0,_=>rfl
 |m::r,i+1,h=>by
  show(ic r).at i=_;rw[ug (by simpa using h)];rfl
theorem Ds.Ez (x:Str)(e:D):∀m:Ds,(m.upd x e).dep<=max m.dep e.dep
 | .nil=>Q0g _
 | .cons y d r=>by
   have:=Ds.Ez x e r;show max (if y=x then e else d).dep (r.upd x e).dep<=max (max d.dep r.dep) e.dep;split <;> omega
theorem Ds.EA (x:Str)(e:D):∀m:Ds,(m.snoc x e).dep<=max m.dep e.dep
 | .nil=>by show max e.dep 0<=max 0 e.dep;omega
 | .cons y d r=>by
   have:=Ds.EA x e r;show max d.dep (r.snoc x e).dep<=max (max d.dep r.dep) e.dep;omega
theorem Ds.wD (x:Str):∀m:Ds,(m.del x).dep<=m.dep
 | .nil=>Q00 _
 | .cons y d r=>by
   have:=Ds.wD x r;unfold Ds.del;split
   . show _<=max d.dep r.dep;omega
   . show max d.dep (r.del x).dep<=max d.dep r.dep;omega
theorem Fs.p9:∀{fs:Fs}{x:Str}{k:Kd},fs.get x=some k->x∈fs.names
 | .cons y q r,x,k,h=>by
   unfold Fs.get at h;by_cases e:x=y
   . rw[e];exact Q02
   . rw[if_neg e] at h;exact Q07 _ (Fs.p9 h)
noncomputable def kD:Key->D
 | .inl z=>.int z
 | .inr s=>.str s
def jo:Option Kd->Key->Prop
 |some .num,.inl _=>True
 |some .iz,.inr _=>True
 |_,_=>False
theorem jo.fit {o:Option Kd}{p:Key}(h:jo o p):∃k,o=some k/\jQ k/\ia k (kD p):=by
 unfold jo at h;split at h
 . exact⟨.num,rfl,trivial,by unfold ia kD;exact⟨_,rfl⟩⟩
 . exact⟨.iz,rfl,trivial,by unfold ia kD;exact⟨_,rfl⟩⟩
 . exact h.elim
theorem jo.of {fs:Fs}{m:Ds}{x:Str}(f:gU fs m)(h:fs.pl x):jo (fs.get x) (keyOf m x):=by
 obtain⟨_,⟨z,_,e,k⟩|⟨s,_,e,k⟩⟩:=f.plain h
 . rw[e,k];exact trivial
 . rw[e,k];exact trivial
theorem wF (p:Key):(kD p).dep=1:=by cases p <;> rfl
theorem wG (p:Key):(kD p).Sm:=by cases p <;> (unfold kD D.Sm;trivial)
theorem K_ {m:Ds}{x:Str}{p:Key}(h:x∈m.names):keyOf (m.upd x (kD p)) x=p:=by
 unfold keyOf;rw[Ds.Ex _ h]
 cases p <;> rfl
theorem La {m:Ds}{x y:Str}{e:D}(h:y≠x):keyOf (m.upd x e) y=keyOf m y:=by
 unfold keyOf;rw[Ds.Ew h]
theorem Ds.EB {x:Str}{e:D}:∀{m:Ds},x ∉ m.names->m.upd x e=m
 | .nil,_=>rfl
 | .cons y d r,h=>by
   show Ds.cons y (if y=x then e else d) (r.upd x e)=_;rw[if_neg (λz=>h (by rw[z];exact Q02)),Ds.EB (m:=r) λz=>h (Q07 _ z)]
theorem gU.upd {x:Str}{k:Kd}{e:D}(I:ia k e):∀{fs:Fs}{m:Ds},fs.names.Nodup->fs.get x=some k->gU fs m->gU fs (m.upd x e)
 | .nil,_,_,h,_=>by cases h
 | .cons y q r,m,nd,h,f=>by
   unfold gU at f;obtain⟨d,m,rfl,f1,f2⟩:=f;have nd:(y::r.names).Nodup:=nd;obtain⟨J,L⟩:=List.nodup_cons.mp nd;unfold Fs.get at h;show gU _ (.cons y (if y=x then e else d) (m.upd x e));unfold gU;by_cases ex:x=y
   . rw[if_pos ex] at h
     cases h;subst ex;rw[if_pos rfl,Ds.EB (by rw[f2.names];exact J)];exact⟨_,_,rfl,I,f2⟩
   . rw[if_neg ex] at h;rw[if_neg (λz=>ex z.symm)];exact⟨_,_,rfl,f1,gU.upd I L h f2⟩
theorem Ds.Lb (x:Str)(e:D)(m:Ds):(m.upd x e).len=m.len:=by rw[<-o3,Ds.wC,o3]
theorem Ds.EC {x:Str}{e:D}(I:e.Sm):∀{m:Ds},m.Sm->(m.upd x e).Sm
 | .nil,h=>h
 | .cons y d r,h=>by
   unfold Ds.Sm at h;show Ds.Sm (.cons y (if y=x then e else d) (r.upd x e));unfold Ds.Sm;refine⟨?_,Ds.EC I h.2⟩;split
   . exact I
   . exact h.1
def j9 (fs:Fs) (m:Ds):Prop:=gU fs m/\m.dep<=fs.dB+1/\(D.dct m).Sm
theorem j9.upd {fs:Fs}{m:Ds}{x:Str}{p:Key}(nd:fs.names.Nodup)(h:j9 fs m)(hp:jo (fs.get x) p):j9 fs (m.upd x (kD p)):=by
 obtain⟨k,e,_,I⟩:=hp.fit;refine⟨h.1.upd I nd e,?_,?_⟩
 . have:=Ds.Ez x (kD p) m;have a:=h.2.1;rw[wF] at this;omega
 . have s:=h.2.2;unfold D.Sm at s ⊢;exact⟨by rw[Ds.Lb];exact s.1,Ds.EC (wG p) s.2⟩
noncomputable def p_ (ns:List Int) (key by_:Str) (fs:Fs) (room:Nat) (q:List Ds × Int) (p:Key):List Ds × Int:=
 if 0<nx ns (q.2+1) % 3 then
  (q.1++[(if by_≠""/\q.1≠[]/\nx ns (q.2+1) / 3 % 2=0 then(gI ns fs room (q.2+1)).1.upd by_ (kD (keyOf (q.1.getLastD .nil) by_)) else(gI ns fs room (q.2+1)).1).upd key (kD p)],(gI ns fs room (q.2+1)).2)
 else(q.1,q.2+1)
noncomputable def iE (ns:List Int) (key by_:Str) (fs:Fs) (room:Nat) (ps:List Key) (n:Int):List Ds × Int:=ps.foldl (p_ ns key by_ fs room) ([],n)
theorem ED {ns:List Int}{key by_:Str}{fs:Fs}{room:Nat}{ps:List Key}{p:Key}{n:Int}:iE ns key by_ fs room (ps++[p]) n=p_ ns key by_ fs room (iE ns key by_ fs room ps n) p:=by
 unfold iE;rw[Q2m];rfl
theorem Lc {ns:List Int}{key by_:Str}{fs:Fs}{room:Nat}{ps:List Key}{p:Key}{n:Int}{i:Nat}(h:ps[i]? =some p):iE ns key by_ fs room (ps.take (i+1)) n=p_ ns key by_ fs room (iE ns key by_ fs room (ps.take i) n) p:=by
 rw[Q0q,h];exact ED
structure qa (fs:Fs) (key:Str) (room:Nat) (ps:List Key) (n:Int) (q:List Ds × Int):Prop where
 ok:∀m∈q.1,j9 fs m
 keys:(q.1.map λm=>keyOf m key).Sublist ps
 lo:n<=q.2
 hi:q.2<=n+ps.length * ((fs.cB:Int)+1)
theorem EE {α:Type}{l:List α}{d:α}(h:l≠[]):l.getLastD d∈l:=by
 cases l with
 |nil=>exact absurd rfl h
 |cons a r=>exact List.mem_of_getLast? (by rw[List.getLast?_eq_some_getLast (List.cons_ne_nil a r)];rw[List.getLastD_cons,<-List.getLast_eq_getLastD])
theorem qa.step {ns:List Int}{key by_:Str}{fs:Fs}{room:Nat}{ps:List Key}{n:Int}{q:List Ds × Int}{p:Key}(h:qa fs key room ps n q)(hW:(Kd.rows key by_ fs).W)(U:room<8)(hp:jo (fs.get key) p):qa fs key room (ps++[p]) n (p_ ns key by_ fs room q p):=by
 unfold Kd.W at hW;obtain⟨I,aa,J,L,ab⟩:=hW;have c:=pV ns fs room (q.2+1) U
 have e:((ps++[p]).length:Int) * ((fs.cB:Int)+1)=ps.length * ((fs.cB:Int)+1)+(fs.cB+1):=by
  rw[Q09];show((ps.length+1:Nat):Int) * _=_;rw[Q20,Q21];simp
 have lo:=h.lo;have hi:=h.hi;unfold p_;split
 . have v0:j9 fs (gI ns fs room (q.2+1)).1:=⟨oU ns fs J room _ U,Nat.le_succ_of_le (tD ns fs room _),ud ns fs J room _ U aa⟩;generalize gI ns fs room (q.2+1)=v at *
   have v1:j9 fs (if by_≠""/\q.1≠[]/\nx ns (q.2+1) / 3 % 2=0 then v.1.upd by_ (kD (keyOf (q.1.getLastD .nil) by_)) else v.1):=by
    split
    . rename_i hc;exact v0.upd I (jo.of (h.ok _ (EE hc.2.1)).1 (ab.resolve_left hc.1))
    . exact v0
   generalize (if by_≠""/\q.1≠[]/\nx ns (q.2+1) / 3 % 2=0 then v.1.upd by_ (kD (keyOf (q.1.getLastD .nil) by_)) else v.1)=Y at *
   have hm:key∈Y.names:=by
    rw[v1.1.names];obtain⟨k,e,_⟩:=L;exact Fs.p9 e
   refine⟨λm ac=>?_,?_,by show n<=v.2;omega,by show v.2<=_;rw[e];omega⟩
   . rcases List.mem_append.mp ac with z|z
     . exact h.ok m z
     . rw[List.mem_singleton.mp z];exact v1.upd I hp
   . show((q.1++[Y.upd key (kD p)]).map λm=>keyOf m key).Sublist _;rw[Q0b];refine List.Sublist.append h.keys ?_;show [keyOf (Y.upd key (kD p)) key].Sublist [p];rw[K_ hm];exact List.Sublist.refl _
 . exact⟨h.ok,h.keys.trans (List.sublist_append_left _ _),by show n<=q.2+1;omega,by show q.2+1<=_;rw[e];omega⟩
theorem wH {ns:List Int}{key by_:Str}{fs:Fs}{room:Nat}{ps:List Key}{n:Int}(I:(Kd.rows key by_ fs).W)(J:room<8)(hp:∀p∈ps,jo (fs.get key) p):∀i,qa fs key room (ps.take i) n (iE ns key by_ fs room (ps.take i) n)
 |0=>by
  rw[Q2n];exact { ok:=(λm h=>by cases h),keys:=List.Sublist.refl _,lo:=Q1j n,hi:=by show n<=n+((0:Nat):Int) * _;simp }
 |i+1=>by
  have L:=wH I J hp (n:=n) (ns:=ns) i
  cases e:ps[i]? with
  |none=>
   have:ps.take (i+1)=ps.take i:=by rw[Q0q,e];exact Q1a _
   rw[this];exact L
  |some p=>
   have U:ps.take (i+1)=ps.take i++[p]:=by rw[Q0q,e];rfl
   rw[U,ED];exact L.step I J (hp p (Q0j e))
abbrev lA (Pt:Addr) (H H':Hp):Prop:=Kp (λc=>c=Pt) H H'
theorem wI {K:W.Frag}{P:Addr}{lp:Pos}{ql:Str}{j:Nat}{σ:L2.St}{Q:VK}{H:Hp}{pr pk pb:Addr}{vs:List V}{ms:List Ds}{fl:List (List Addr)}{key by_:Str}{fs:Fs}(hr:f_ K H pr vs)(J:gu H vs ms fl)(hl:vs.length<64)(hT:gy P lp ql H)(av:σ[j]? =some (some (.ref pk)))
 (aw:H pk=some (.tup [.str "rows",.str key,.str by_,.ref pb])) (U:∀m∈ms,lz fs m) (ac:fs.pl key) (aj:by_=""\/fs.pl by_) (ax:(ms.map λm=>keyOf m key).Nodup)
 (q:∀D ak al H',lA P H H'->gy P lp ql H'->H D=none->H' D=some (.lst ak)->gu H' ak (iL key by_ ms) al->al.Perm fl->Q (.ref D) H'):
 sW K P lp ql (nu nQ [] E0 (i5 (gJ (j+1)) (i5 (gJ 0) j2))) σ Q (.ref pr) H:=by
 obtain⟨ae,ap⟩:=A3.len J;refine⟨pr,vs,rfl,hr,hl,hT,λc' H2 ag mono=>?_⟩
 have np:∀I o,(∀ps,o≠ .iJ ps)->H I=some o->H2 I=some o:=λI o ho e=>by
  obtain⟨ay,az⟩:=hT.tab;exact mono I o (gR e az (ho ay)) e
 have am:Tu H H2:=λI ys e=>np I _ (by intro ps z;cases z) e
 have L:gu H2 vs ms fl:=gu.keep am J λI hc o e=>np I o (by
  intro ps z;rcases gu.mu J I hc with⟨_,q⟩|⟨_,q⟩ <;> rw[e] at q <;> rw[z] at q <;> cases q) e
 have aq:H2 pk=some (.tup [.str "rows",.str key,.str by_,.ref pb]):=am _ _ aw;refine⟨λks H3=>Same H2 H3/\ks.length<=vs.length/\oP H3 ks ((ms.map (rankOf key by_)).take ks.length),⟨Same.refl _,Q0g _,.nil⟩,λks H3 hw=>ag.mono λI o _ e=>hw.1 _ _ e,?_,?_⟩
 . rintro ks H3 yv ⟨s3,aA,aa⟩ hy;have an:ks.length<vs.length:=(List.getElem?_eq_some_iff.mp hy).1;have af:=A3.at (a0:=V.non) (b0:=Ds.nil) (c0:=[]) L ks.length an;have ey:vs.getD ks.length .non=yv:=by rw[Q05,hy];rfl
   rw[ey] at af
   have ar:ms.getD ks.length .nil∈ms:=by
    rw[Q05,Q03 (by omega)];exact Q0r _
   have Y:=Own.same s3 af;unfold Own at Y;obtain⟨rr,kvs,fq,rfl,aB,_,aC⟩:=Y;refine⟨_,av,_,rfl,pk,rr,pb,key,by_,fs,kvs,_,fq,rfl,s3 _ _ aq,aB,aC,U _ ar,ac,aj,λt ht=>⟨s3.trans (Same.new ht),by rw[Q09];exact an,?_⟩⟩
   have et:(ms.map (rankOf key by_)).take (ks++[V.ref t]).length=(ms.map (rankOf key by_)).take ks.length++[rankOf key by_ (ms.getD ks.length .nil)]:=by
    rw[Q09];show List.take (ks.length+1) _=_;rw[Q0q,Q0h,Q05,Q03 (by omega)];rfl
   rw[et];refine wx (Paired.qC aa λk kl z=>?_) ⟨t,rfl,gh⟩;obtain⟨pp,e,hh⟩:=z;exact⟨pp,e,by rw[d_ (gz hh ht)];exact hh⟩
 . rintro ks H3 ⟨s3,aA,aa⟩ au
   have aD:(ms.map (rankOf key by_)).take ks.length=ms.map (rankOf key by_):=by
    rw[au,ae,Q15 (by rw[Q0];exact Q00 _)]
   rw[aD] at aa;refine⟨_,aa,⟨if by_="" then [kz (fs.get key)] else [kz (fs.get by_),kz (fs.get key)],by split <;> simp,λkl aE=>?_⟩,λp hp hs D hD=>?_⟩
   . obtain⟨m,hm,rfl⟩:=List.mem_map.mp aE;exact wu (U m hm) ac aj
   have ah:∀i∈p,i<vs.length:=λi hi=>by
    have:=hp.mem_iff.mp hi;simpa using this
   have aH:p.Perm (List.range ms.length):=by rw[<-ae];exact hp
   have hz:(p.map λi=>ms.getD i .nil)=iL key by_ ms:=by
    refine vO (tF _ aH) ?_ ax;rw[Q12] at hs ⊢;refine List.Pairwise.imp_of_mem (λ{i j} hi hj h=>?_) hs;have aJ:=ah i hi;have aK:=ah j hj
    have ge:∀i,i<vs.length->(ms.map (rankOf key by_)).getD i []=rankOf key by_ (ms.getD i .nil):=λi hi=>by
     rw[Q05,Q05,Q0h,Q03 (by omega)];rfl
    rw[ge i aJ,ge j aK] at h;exact h
   have sD:Same H3 (upd H3 D (.lst (p.map λi=>vs.getD i .non))):=Same.new hD;have ab:gu (upd H3 D (.lst (p.map λi=>vs.getD i .non))) vs ms fl:=gu.keep (Tu.of (s3.trans sD)) L λI _ o e=>sD _ _ (s3 I o e);have ai:=A3.pick (a0:=V.non) (b0:=Ds.nil) (c0:=[]) ab p ah;have aL:(p.map λi=>fl.getD i []).Perm fl:=tF _ (by rw[<-ap];exact hp);have aM:D≠P:=λe=>by rw[e,s3 _ _ ag.1] at hD;cases hD
   have ao:=s3.free hD
   have aP:H D=none:=by
    cases e:H D with
    |none=>rfl
    |some o=>rw[mono D o aM e] at ao;cases ao
   exact q D _ _ _ (λI o nc e=>sD _ _ (s3 _ _ (mono I o nc e))) (.inr ⟨c',ag.mono λI o _ e=>sD _ _ (s3 _ _ e)⟩) aP gh (by rw[<-hz];exact ai) aL
noncomputable abbrev lB:Pos:=ub (top 19)
noncomputable abbrev lC:Str:=("in_order":Str)++".<locals>."++"<lambda>"
noncomputable abbrev l5:Pos:=ub (top 50)
noncomputable abbrev l6:Str:=("_law_sorted":Str)++".<locals>."++"<lambda>"
noncomputable abbrev nR:Pos:=ub (top 47)
noncomputable abbrev nS:Str:=("_law_some":Str)++".<locals>."++"<lambda>"
def uh (P:Addr) (U:Pos) (Y:Str):Sp:=λvs H Q _=>∃pk pr pb key by_ fs L ms fl,vs=[.ref pk,.ref pr]/\H pk=some (.tup [.str "rows",.str key,.str by_,.ref pb])/\H pr=some (.lst L)/\gu H L ms fl/\L.length<64/\gy P U Y H/\(∀m∈ms,lz fs m)/\fs.pl key/\(by_=""\/fs.pl by_)/\(ms.map λm=>keyOf m key).Nodup/\
 ∀D I J H',lA P H H'->gy P U Y H'->H D=none->H' D=some (.lst I)->gu H' I (iL key by_ ms) J->J.Perm fl->Q (.ref D) H'
abbrev Ld (b P I:Addr):Hp->Hp->Prop:=Kp (λc=>c=b\/c=P\/c=I)
def EF (K:W.Frag) (Pt Ps:Addr) (N:Nat):Sp:=λvs H Q _=>∃a b ns n pk pb xs key by_ fs pl,∃ps:List Key,∃room:Nat,vs=[.ref a,.ref b,.ref pk,.ref pl,.int room]/\G0 K H a b ns n/\gy Pt jm jn H/\gy Ps nR nS H/\Pt≠Ps/\H pk=some (.tup [.str "rows",.str key,.str by_,.ref pb])/\H pb=some (.tup xs)/\FA H xs fs/\(Kd.rows key by_ fs).W/\
 H pl=some (.lst (ps.map kV))/\pl≠b/\ps.length<=30/\(∀p∈ps,jo (fs.get key) p)/\ps.Nodup/\room<8/\mu (.iD fs) room<=N/\n+ps.length * ((fs.cB:Int)+1)<=1000000000000/\
 ∀D I J H',Ld b Pt Ps H H'->H' b=some (.lst [.int (iE ns key by_ fs room ps n).2])->gy Pt jm jn H'->gy Ps nR nS H'->H' D=some (.lst I)->gu H' I (iL key by_ (iE ns key by_ fs room ps n).1) J->(∀c∈D::J.flatten,H c=none)->Q (.ref D) H'
theorem EG:gQ Xd Xd (gp (top 19)):=g_
theorem Le {Pi c:Addr}(T:Tb mg)(L:Dn K mg "in_order" mx (top 19) U I)(ac:I.code=.ref c)(af:W.CodeHd base c Pi)(ag:BM mg base)(J:Dn K mg "rank" oW (top 18) Y aa)(ab:gc P w K mg base gf (1) Y aa oW (nQ)):gc P w K mg base gf (8) U I mx (uh Pi lB lC):=by
 refine L.F.oR ac EG (λvs H Q E h=>?_) (λA outer s H vs Q E hr h=>?_)
 . obtain⟨pk,pr,pb,key,by_,fs,ws,ms,fl,rfl,_⟩:=h;rfl
 obtain⟨pk,pr,pb,key,by_,fs,ws,ms,fl,rfl,ah,ai,ae,hl,hT,hf,hk,aj,ak,q⟩:=h;have nd:=EG.nd;refine⟨_,(gi (gw (sX (x:="row") (N':=["kind",""]) rfl T.mw boot_sorted hr rfl rfl af ag (kU.of (N:=Xd) (sc:=gp (top 19)) rfl rfl rfl rfl rfl (by decide +kernel)) rfl (λ_ _ _ _ _=>rfl) (pv 1) (λ_ _ _ _ _=>(qL ab (ig.deeper (k:=1) (ig.in1 (k:=2) (ig.in1 (k:=3) (hr.mono (by decide)))) _) rfl J.m J.F.kp J.b .nil lh (a_ (pv 1) (a_ (pv 0) b_))))))),?_⟩
 ac_rfl
 exact⟨_,rfl,wI (f_.of ai) ae hl hT rfl ah hf hk aj ak q⟩
theorem EH:gQ XV XV (gp (top 50)):=g_
theorem Lf {Po c:Addr}(T:Tb mg)(L:Dn K mg "_law_sorted" rn (top 50) U J)(ac:J.code=.ref c)(af:W.CodeHd base c Po)(ag:BM mg base)(I:Dn K mg "_law_rank" mT (top 40) Y aa)(ab:gc P w K mg base gf (1) Y aa mT (nQ)):gc P w K mg base gf (8) U J rn (uh Po l5 l6):=by
 refine L.F.oR ac EH (λvs H Q E h=>?_) (λA outer s H vs Q E hr h=>?_)
 . obtain⟨pk,pr,pb,key,by_,fs,ws,ms,fl,rfl,_⟩:=h;rfl
 obtain⟨pk,pr,pb,key,by_,fs,ws,ms,fl,rfl,ah,ai,ae,hl,hT,hf,hk,aj,ak,q⟩:=h;have nd:=EH.nd;refine⟨_,(gi (gw (sX (x:="_law_row") (N':=["_law_kind_here",""]) rfl T.mw boot_sorted hr rfl rfl af ag (kU.of (N:=XV) (sc:=gp (top 50)) rfl rfl rfl rfl rfl (by decide +kernel)) rfl (λ_ _ _ _ _=>rfl) (pv 1) (λ_ _ _ _ _=>(qL ab (ig.deeper (k:=1) (ig.in1 (k:=2) (ig.in1 (k:=3) (hr.mono (by decide)))) _) rfl I.m I.F.kp I.b .nil lh (a_ (pv 1) (a_ (pv 0) b_))))))),?_⟩
 ac_rfl
 exact⟨_,rfl,wI (f_.of ai) ae hl hT rfl ah hf hk aj ak q⟩
theorem qc {H:Hp}{p:Key}:Own H (kV p) (kD p) []:=by
 cases p <;> (unfold kV kD Own;exact⟨rfl,rfl⟩)
theorem qd {A B:TS}{D:Ends}{σ:L2.St}{H:Hp}(Pv:L2.St->Hp->Prop)(J:∀I H',Pv I H'->B D I H')(L:(∀I H',Pv I H'->B D I H')->A { D with nx:=B D } σ H):sg A B D σ H:=L J
theorem _root_.L2.gy.off {P:Addr}{I:Pos}{J:Str}{H H':Hp}(h:gy P I J H)(k:∀c o,(∀xs,o≠ .lst xs)->(∀L,o≠ .dK L)->H c=some o->H' c=some o):gy P I J H':=by
 rcases h with e|⟨c,e,f⟩
 . exact .inl (k _ _ (by intro xs z;cases z) (by intro xs z;cases z) e)
 . exact .inr ⟨c,k _ _ (by intro xs z;cases z) (by intro xs z;cases z) e,k _ _ (by intro xs z;cases z) (by intro xs z;cases z) f⟩
theorem Lg {α:Type}{l:List α}{x:α}(h:l[l.length - 1]? =some x):i8 l (-1)=some x:=by
 have hl:=(List.getElem?_eq_some_iff.mp h).1;unfold i8 mf;rw[if_neg (by decide),if_pos (by omega)];show l[((-1:Int)+(l.length:Int)).toNat]? =_;rw[show((-1:Int)+(l.length:Int)).toNat=l.length - 1 by omega];exact h
theorem _root_.L2.gy.kp {P J b:Addr}{lp L:Pos}{ql U:Str}{H H':Hp}{l:List V}(h:gy P lp ql H)(x:gP b J H H')(hb:H b=some (.lst l))(h':gy J L U H)(I:J≠P):gy P lp ql H':=by
 obtain⟨aa,Y⟩:=h'.tab;have k:∀c o,c≠J->(∀xs,o≠ .lst xs)->H c=some o->H' c=some o:=λc o hc ho e=>x c o (λz=>z.elim (λz=>by rw[z,hb] at e;cases e;exact ho _ rfl) hc) e;rcases h with e|⟨c,e,f⟩
 . exact .inl (k _ _ (Ne.symm I) (by intro xs z;cases z) e)
 . exact .inr ⟨c,k _ _ (Ne.symm I) (by intro xs z;cases z) e,k _ _ (gR f Y (by intro z;cases z)) (by intro xs z;cases z) f⟩
theorem _root_.L2.gy.o4 {P J:Addr}{U:Pos}{Y:Str}{H H':Hp}{ps:Array Value}(h:gy P U Y H)(x:lA J H H')(L:H J=some (.iJ ps))(I:J≠P):gy P U Y H':=by
 rcases h with e|⟨c,e,f⟩
 . exact .inl (x _ _ (Ne.symm I) e)
 . exact .inr ⟨c,x _ _ (Ne.symm I) e,x _ _ (gR f L (by intro z;cases z)) f⟩
theorem gj.EI {H:Hp}{x:Str}{v:V}{e:D}(U:Own H v e []):∀{m:Ds}{kvs:List (Key × V)}{J:List Addr},gj H kvs m J->∃I,gj H (kvs.map λL=>if L.1=Sum.inr x then(L.1,v) else L) (m.upd x e) I/\I.Sublist J
 | .nil,kvs,J,h=>by
   unfold gj at h;obtain⟨rfl,rfl⟩:=h;exact⟨[],by unfold Ds.upd gj;exact⟨rfl,rfl⟩,List.Sublist.refl _⟩
 | .cons y d r,kvs,J,h=>by
   unfold gj at h;obtain⟨u,q,f1,f2,rfl,rfl,ho,hr⟩:=h;obtain⟨f3,Y,s3⟩:=gj.EI U hr;show ∃I,gj H ((if(Sum.inr y:Key)=Sum.inr x then(Sum.inr y,v) else(Sum.inr y,u))::q.map _) (.cons y (if y=x then e else d) (r.upd x e)) I/\_;by_cases ex:y=x
   . refine⟨[]++f3,?_,s3.trans (Q3i _ _)⟩;rw[if_pos ex,if_pos (by rw[ex])];unfold gj;exact⟨_,_,[],f3,rfl,rfl,U,Y⟩
   . refine⟨f1++f3,?_,List.Sublist.append (List.Sublist.refl _) s3⟩;rw[if_neg ex,if_neg (λz=>ex (Sum.inr.inj z))];unfold gj;exact⟨_,_,f1,f3,rfl,rfl,ho,Y⟩
theorem gj.ui {H:Hp}{x:Str}{v:V}{e:D}{m:Ds}{kvs:List (Key × V)}{J:List Addr}(h:gj H kvs m J)(L:Own H v e [])(U:x∈m.names):∃I,gj H (putK kvs (Sum.inr x) v) (m.upd x e) I/\I.Sublist J:=by
 unfold putK;rw[if_pos]
 . exact h.EI L
 . rw[Q2o];have:(Sum.inr x:Key)∈kvs.map (·.1):=by rw[gj.keys m h];exact Q0y U
   obtain⟨Y,h1,h2⟩:=List.mem_map.mp this;exact⟨Y,h1,decide_eq_true h2⟩
theorem Lh {kvs:List (Key × V)}{x:Str}{v:V}{m:Ds}{H:Hp}{J:List Addr}(h:gj H kvs m J)(I:x∈m.names):(putK kvs (Sum.inr x) v).length=kvs.length:=by
 obtain⟨U,h',_⟩:=h.ui (v:=.non) (e:=.non) (by unfold Own;exact⟨rfl,rfl⟩) I;unfold putK;rw[if_pos]
 . rw[Q0]
 . rw[Q2o];have:(Sum.inr x:Key)∈kvs.map (·.1):=by rw[gj.keys m h];exact Q0y I
   obtain⟨L,h1,h2⟩:=List.mem_map.mp this;exact⟨L,h1,decide_eq_true h2⟩
theorem EJ:gQ XN Xh (gp (top 47)):=g_
theorem Li {Pt Ps c:Addr}(N:Nat)(T:Tb mg)(am:Dn K mg "_law_some" rq (top 47) an Y)(bd:Y.code=.ref c)(bH:W.CodeHd base c Ps)(bI:BM mg base)(ao:Dn K mg "_law_next" gL (top 32) ap aq)(ar:gc P w K mg base gf (1) ap aq gL (nL K))(J:Dn K mg "_law_rank" mT (top 40) au av)(aw:gc P w K mg base gf (1) au av mT (nQ))(ae:Dn K mg "_law_value" jB (top 42) af ag)(ah:gc P w K mg base gf (2 * N+5) af ag jB (oZ K Pt N)):gc P w K mg base gf (2 * N+8) an Y rq (EF K Pt Ps N):=by
 refine am.F.oR bd EJ (λvs H Q E h=>?_) (λA outer s H vs Q E hr h=>?_)
 . obtain⟨a,b,ns,n,pk,pb,xs,key,by_,fs,pl,ps,room,rfl,_⟩:=h;rfl
 obtain⟨a,b,ns,n,pk,pb,xs,key,by_,fs,pl,ps,room,rfl,g,hT,hS,bg,a7,bJ,bK,hW,a8,bz,cg,bL,bM,aA,bN,hn,q⟩:=h;have nd:=EJ.nd;have hu:=qU hr
 refine⟨_,(e_ (gA 5 nd (iV b_))
  (e_ (jk PassesOwn.never rfl (kP (pv 3)) (gY (i:=6) nd rfl iG) (e_ (gA 7 nd (gv ar hr ao (a_ (pv 0) (a_ (pv 1) b_))))
  (gi (gF (gE nr (gn ir (pv 7) c_) c_ (gC _)) (e_ (gA 8 nd (gv ah hr ae (a_ (pv 0) (a_ (pv 1) (a_ (iP (a_ gW (a_ (gq (pv 2) c_) b_))) (a_ (pv 4) b_))))))
  (e_ (gF (PW.pt (m_ (gE j1 (gq (pv 2) c_) gW (gC _)) (m_ (gE nr (ij jr (by rfl) T.ja PySem.boot_len (a_ (pv 5) b_)) c_ (gC _)) (oq (gE iu (gn ir (gn jc (pv 7) c_) c_) c_ (gC _)))))) (gi (mJ hu (pv 8) (gq (pv 2) c_) (i6 hu (ju (pv 5) (HS HW c_)) (gq (pv 2) c_) (λ_ _=>rfl)) rfl)) gH)
  (e_ (mJ hu (pv 8) (gq (pv 2) c_) (pv 6) rfl)
  (gi (kh (lg PySem.F.plainAttrs_list PySem.F.slot_list_append PySem.F.type_list_append mi (pv 5) (a_ (pv 8) b_))))))) gH))))
  (gi (gw (sX (x:="_law_row") (N':=["","","_law_kind_here","","","","","",""]) rfl T.mw boot_sorted hr rfl rfl bH bI (kU.of (N:=XN) (sc:=gp (top 47)) rfl rfl rfl rfl rfl (by decide +kernel)) rfl (λ_ _ _ _ _=>rfl) (pv 5) (λ_ _ _ _ _=>(qL aw (ig.deeper (k:=1) (ig.in1 (k:=2) (ig.in1 (k:=3) (hr.mono (by omega)))) _) rfl J.m J.F.kp J.b .nil lh (a_ (pv 3) (a_ (pv 0) b_))))))))),?_⟩
 ac_rfl
 have bh:=λi=>wH (ns:=ns) (n:=n) hW aA bL i;have ci:=hW;unfold Kd.W at hW;obtain⟨bO,bP,bi,a4,bj⟩:=hW;have hb:=g.at_;obtain⟨cj,hP⟩:=hT.tab;refine⟨mR,λpr a1=>?_⟩;have s0:Same H (upd H pr (.lst [])):=Same.new a1;have a9:b≠pr:=gz hb a1;have k9:Pt≠pr:=gz hP a1;have bm:∃o,H b=some o:=⟨_,hb⟩;refine⟨_,rfl,pl,rfl,⟨_,f_.of (s0 _ _ a8)⟩,oB (xs:=ps.map kV) (λi σ H'=>∃x y z vs fl,σ=[some (.ref a),some (.ref b),some (.ref pk),some (.ref pl),some (.int room),some (.ref pr),x,y,z]/\gP b Pt H H'/\H' b=some (.lst [.int (iE ns key by_ fs room (ps.take i) n).2])/\gy Pt jm jn H'/\H' pr=some (.lst vs)/\gu H' vs (iE ns key by_ fs room (ps.take i) n).1 fl/\(∀c∈fl.flatten,H c=none/\c≠pr)/\vs.length<=i) ?_ ?_ ?_ ?_⟩
 . rw[Q2n];exact⟨_,_,_,[],[],rfl,Kp.of s0,s0 _ _ hb,hT.same s0,gh,.nil,λc hc=>absurd hc (by simp),Q00 _⟩
 . intro i σ H' _ zq;obtain⟨x,y,z,vs,fl,rfl,kp,_⟩:=zq;exact f_.of (kp pl _ (λz=>z.elim bz (gR a8 hP (by intro z;cases z))) a8)
 . intro i v σ H' hv zq;obtain⟨x,y,z,vs,fl,rfl,kp,ai,aH,aM,ac,az,bn⟩:=zq;obtain⟨p,hp,rfl⟩:=Option.map_eq_some_iff.mp (List.getElem?_map.symm.trans hv);have hi:i<ps.length:=(List.getElem?_eq_some_iff.mp hp).1;have so:=bh i;have add:=Lc (ns:=ns) (key:=key) (by_:=by_) (fs:=fs) (room:=room) (n:=n) hp;have bQ:(ps.take i).length=i:=by rw[Q0l];omega
   have e1:((i+1:Nat):Int) * ((fs.cB:Int)+1)=(i:Int) * ((fs.cB:Int)+1)+(fs.cB+1):=by
    rw[Q20,Q21];simp
   have cd:((i+1:Nat):Int) * ((fs.cB:Int)+1)<=(ps.length:Int) * ((fs.cB:Int)+1):=Q1u (by omega) (by omega);have bR:=so.lo;have bS:=so.hi;rw[bQ] at bS;have cm:=g.pos;have bA:=so.ok;generalize iE ns key by_ fs room (ps.take i) n=I at *;generalize iE ns key by_ fs room (ps.take (i+1)) n=cn at *;have bo:Tu H H':=kp.tu hb hT;refine⟨_,rfl,_,rfl,a,b,ns,I.2,rfl,gP.g0 kp g hT ai bR,by omega,λH1 s1 h1=>?_⟩;have aJ:gP b Pt H H1:=kp.trans (SB.gX s1);have a2:gy Pt jm jn H1:=aH.sb ai s1;have aP:H1 pr=some (.lst vs):=s1 pr _ (Ne.symm a9) aM;have ak:gu H1 vs I.1 fl:=gu.gX (SB.gX s1) ai aH bm ac λc hc=>(az c hc).1;unfold p_ at add;refine⟨_,rfl,_,_,rfl,rfl,(by show(0:Int)<_;decide),_,_,rfl,rfl,_,rfl,h_ (λc=>?_) (λc=>?_)⟩
   . have c:0<nx ns (I.2+1) % 3:=of_decide_eq_true c;rw[if_pos c] at add;have ba:Tu H H1:=aJ.tu hb hT;refine⟨_,rfl,_,rfl,_,rfl,pk,_,_,_,rfl,rfl,f9.of (ba _ _ a7),rfl,i3,λt ht=>?_⟩;have st:Same H1 (upd H1 t (.tup [.str "record",.ref pb])):=Same.new ht
     have bT:KA (upd H1 t (.tup [.str "record",.ref pb])) (.ref t) (.iD fs):=by
      unfold KA;exact⟨t,pb,xs,rfl,gh,st _ _ (ba _ _ bJ),FA.mono (ba.trans (Tu.of st)) fs bK⟩
     refine⟨_,rfl,a,b,ns,I.2+1,.ref t,.iD fs,room,rfl,gP.g0 (aJ.trans (Kp.of st)) g hT (st _ _ h1) (by omega),a2.same st,bT,(by unfold Kd.W;exact⟨bO,bP,bi⟩),aA,bN,(by simp only[kc,Kd.cB];omega),?_⟩;intro v H2 fp gX bp bU aQ bB bC;have ev:val ns (.iD fs) room (I.2+1)=(.dct (gI ns fs room (I.2+1)).1,(gI ns fs room (I.2+1)).2):=by simp only[val]
     rw[ev] at bp aQ;have ax:=oU ns fs bi room (I.2+1) aA;generalize gI ns fs room (I.2+1)=bb at *;have aT:gP b Pt H1 H2:=(Kp.of st).trans gX;have aY:gP b Pt H H2:=aJ.trans aT;have bV:Tu H H2:=aY.tu hb hT;have ay:H2 pr=some (.lst vs):=aT pr _ (λz=>z.elim (Ne.symm a9) (Ne.symm k9)) aP;have U:gu H2 vs I.1 fl:=gu.gX aT h1 a2 bm ak λc hc=>(az c hc).1;unfold Own at aQ;obtain⟨rr,kvs,fq,rfl,aK,rfl,a3⟩:=aQ;have aE:=bV _ _ a7
     have ab:∀c∈rr::fq,H c=none/\c≠pr/\H1 c=none:=λc hc=>by
      have z:=st.free (bC c hc);have nb:c≠b:=λe=>by rw[e,h1] at z;cases z
      obtain⟨co,bW⟩:=a2.tab;have nP:c≠Pt:=λe=>by rw[e,bW] at z;cases z
      exact⟨aJ.rh (λe=>e.elim nb nP) z,(λe=>by rw[e,aP] at z;cases z),z⟩
     have bD:b≠rr:=λe=>by have:=(ab rr Q02).1;rw[<-e,hb] at this;cases this
     have ce:Pt≠rr:=λe=>by have:=(ab rr Q02).1;rw[<-e,hP] at this;cases this
     have aB:pr≠rr:=λe=>(ab rr Q02).2.1 e.symm
     have bX:∀c∈fl.flatten,c≠rr:=λc hc e=>by
      obtain⟨o,eo⟩:=(gu.mu ak c hc).ex;have:=(ab rr Q02).2.2;rw[<-e,eo] at this;cases this
     have bY:rr ∉ fq:=(List.nodup_cons.mp bB).1
     have al:∀{x:Str},fs.pl x->∀{m:Ds},m.names=fs.names->x∈m.names:=λhx m hm=>by
      obtain⟨k,e,_⟩:=hx;rw[hm];exact Fs.p9 e
     have bq:∀L:List (Key × V),L.length=kvs.length->L.length<sizeLine:=λL e=>by
      rw[e,gj.len a3,ax.names];exact iF (by omega)
     dsimp only[iH]
     refine qd (A:=lP _ _ _) (λbr H3=>∃L aL,∃m1:Ds,br=[some (.ref a),some (.ref b),some (.ref pk),some (.ref pl),some (.int room),some (.ref pr),some (kV p),some (.int (nx ns (I.2+1))),some (.ref rr)]/\H3 rr=some (.dK L)/\(∀c,c≠rr->H3 c=H2 c)/\gj H2 L m1 aL/\aL.Sublist fq/\m1.names=fs.names/\L.length=kvs.length/\
      m1=(if by_≠""/\I.1≠[]/\nx ns (I.2+1) / 3 % 2=0 then bb.1.upd by_ (kD (keyOf (I.1.getLastD .nil) by_)) else bb.1)) ?_ (λhB=>?_)
     . intro br H3 zq;obtain⟨L,aL,m1,rfl,h3,aC,aU,aj,bE,be,bZ⟩:=zq;have b1:Tu H2 H3:=λc xs e=>by rw[aC c (gR e aK (by intro z;cases z))];exact e
       have b2:=al a4 bE;refine⟨_,rfl,_,rfl,_,rfl,pk,_,_,_,rfl,rfl,f9.of (b1 _ _ aE),rfl,rr,_,rfl,km.k (k:=Sum.inr key) h3 (bq _ be),?_⟩;have bF:H3 pr=some (.lst vs):=by rw[aC pr aB];exact ay
       have a5:upd H3 rr (.dK (putK L (Sum.inr key) (kV p))) pr=some (.lst vs):=by rw[d_ aB];exact bF
       refine⟨_,rfl,.inl ⟨rfl,_,f_.of a5⟩,_,rfl,pr,_,_,rfl,rfl,a5,iF (by omega),?_⟩;obtain⟨bc,bG,aZ⟩:=aU.ui (v:=kV p) (e:=kD p) qc b2;have aa:∀c,c≠rr->c≠pr->upd (upd H3 rr (.dK (putK L (Sum.inr key) (kV p)))) pr (.lst (vs++[.ref rr])) c=H2 c:=λc n1 n2=>by rw[d_ n2,d_ n1,aC c n1]
       have bt:Tu H2 (upd (upd H3 rr (.dK (putK L (Sum.inr key) (kV p)))) pr (.lst (vs++[.ref rr]))):=λc xs e=>by
        rw[aa c (gR e aK (by intro z;cases z)) (gR e ay (by intro z;cases z))];exact e
       rw[add];refine⟨_,_,_,vs++[.ref rr],fl++[rr::bc],rfl,λc o nc e=>?_,by rw[aa b bD a9];exact bp,bU.off (λc o h1 h2 e=>?_),gh,?_,?_,by rw[Q09];show vs.length+1<=i+1;omega⟩
       . rw[aa c (λz=>by have:=(ab rr Q02).1;rw[<-z,e] at this;cases this) (gz e a1)];exact aY c o nc e
       . rw[aa c (λz=>by rw[z,aK] at e;cases e;exact h2 _ rfl) (λz=>by rw[z,ay] at e;cases e;exact h1 _ rfl)];exact e
       . refine A3.snoc ?_ (gu.keep bt U λc hc o e=>by rw[aa c (bX c hc) (az c hc).2];exact e);unfold Own;refine⟨rr,_,bc,rfl,by rw[d_ (Ne.symm aB)];exact gh,rfl,?_⟩;rw[<-bZ]
         exact bG.keep bt _ λc hc o e=>by
          have bu:=aj.subset (aZ.subset hc);rw[aa c (λz=>bY (by rw[<-z];exact bu)) (ab c (Q07 _ bu)).2.1];exact e
       . intro c hc;rw[Q14] at hc;rcases List.mem_append.mp hc with z|z
         . exact az c z
         . have z:c∈rr::bc:=by simpa using z
           have:c∈rr::fq:=by
            rcases List.mem_cons.mp z with e|e
            . rw[e];exact Q02
            . exact Q07 _ (aj.subset (aZ.subset e))
           exact⟨(ab c this).1,(ab c this).2.1⟩
     . have aV:∀z:¬(by_≠""/\I.1≠[]/\nx ns (I.2+1) / 3 % 2=0),_:=λz=>hB _ _ ⟨kvs,fq,bb.1,rfl,aK,λ_ _=>rfl,a3,List.Sublist.refl _,ax.names,rfl,(if_neg z).symm⟩;refine⟨_,rfl,pk,_,_,_,rfl,rfl,f9.of aE,rfl,rfl,_,rfl,h_ (λc1=>?_) (λc1=>?_)⟩
       . refine⟨_,rfl,pr,_,rfl,.inl (f_.of ay),_,_,rfl,rfl,_,rfl,h_ (λc2=>?_) (λc2=>?_)⟩
         . refine⟨_,rfl,_,_,rfl,rfl,⟨by decide,by decide⟩,_,_,rfl,rfl,(by show(0:Int)<2;decide),rfl,_,rfl,h_ (λc3=>?_) (λc3=>aV λz=>c3 (decide_eq_true (show V.int (nx ns (I.2+1) / 3 % 2)=V.int 0 by rw[z.2.2])))⟩;have d1:by_≠"":=λz=>by rw[z] at c1;exact absurd c1 (by decide)
           have d3:nx ns (I.2+1) / 3 % 2=0:=by
            have this:V.int (nx ns (I.2+1) / 3 % 2)=V.int 0:=of_decide_eq_true c3;injection this
           have a6:0<vs.length:=by have:=of_decide_eq_true c2;omega
           obtain⟨aW,cf⟩:=A3.len U;have aD:=A3.at (a0:=V.non) (b0:=Ds.nil) (c0:=[]) U (vs.length - 1) (by omega);have hg:vs[vs.length - 1]? =some (vs.getD (vs.length - 1) .non):=by rw[Q05,Q03 (by omega)];rfl
           have d2:I.1≠[]:=λz=>by rw[z] at aW;rw[aW] at a6;exact absurd a6 (by decide)
           have b3:I.1.getD (vs.length - 1) .nil=I.1.getLastD .nil:=by
            rw[aW,Q05,List.getLastD_eq_getLast?,List.getLast?_eq_getElem?]
           have b4:I.1.getLastD .nil∈I.1:=EE d2;rw[b3] at aD;generalize vs.getD (vs.length - 1) .non=lv at *;unfold Own at aD;obtain⟨rl,cp,cq,rfl,b5,_,b6⟩:=aD;have aX:fs.pl by_:=bj.resolve_left d1;have gl:il H2 rl (.str by_) (some (kV (keyOf (I.1.getLastD .nil) by_))):=by have:=il.k (k:=Sum.inr by_) b5;rw[b6.key (bA _ b4).1 aX] at this;exact this
           obtain⟨aL,aU,aj⟩:=a3.ui (v:=kV (keyOf (I.1.getLastD .nil) by_)) (e:=kD (keyOf (I.1.getLastD .nil) by_)) qc (al aX ax.names);refine⟨_,rfl,_,rfl,pr,_,_,_,rfl,rfl,f_.of ay,Lg hg,_,rfl,pk,_,_,_,rfl,rfl,f9.of aE,rfl,rl,_,rfl,gl,_,rfl,_,rfl,pk,_,_,_,rfl,rfl,f9.of aE,rfl,rr,_,rfl,km.k (k:=Sum.inr by_) aK (bq _ rfl),?_⟩;exact hB _ _ ⟨_,aL,_,rfl,gh,λc hc=>d_ hc,aU,aj,by rw[Ds.wC];exact ax.names,Lh a3 (al aX ax.names),(if_pos ⟨d1,d2,d3⟩).symm⟩
         . refine aV λz=>c2 (decide_eq_true ?_);have:=(A3.len U).1;have hp:0<I.1.length:=List.length_pos_iff.mpr z.2.1;omega
       . refine aV λz=>c1 ?_;rw[decide_eq_false (λe=>z.1 (by injection e))];rfl
   . have c:¬0<nx ns (I.2+1) % 3:=λz=>c (decide_eq_true z);rw[if_neg c] at add;rw[add];exact⟨_,_,_,vs,fl,rfl,aJ,h1,a2,aP,ak,az,by omega⟩
 . intro σ H' zq;obtain⟨x,y,z,vs,fl,rfl,kp,ai,aH,aM,ac,az,bn⟩:=zq;rw[Q0] at ai ac bn;have so:=bh ps.length;rw[Q0p] at ai ac so;have bo:Tu H H':=kp.tu hb hT;have bv:=hS.kp kp hb hT bg;refine⟨_,rfl,wI (f_.of aM) ac (by omega) bv rfl (bo _ _ a7) (λm hm=>(so.ok m hm).1.p) a4 bj (so.keys.nodup bM) λD b7 b8 H2 gX b9 hD ca U bf=>?_⟩;obtain⟨cr,bw⟩:=bv.tab;have cb:b≠Ps:=gR ai bw (by intro z;cases z);refine q D b7 b8 H2 (λc o nc e=>gX c o (λz=>nc (.inr (.inr z))) (kp c o (λz=>nc (z.elim .inl λz=>.inr (.inl z))) e)) (gX b _ cb ai) ?_ b9 ca U (λc hc=>?_)
   . obtain⟨cc,bx⟩:=aH.tab;exact aH.o4 gX bw (Ne.symm bg)
   . rcases List.mem_cons.mp hc with z|z
     . rw[z];obtain⟨cc,bx⟩:=aH.tab;exact kp.rh (λe=>e.elim (λe=>by rw[e,ai] at hD;cases hD) (λe=>by rw[e,bx] at hD;cases hD)) hD
     . exact(az c ((vV bf).mem_iff.mp z)).1
theorem Fs.get_mem:∀{fs:Fs}{x:Str}{k:Kd},fs.get x=some k->x∈fs.names
 | .nil,_,_,h=>by cases h
 | .cons y q r,x,k,h=>by
   have h:(if x=y then some q else r.get x)=some k:=h;by_cases e:x=y
   . rw[e];exact Q02
   . rw[if_neg e] at h;exact Q07 _ (Fs.get_mem h)
theorem wJ:∀{fs:Fs}{x:Str}{v:D},lu fs x v->∃k,fs.get x=some k/\ia k v
 | .nil,_,_,h=>by unfold lu at h;exact h.elim
 | .cons y k r,x,v,h=>by
   unfold lu at h;rcases h with⟨e,f⟩|⟨e,h⟩
   . exact⟨k,by show(if x=y then some k else r.get x)=_;rw[if_pos e],f⟩
   . obtain⟨I,J,L⟩:=wJ h;exact⟨I,by show(if x=y then some k else r.get x)=_;rw[if_neg e];exact J,L⟩
theorem Fs.wK:∀{fs:Fs}{x:Str}{k:Kd},fs.W->fs.get x=some k->k.W
 | .nil,_,_,_,h=>by cases h
 | .cons y q r,x,k,w,h=>by
   unfold Fs.W at w;have h:(if x=y then some q else r.get x)=some k:=h;by_cases e:x=y
   . rw[if_pos e] at h;cases h;exact w.1
   . rw[if_neg e] at h;exact Fs.wK w.2.2 h
theorem uk {K:PySem.W.Frag}{a:Addr}{xs:List V}{g:TG}{tb:TS}{D:Ends}{σ:St}{H:Hp}(Pv:Nat->St->Hp->Prop)(Y:Pv 0 σ H)(hl:∀i σ H,i<=xs.length->Pv i σ H->f_ K H a xs)
 (hs:∀(i:Nat) y σ H p,xs[i]? =some y->Pv i σ H->H p=none->g (.ref p) σ (upd H p (.tup [.int i,y])) λI H2=>tb { D with nx:=Pv (i+1),ct:=Pv (i+1),bk:=D.nx } I H2) (hd:∀σ H,Pv xs.length σ H->D.nx σ H):
 ∃W:Nat->Nat->St->Hp->Prop,(∃m,W 0 m σ H)/\∀i m σ H,W i m σ H->
  ((Ite K a).stop i H/\D.nx σ H)\/((Ite K a).go i H/\∃N:St->Hp->Prop,(∀J H',N J H'->∃U,U<m/\W (i+1) U J H')/\∀x H',(Ite K a).lV i H x H'->g x σ H' λI H2=>tb { D with nx:=N,ct:=N,bk:=D.nx } I H2):=by
 refine⟨λi m σ H=>m=xs.length - i/\i<=xs.length/\Pv i σ H,⟨xs.length,by simp,Q0g _,Y⟩,?_⟩;rintro i m σ H ⟨rfl,hi,p⟩;by_cases L:i<xs.length
 . refine .inr ⟨⟨xs,xs[i],hl i σ H hi p,by simp[L]⟩,Pv (i+1),λJ H' p'=>⟨xs.length - (i+1),by omega,rfl,L,p'⟩,λx H' y=>?_⟩;obtain⟨q,y,hq,rfl,hy,rfl⟩:=y;exact hs i y σ H q (hy xs (hl i σ H hi p)) p hq
 . have e:i=xs.length:=by omega
   subst e;exact .inl ⟨⟨xs,hl _ σ H (Q00 _) p,Q00 _⟩,hd σ H p⟩
def um:Sp:=λvs H Q _=>∃b x xs fs k,vs=[.ref b,.str x]/\H b=some (.tup xs)/\FA H xs fs/\fs.names.Nodup/\fs.get x=some k/\∀u,KA H u k->u≠ .non->Q u H
def wM:Sp:=λvs H Q _=>∃a x y,vs=[.ref a]/\H a=some (.tup [x,y])/\Q (.bl true) H
def EK:Sp:=λvs H Q _=>∃b a xs kvs fs m I,vs=[.ref b,.ref a]/\H b=some (.tup xs)/\FA H xs fs/\fs.names.Nodup/\fs.names.length<=12/\H a=some (.dK kvs)/\gj H kvs m I/\nN fs m/\∀H',Same H H'->Q (.bl true) H'
def nU (n:Nat):Sp:=λvs H Q _=>∃I v k d J,vs=[I,v]/\KA H I k/\k.W/\Own H v d J/\mW k d/\d.dep<=n/\d.Sm/\∀H',Same H H'->Q .non H'
def wN (n:Nat):Sp:=λvs H Q _=>∃b a xs kvs fs m I,vs=[.ref b,.ref a]/\H b=some (.tup xs)/\FA H xs fs/\fs.names.Nodup/\fs.names.length<=12/\fs.W/\H a=some (.dK kvs)/\gj H kvs m I/\nN fs m/\m.dep<=n/\m.Sm/\∀H',Same H H'->Q .non H'
def EL (n:Nat):Sp:=λvs H Q _=>∃pk pb a xs key by_ fs ys I J,vs=[.ref pk,.ref a]/\H pk=some (.tup [.str "rows",.str key,.str by_,.ref pb])/\H pb=some (.tup xs)/\FA H xs fs/\(Kd.rows key by_ fs).W/\H a=some (.lst ys)/\gu H ys I J/\(∀m∈I,nN fs m)/\I.Pairwise (kr key by_)/\(I.map λm=>keyOf m key).Nodup/\(∀m∈I,m.dep<=n)/\(∀m∈I,m.Sm)/\ys.length<=100/\∀H',Same H H'->Q .non H'
def rF (n:Nat):Sp:=λvs H Q _=>∃a u v k d I,vs=[.ref a,v]/\H a=some (.tup [.str "tree",u])/\KA H u k/\k.W/\Own H v d I/\Tree (ia k) d/\d.dep<=n/\d.Sm/\∀H',Same H H'->Q .non H'
def EM (n:Nat):Sp:=λvs H Q _=>∃b t x v xs fs d I,vs=[.ref b,.ref t]/\H b=some (.tup xs)/\FA H xs fs/\fs.names.Nodup/\fs.W/\H t=some (.tup [.str x,v])/\Own H v d I/\lu fs x d/\d.dep<=n/\d.Sm/\∀H',Same H H'->Q .non H'
theorem KA.Lj {H:Hp}:∀{u:V}{k:Kd},KA H u k->u≠ .non
 |_,.num,h=>by unfold KA at h;obtain⟨a,rfl,_⟩:=h;intro z;cases z
 |_,.iz,h=>by unfold KA at h;obtain⟨a,rfl,_⟩:=h;intro z;cases z
 |_,.iD _,h=>by unfold KA at h;obtain⟨a,b,vs,rfl,_⟩:=h;intro z;cases z
 |_,.rows _ _ _,h=>by unfold KA at h;obtain⟨a,b,vs,rfl,_⟩:=h;intro z;cases z
 |_,.tree _,h=>by unfold KA at h;obtain⟨a,b,rfl,_⟩:=h;intro z;cases z
 |_,.jd _,h=>by unfold KA at h;obtain⟨a,b,vs,rfl,_⟩:=h;intro z;cases z
theorem Lk:gQ ["fields","name","pair"] ["fields","name"] (gp (top 7)):=g_
theorem EN (T:Tb mg)(I:Dn K mg "kind_at" mU (top 7) J L):gc P w K mg base gf (1) J L mU (um):=by
 refine I.F.ok Lk λvs H Q E h=>?_;obtain⟨b,x,xs,fs,k,rfl,hb,aa,ac,U,q⟩:=h;refine⟨rfl,λaf A outer s nd hr hu=>?_⟩
 refine⟨_,(e_ (jk PassesOwn.never rfl (lb (pv 0)) (gY (i:=2) nd rfl iG) (gi (gF (gE iu (gq (pv 2) c_) (pv 1) (gC _)) (gi (gw (gq (pv 2) c_))) gH)))
  (gi (gw jH))),?_⟩
 ac_rfl
 refine⟨_,rfl,b,rfl,⟨_,f9.of hb⟩,sE (xs:=xs) (λi σ H'=>H'=H/\(∃z,σ=[some (.ref b),some (.str x),z])/\∀j,j<i->fs.names[j]? ≠some x) ⟨rfl,⟨_,rfl⟩,λj hj=>absurd hj (by omega)⟩ ?_ ?_ ?_⟩
 . rintro i σ H' _ ⟨rfl,_⟩;exact f9.of hb
 . rintro i v σ H' hv ⟨rfl,⟨z,rfl⟩,Y⟩;obtain⟨c,u,nm,k',rfl,ab,hc,hk⟩:=FA.get fs aa hv;have ae:fs.names[i]? =some nm:=by rw[Fs.mr,ab];rfl
   refine⟨_,rfl,c,_,_,_,rfl,rfl,f9.of hc,rfl,_,rfl,rfl,_,rfl,h_ (λcc=>?_) (λcc=>?_)⟩
   . have e:nm=x:=by
      have:=of_decide_eq_true cc;injection this
     subst e;have ek:=Fs.oS ac ab;rw[U] at ek
     cases ek;exact⟨_,rfl,c,_,_,_,rfl,rfl,f9.of hc,rfl,q u hk hk.Lj⟩
   . refine⟨rfl,⟨_,rfl⟩,λj hj=>?_⟩;by_cases e:j<i
     . exact Y j e
     . have:j=i:=by omega
       subst this;rw[ae];intro z
       cases z;exact cc (decide_eq_true rfl)
 . rintro σ H' ⟨rfl,_,Y⟩;obtain⟨j,hj,e⟩:=Q10 (Fs.get_mem U);exact absurd (by rw[Q03 hj,e]) (Y j (by rw[FA.len fs aa];exact hj))
theorem Ll:gQ ["value"] ["value"] (gp (top 15)):=g_
theorem Lm (T:Tb mg)(I:Dn K mg "is_pair" oX (top 15) J L):gc P w K mg base gf (1) J L oX (wM):=by
 refine I.F.ok Ll λvs H Q E h=>?_;obtain⟨a,x,y,rfl,U,q⟩:=h;refine⟨rfl,λY A outer s nd hr hu=>?_⟩;refine⟨_,(gi (gw (ng (ij j6 (by rfl) T.j8 boot_isinstance (a_ (pv 0) (a_ (jY (v:=.ty "tuple") rfl T.nJ boot_tuple rfl) b_))) (ot (mH iu (ij jr (by rfl) T.ja PySem.boot_len (a_ (pv 0) b_)) c_ (gC _)))))),?_⟩
 ac_rfl
 refine⟨_,rfl,_,_,_,true,rfl,.tup U,rfl,true,rfl,i_ ?_⟩;exact⟨_,rfl,a,_,rfl,.inr (f9.of U),rfl,q⟩
theorem Ln:gQ XO XO (gp (top 13)):=g_
theorem Lo (T:Tb mg)(I:Dn K mg "has_just" ly (top 13) J L):gc P w K mg base gf (1) J L ly (EK):=by
 refine I.F.ok Ln λvs H Q E h=>?_;obtain⟨b,a,xs,kvs,fs,m,fp,rfl,hb,U,ab,hx,ha,hO,hF,q⟩:=h;refine⟨rfl,λae A outer s nd hr hu=>?_⟩;refine⟨_,(gi (gw (ng (mH iu (ij Cz (by rfl) T.ja PySem.boot_len (a_ (pv 1) b_)) (ij jr (by rfl) T.ja PySem.boot_len (a_ (pv 0) b_)) (gC _)) (ot (ij (vw rfl) (by rfl) T.vY boot_all (a_ (kT (g:=(su K 2 (ow (iH 0) (ow (iH 1) sr)))) (tt:=mK) (te:=_) (own:=["name","inner"]) rfl (jE (N:=XO) (sc:=gp (top 13))) (lb (pv 0)) (λ_ _ _ _ _=>(lU rfl (ji (gY (i:=0) (show(["name","inner","fields","record"]:List Str).Nodup by decide +kernel) rfl (Or.inl rfl) (.inr rfl)) (ji (gY (i:=1) (show(["name","inner","fields","record"]:List Str).Nodup by decide +kernel) rfl (Or.inl rfl) (.inr rfl)) lQ)))) (λ_ _ _ _ _=>oJ) (λ_ _ _ _ _=>(Ho (vi hu (pv 0) (pv 3)) (by with_unfolding_all rfl)))) b_)))))),?_⟩
 ac_rfl
 have e1:kvs.length=xs.length:=by rw[gj.len hO,FA.len fs U,hF.1]
 have af:xs.length<=12:=by rw[FA.len fs U];exact hx
 refine⟨_,rfl,a,_,rfl,ha,_,rfl,b,_,rfl,.inr (f9.of hb),rfl,_,rfl,?_⟩;rw[decide_eq_true (show V.int (kvs.length:Nat)=V.int (xs.length:Nat) by rw[e1])];refine i_ ?_;refine⟨_,rfl,b,rfl,⟨_,f9.of hb⟩,λi m ys H'=>H'=H/\m=xs.length - i/\i<=xs.length/\ys=(List.replicate i true).map V.bl,⟨xs.length,rfl,by simp,Q0g _,rfl⟩,?_⟩;rintro i m ys H' ⟨rfl,rfl,hi,rfl⟩;by_cases Y:i<xs.length
 . refine .inr ⟨⟨xs,xs[i],f9.of hb,by simp[Y]⟩,by rw[Q0,Q1l];exact iF (by omega),λx H' y=>?_⟩;obtain⟨rfl,y⟩:=y;have hv:=y xs (f9.of hb);obtain⟨c,u,nm,k,rfl,ac,hc,hk⟩:=FA.get fs U hv;obtain⟨d,hd,_⟩:=hF.2 _ _ (Fs.oS ab ac);obtain⟨v,f,aa,_⟩:=gj.val _ hO hd;refine⟨c,_,rfl,f9.of hc,rfl,_,_,rfl,_,_,rfl,rfl,rfl,yes (i_ ?_)⟩;refine⟨_,rfl,_,rfl,a,_,rfl,il.k (k:=Sum.inr nm) ha,?_⟩;rw[aa];refine⟨xs.length - (i+1),by omega,rfl,rfl,Y,?_⟩;rw[List.replicate_succ',Q0b];rfl
 . refine .inl ⟨⟨xs,f9.of hb,Q16 Y⟩,λp hp=>⟨p,List.replicate i true,rfl,f_.of gh,?_⟩⟩
   have e:(List.replicate i true).all id=true:=by
    rw[Q17];intro z hz;rw[Q3j hz];rfl
   rw[e];exact q _ (Same.new hp)
theorem Lp:gQ ["fields","record","name","inner","place"] XO (gp (top 12)):=g_
theorem Lq (n:Nat)(T:Tb mg)(I:Dn K mg "record_misfit" ly (top 12) J L)(U:Dn K mg "has_just" ly (top 13) Y aa)(ab:gc P w K mg base gf (1) Y aa ly (EK))(ac:Dn K mg "misfit" kE (top 11) ae af)(ag:gc P w K mg base gf (4 * n+3) ae af kE (nU n)):gc P w K mg base gf (4 * n+4) J L ly (wN n):=by
 refine I.F.ok Lp λvs H Q E h=>?_;obtain⟨b,a,xs,kvs,fs,m,fp,rfl,hb,ah,ai,hx,an,ha,hO,hF,ao,ap,q⟩:=h;refine⟨rfl,λaq A outer s nd hr hu=>?_⟩
 refine⟨_,(e_ (gF (PW.pt (kg (jq (jf (ij j6 (by rfl) T.j8 boot_isinstance (a_ (pv 1) (a_ (jY (v:=.ty "dict") rfl T.rm boot_dict rfl) b_))))) (kM (jq (jf (gv ab hr U (a_ (pv 0) (a_ (pv 1) b_)))))))) (gi (gw (iV b_))) gH)
  (e_ (jk PassesOwn.never rfl (lb (pv 0)) (lU rfl (ji (gY (i:=2) nd rfl iG) (ji (gY (i:=3) nd rfl iG) lQ))) (e_ (gA 4 nd (gv ag hr ac (a_ (pv 3) (a_ (i6 hu (pv 1) (pv 2) (λ_ _=>rfl)) b_))))
  (gi (gF (gE pC (pv 4) jH (gC _)) (gi (gw oK)) gH))))
  (gi (gw jH)))),?_⟩
 ac_rfl
 refine⟨_,rfl,_,_,_,true,rfl,.dK ha,rfl,true,rfl,h9 ?_⟩;refine⟨_,rfl,_,rfl,b,a,xs,kvs,fs,m,fp,rfl,hb,ah,ai,hx,ha,hO,hF,λH1 s1=>⟨true,rfl,h9 ?_⟩⟩;refine⟨_,rfl,b,rfl,⟨_,f9.of (s1 _ _ hb)⟩,sE (xs:=xs) (λi σ H'=>Same H H'/\∃x y z,σ=[some (.ref b),some (.ref a),x,y,z]) ⟨s1,_,_,_,rfl⟩ ?_ ?_ ?_⟩
 . rintro i σ H' _ ⟨s2,_⟩;exact f9.of (s2 _ _ hb)
 . rintro i v σ H' hv ⟨s2,x,y,z,rfl⟩;obtain⟨c,u,nm,k,rfl,aj,hc,hk⟩:=FA.get fs ah hv;obtain⟨d,hd,ak⟩:=hF.2 _ _ (Fs.oS ai aj);obtain⟨e,f,al,am,_⟩:=gj.val _ hO hd;refine⟨c,_,rfl,f9.of (s2 _ _ hc),rfl,_,_,rfl,_,_,rfl,rfl,?_⟩;refine⟨_,rfl,_,rfl,_,rfl,a,e,rfl,(by have:=il.k (k:=Sum.inr nm) (s2 _ _ ha);rw[al] at this;exact this),u,e,k,d,f,rfl,KA.mono (Tu.of s2) k hk,Fs.pP an aj,Own.same s2 am,mW.of ak,Q0d (Ds.vU hd) ao,Ds.wy ap hd,λH3 s3=>?_⟩;refine⟨_,rfl,rfl,_,rfl,?_⟩;rw[decide_eq_true rfl];refine h9 ?_;exact⟨s2.trans s3,_,_,_,rfl⟩
 . rintro σ H' ⟨s2,_⟩;exact q _ s2
theorem Lr:gQ ["kind","rows","earlier","number","row","place"] Xd (gp (top 14)):=g_
theorem Ls (n:Nat)(T:Tb mg)(aa:Dn K mg "rows_misfit" mx (top 14) ab ac)(I:Dn K mg "record_misfit" ly (top 12) J L)(U:gc P w K mg base gf (4 * n+4) J L ly (wN n))(aj:Dn K mg "rank" oW (top 18) au av)(ak:gc P w K mg base gf (1) au av oW (nQ)):gc P w K mg base gf (4 * n+5) ab ac mx (EL n):=by
 refine aa.F.ok Lr λvs H Q E h=>?_;obtain⟨pk,pb,a,xs,key,by_,fs,ys,Y,fl,rfl,ai,aK,aL,hW,ha,an,ae,az,aM,aP,aQ,a6,q⟩:=h;refine⟨rfl,λa9 A outer s nd hr hu=>?_⟩;have aT:=hr.B7;unfold Kd.W at hW;obtain⟨aU,aV,aW,ah,ap⟩:=hW
 refine⟨_,(e_ (gF (jq (jf (ij j6 (by rfl) T.j8 boot_isinstance (a_ (pv 1) (a_ (jY (v:=.ty "list") rfl T.pX boot_list rfl) b_))))) (gi (gw (iV b_))) gH)
  (e_ (gA 2 nd pJ)
  (e_ (jk PassesOwn.never rfl (sR rfl T.tJ (a_ (pv 1) b_)) (lU rfl (ji (gY (i:=3) nd rfl iG) (ji (gY (i:=4) nd rfl iG) lQ))) (e_ (gA 5 nd (gv U hr I (a_ (gq (pv 0) c_) (a_ (pv 4) b_))))
  (e_ (gF (gE pC (pv 5) jH (gC _)) (gi (gw oK)) gH)
  (e_ (gF (PW.pt (m_ (gE nr (pv 3) c_ (gC _)) (oq (gE (J1 aT) (gv ak hr aj (a_ (pv 0) (a_ (pv 4) b_))) (gv ak hr aj (a_ (pv 0) (a_ (ju (pv 1) (gn nq (pv 3) c_)) b_))) (gC _))))) (gi (gw oK)) gH)
  (e_ (gF (r8 (vi hu (i6 hu (pv 4) (gq (pv 0) c_) (λ_ _=>rfl)) (pv 2)) (by with_unfolding_all rfl)) (gi (gw oK)) gH)
  (gi (mJ hu (pv 2) (i6 hu (pv 4) (gq (pv 0) c_) (λ_ _=>rfl)) jz rfl)))))))
  (gi (gw jH))))),?_⟩
 ac_rfl
 refine⟨_,rfl,_,_,_,true,rfl,.lst ha,rfl,true,rfl,h9 ?_⟩;intro p hp;have s0:Same H (upd H p (.dK [])):=Same.new hp;obtain⟨a7,a8⟩:=A3.len an;refine⟨_,rfl,a,rfl,⟨_,f_.of (s0 _ _ ha)⟩,uk (xs:=ys) (λi σ H'=>∃x y z ek,σ=[some (.ref pk),some (.ref a),some (.ref p),x,y,z]/\Same H H'/\H' p=some (.dK ek)/\ek.map (·.1)=(Y.take i).map λm=>keyOf m key) ⟨_,_,_,[],rfl,s0,gh,rfl⟩ ?_ ?_ ?_⟩
 . intro i σ H' _ zq;obtain⟨x,y,z,ek,rfl,s2,_⟩:=zq;exact f_.of (s2 _ _ ha)
 . rintro i yv σ H' t hy ⟨x,y,z,ek,rfl,s2,aX,ax⟩ ht;have hi:i<ys.length:=(List.getElem?_eq_some_iff.mp hy).1;have st:Same H' (upd H' t (.tup [.int i,yv])):=Same.new ht;have s3:=s2.trans st
   have row:∀j,j<ys.length->∃rr kvs fq,ys[j]? =some (.ref rr)/\H rr=some (.dK kvs)/\gj H kvs (Y.getD j .nil) fq/\Y.getD j .nil∈Y:=λj hj=>by
    have h:=A3.at (a0:=V.non) (b0:=Ds.nil) (c0:=[]) an j hj;unfold Own at h;obtain⟨rr,kvs,fq,e,al,_,am⟩:=h;refine⟨rr,kvs,fq,?_,al,am,?_⟩
    . rw[<-e,Q05,Q03 hj];rfl
    . rw[Q05,Q03 (by omega)];exact Q0r _
   obtain⟨rr,kvs,fq,aA,al,am,af⟩:=row i hi;rw[hy] at aA
   cases aA;have aB:upd H' t (.tup [.int i,.ref rr]) p=some (.dK ek):=st _ _ aX
   have gk:∀H4,Same H H4->il H4 rr (.str key) (some (kV (keyOf (Y.getD i .nil) key))):=λH4 s4=>by
    have:=il.k (k:=Sum.inr key) (s4 _ _ al);rw[am.nO (ae _ af).2 ah] at this;exact this
   refine⟨t,_,rfl,f9.of gh,rfl,_,_,rfl,_,_,rfl,rfl,?_⟩;refine⟨_,rfl,pk,_,_,_,rfl,rfl,f9.of (s3 _ _ ai),rfl,_,rfl,pb,rr,xs,kvs,fs,_,fq,rfl,s3 _ _ aK,FA.mono (Tu.of s3) fs aL,aU,aV,aW,s3 _ _ al,gj.same s3 am,ae _ af,aP _ af,aQ _ af,λH4 s4=>?_⟩;have ag:=s3.trans s4;refine⟨_,rfl,rfl,_,rfl,?_⟩;rw[decide_eq_true rfl];refine h9 ?_
   have aq:iw ek (keyOf (Y.getD i .nil) key)=none:=by
    have sv:=Ef ax (keyOf (Y.getD i .nil) key)
    have:nG key (Y.take i) (keyOf (Y.getD i .nil) key)=false:=by
     cases z:nG key (Y.take i) (keyOf (Y.getD i .nil) key) with
     |false=>rfl
     |true=>
      obtain⟨m,hm,e⟩:=List.any_eq_true.mp z;have e:=of_decide_eq_true e;obtain⟨j,hj,ej⟩:=Q10 hm;rw[Q0l] at hj;rw[Q2l] at ej;have aC:i<Y.length:=by omega
      have e2:Y.getD i .nil=Y[i]:=by rw[Q05,Q03 aC];rfl
      have:=List.pairwise_iff_getElem.mp (List.pairwise_map.mp aM) j i (by omega) aC (by omega);rw[ej,<-e2] at this;exact absurd e this
    rw[this] at sv
    cases z:iw ek (keyOf (Y.getD i .nil) key) with
    |none=>rfl
    |some o=>rw[z] at sv;cases sv
   have fin:∀H5,Same (upd H' t (.tup [.int i,.ref rr])) H5->∀(DD:Ends),DD.nx=(λσ H'=>∃x y z ek,σ=[some (.ref pk),some (.ref a),some (.ref p),x,y,z]/\Same H H'/\H' p=some (.dK ek)/\ek.map (·.1)=(Y.take (i+1)).map λm=>keyOf m key)->∀z':Option V,
    DD.nx [some (.ref pk),some (.ref a),some (.ref p),some (.int i),some (.ref rr),z'] (upd H5 p (.dK (ek++[(keyOf (Y.getD i .nil) key,.bl true)]))):=λH5 s5 DD aY z'=>by
    rw[aY];refine⟨_,_,_,_,rfl,λc o e=>?_,gh,?_⟩
    . rw[d_ (gz e hp)];exact s5 _ _ (s3 _ _ e)
    . rw[Q0b,ax,Q0q,Q0b];congr 1;rw[Q03 (by omega),Q05,Q03 (by omega)];rfl
   have aw:ek.length<sizeLine:=by
    have e1:=congrArg List.length ax;rw[Q0,Q0,Q0l] at e1;have:=hr.B7;exact iF (by omega)
   refine⟨_,rfl,_,_,rfl,rfl,_,rfl,h_ (λc=>?_) (λc=>h9 ?_)⟩
   . have ba:0<i:=by
      have:(0:Int)<(i:Int):=of_decide_eq_true c;omega
     obtain⟨rp,aZ,a1,aH,a2,aJ,ao⟩:=row (i - 1) (by omega);refine⟨_,rfl,_,rfl,pk,rr,pb,key,by_,fs,kvs,_,fq,rfl,ag _ _ ai,ag _ _ al,gj.same ag am,(ae _ af).2,ah,ap,λt1 a3=>?_⟩;have ay:Same H4 (upd H4 t1 (.tup ((rankOf key by_ (Y.getD i .nil)).map kV))):=Same.new a3;have s5:=ag.trans ay
     have a4:i8 ys ((i:Int) - 1)=some (.ref rp):=by
      have e:(i:Int) - 1=((i - 1:Nat):Int):=by omega
      rw[e];exact ki aH
     refine⟨_,rfl,_,rfl,_,rfl,_,_,rfl,rfl,a,_,_,_,rfl,rfl,f_.of (s5 _ _ ha),a4,pk,rp,pb,key,by_,fs,aZ,_,a1,rfl,s5 _ _ ai,s5 _ _ a2,gj.same s5 aJ,(ae _ ao).2,ah,ap,λt2 jS=>?_⟩;have ar:Same (upd H4 t1 (.tup ((rankOf key by_ (Y.getD i .nil)).map kV))) (upd (upd H4 t1 (.tup ((rankOf key by_ (Y.getD i .nil)).map kV))) t2 (.tup ((rankOf key by_ (Y.getD (i - 1) .nil)).map kV))):=Same.new jS;have s6:=s5.trans ar
     have a5:iq (rankOf key by_ (Y.getD (i - 1) .nil)) (rankOf key by_ (Y.getD i .nil))=true:=by
      have ge:∀j (h:j<Y.length),Y.getD j .nil=Y[j]:=λj h=>by rw[Q05,Q03 h];rfl
      rw[ge (i - 1) (by omega),ge i (by omega)];exact List.pairwise_iff_getElem.mp az (i - 1) i (by omega) (by omega) (by omega)
     refine⟨t1,t2,_,_,rfl,rfl,f9.of (ar _ _ gh),f9.of gh,(wu (ae _ af).2 ah ap).trans (wu (ae _ ao).2 ah ap).symm,_,rfl,?_⟩;rw[a5];refine h9 ?_;have aD:=ar _ _ (ay _ _ (s4 _ _ aB));refine⟨_,rfl,_,rfl,pk,_,_,_,rfl,rfl,f9.of (s6 _ _ ai),rfl,rr,_,rfl,gk _ s6,_,rfl,p,_,rfl,il.k aD,_,rfl,?_⟩;rw[aq];refine h9 ?_;refine⟨_,rfl,_,rfl,_,rfl,pk,_,_,_,rfl,rfl,f9.of (s6 _ _ ai),rfl,rr,_,rfl,gk _ s6,p,_,rfl,km.k aD aw,?_⟩;rw[nH aq];exact fin _ (s4.trans (ay.trans ar)) _ rfl _
   . have aE:=s4 _ _ aB;refine⟨_,rfl,_,rfl,pk,_,_,_,rfl,rfl,f9.of (ag _ _ ai),rfl,rr,_,rfl,gk _ ag,_,rfl,p,_,rfl,il.k aE,_,rfl,?_⟩;rw[aq];refine h9 ?_;refine⟨_,rfl,_,rfl,_,rfl,pk,_,_,_,rfl,rfl,f9.of (ag _ _ ai),rfl,rr,_,rfl,gk _ ag,p,_,rfl,km.k aE aw,?_⟩;rw[nH aq];exact fin _ s4 _ rfl _
 . intro σ H' zq;obtain⟨x,y,z,ek,rfl,s2,_⟩:=zq;exact q _ s2
theorem EO:gQ ["kind","tree","place","number","arm"] ["kind","tree"] (gp (top 16)):=g_
theorem Lu (T:Tb mg)(I:Dn K mg "tree_misfit" mV (top 16) J L):gc P w K mg base gf (4 * 0+2) J L mV (rF 0):=by
 refine I.F.ok EO λvs H Q E h=>?_;obtain⟨a,u,v,k,d,fp,rfl,_,_,_,_,_,U,_⟩:=h;refine⟨rfl,λY A outer s nd hr hu=>?_⟩;exact absurd U (by have:=d.mP;omega)
theorem Lv (n:Nat)(T:Tb mg)(I:Dn K mg "tree_misfit" mV (top 16) J L)(U:gc P w K mg base gf (4 * n+2) J L mV (rF n))(Y:Dn K mg "is_pair" oX (top 15) aa ab)(ac:gc P w K mg base gf (1) aa ab oX (wM))(ae:Dn K mg "misfit" kE (top 11) af ag)(ah:gc P w K mg base gf (4 * n+3) af ag kE (nU n)):gc P w K mg base gf (4 * (n+1)+2) J L mV (rF (n+1)):=by
 refine I.F.ok EO λvs H Q E h=>?_;obtain⟨a,u,v,k,d,fp,rfl,ha,hk,hW,hO,pq,ao,ak,q⟩:=h;refine⟨rfl,λay A outer s nd hr hu=>?_⟩;obtain⟨x,y,t,as,rfl,ap,aq⟩:=pq.shape;obtain⟨c,v1,v2,f1,f2,rfl,hc,rfl,ar,al⟩:=hO.pair;unfold Own at al;obtain⟨pl,ys,fq,rfl,ai,rfl,au⟩:=al;simp only[D.dep,Ds.dep] at ao;unfold D.Sm Ds.Sm at ak;obtain⟨_,av,am⟩:=ak;unfold Ds.Sm at am;have an:=am.1;unfold D.Sm at an
 refine⟨_,(e_ (gF (PW.pt (kg (jq (jf (gv ac hr Y (a_ (pv 1) b_)))) (kM (jq (jf (ij j6 (by rfl) T.j8 boot_isinstance (a_ (gq (pv 1) c_) (a_ (jY (v:=.ty "list") rfl T.pX boot_list rfl) b_)))))))) (gi (gw (iV b_))) gH)
  (e_ (gA 2 nd (gv ah hr ae (a_ (gq (pv 0) c_) (a_ (gq (pv 1) c_) b_))))
  (e_ (gF (gE pC (pv 2) jH (gC _)) (gi (gw oK)) gH)
  (e_ (jk PassesOwn.never rfl (sR rfl T.tJ (a_ (gq (pv 1) c_) b_)) (lU rfl (ji (gY (i:=3) nd rfl iG) (ji (gY (i:=4) nd rfl iG) lQ))) (e_ (gA 2 nd (gv U hr I (a_ (pv 0) (a_ (pv 4) b_))))
  (gi (gF (gE pC (pv 2) jH (gC _)) (gi (gw oK)) gH))))
  (gi (gw jH)))))),?_⟩
 ac_rfl
 refine⟨_,rfl,c,v1,.ref pl,rfl,hc,true,rfl,h9 ?_⟩;refine⟨_,rfl,c,_,_,_,rfl,rfl,f9.of hc,rfl,_,_,_,true,rfl,.lst ai,rfl,true,rfl,h9 ?_⟩;refine⟨_,rfl,a,_,_,_,rfl,rfl,f9.of ha,rfl,_,rfl,c,_,_,_,rfl,rfl,f9.of hc,rfl,u,v1,k,t,f1,rfl,hk,hW,ar,mW.of ap,by omega,av,λH1 s1=>?_⟩;refine⟨_,rfl,rfl,_,rfl,?_⟩;rw[decide_eq_true rfl];refine h9 ?_;refine⟨_,rfl,c,_,_,_,rfl,rfl,f9.of (s1 _ _ hc),rfl,pl,rfl,⟨_,f_.of (s1 _ _ ai)⟩,uk (xs:=ys) (λi σ H'=>Same H H'/\∃x y z,σ=[some (.ref a),some (.ref c),x,y,z]) ⟨s1,_,_,_,rfl⟩ ?_ ?_ ?_⟩
 . rintro i σ H' _ ⟨s2,_⟩;exact f_.of (s2 _ _ ai)
 . rintro i yv σ H' tt hy ⟨s2,x,y,z,rfl⟩ aw;have st:Same H' (upd H' tt (.tup [.int i,yv])):=Same.new aw;have s3:=s2.trans st;obtain⟨d',f,aj,ax,_⟩:=gD.get _ au hy;have az:=Ds.nF aj;refine⟨tt,_,rfl,f9.of gh,rfl,_,_,rfl,_,_,rfl,rfl,?_⟩;refine⟨_,rfl,_,rfl,a,u,yv,k,d',f,rfl,s3 _ _ ha,KA.mono (Tu.of s3) k hk,hW,Own.same s3 ax,ky.at aq aj,by omega,Ds.uc an.2 aj,λH4 s4=>?_⟩;refine⟨_,rfl,rfl,_,rfl,?_⟩;rw[decide_eq_true rfl];refine h9 ?_;exact⟨s3.trans s4,_,_,_,rfl⟩
 . rintro σ H' ⟨s2,_⟩;exact q _ s2
theorem Lw:gQ ["fields","value","inner","place"] ["fields","value"] (gp (top 17)):=g_
theorem Lx (n:Nat)(T:Tb mg)(I:Dn K mg "either_misfit" rz (top 17) J L)(U:Dn K mg "is_pair" oX (top 15) Y aa)(ab:gc P w K mg base gf (1) Y aa oX (wM))(ac:Dn K mg "kind_at" mU (top 7) ae af)(ag:gc P w K mg base gf (1) ae af mU (um))(ah:Dn K mg "misfit" kE (top 11) ai aj)(ak:gc P w K mg base gf (4 * n+3) ai aj kE (nU n)):gc P w K mg base gf (4 * n+4) J L rz (EM n):=by
 refine I.F.ok Lw λvs H Q E h=>?_;obtain⟨b,t,x,v,xs,fs,d,fp,rfl,hb,an,ao,ap,ht,hO,hE,aq,ar,q⟩:=h;refine⟨rfl,λav A outer s nd hr hu=>?_⟩
 refine⟨_,(e_ (gF (jq (jf (gv ab hr U (a_ (pv 1) b_)))) (gi (gw (iV b_))) gH)
  (e_ (gA 2 nd (gv ag hr ac (a_ (pv 0) (a_ (gq (pv 1) c_) b_))))
  (e_ (gF (gE B2 (pv 2) jH (gC _)) (gi (gw (iV b_))) gH)
  (e_ (gA 3 nd (gv ak hr ah (a_ (pv 2) (a_ (gq (pv 1) c_) b_))))
  (e_ (gF (gE pC (pv 3) jH (gC _)) (gi (gw oK)) gH)
  (gi (gw jH))))))),?_⟩
 ac_rfl
 obtain⟨k,al,am⟩:=wJ hE;refine⟨_,rfl,t,_,_,rfl,ht,true,rfl,h9 ?_⟩;refine⟨_,rfl,_,rfl,t,_,_,_,rfl,rfl,f9.of ht,rfl,b,x,xs,fs,k,rfl,hb,an,ao,al,λu hu au=>?_⟩;refine⟨_,rfl,rfl,_,rfl,?_⟩;rw[decide_eq_false au];refine h9 ?_;refine⟨_,rfl,_,rfl,t,_,_,_,rfl,rfl,f9.of ht,rfl,u,v,k,d,fp,rfl,hu,Fs.wK ap al,hO,mW.of am,aq,ar,λH1 s1=>?_⟩;refine⟨_,rfl,rfl,_,rfl,?_⟩;rw[decide_eq_true rfl];refine h9 ?_;exact q _ s1
theorem ER:gQ ["kind","value","form"] ["kind","value"] (gp (top 11)):=g_
theorem Ly (T:Tb mg)(I:Dn K mg "misfit" kE (top 11) J L):gc P w K mg base gf (4 * 0+3) J L kE (nU 0):=by
 refine I.F.ok ER λvs H Q E h=>?_;obtain⟨kv,v,k,d,fp,rfl,_,_,_,_,U,_⟩:=h;refine⟨rfl,λY A outer s nd hr hu=>?_⟩;exact absurd U (by have:=d.mP;omega)
theorem Lz (n:Nat)(T:Tb mg)(an:Dn K mg "misfit" kE (top 11) ao ap)(I:Dn K mg "record_misfit" ly (top 12) J L)(U:gc P w K mg base gf (4 * n+4) J L ly (wN n))(ae:Dn K mg "rows_misfit" mx (top 14) af ag)(ah:gc P w K mg base gf (4 * n+5) af ag mx (EL n))(ai:Dn K mg "tree_misfit" mV (top 16) aj ak)(al:gc P w K mg base gf (4 * (n+1)+2) aj ak mV (rF (n+1)))(Y:Dn K mg "either_misfit" rz (top 17) aa ab)(ac:gc P w K mg base gf (4 * n+4) aa ab rz (EM n)):
 gc P w K mg base gf (4 * (n+1)+3) ao ap kE (nU (n+1)):=by
 refine an.F.ok ER λvs H Q E h=>?_;obtain⟨kv,v,k,d,fp,rfl,hk,hW,hO,hF,au,am,q⟩:=h;refine⟨rfl,λaB A outer s nd hr hu=>?_⟩
 refine⟨_,(e_ (gA 2 nd (gq (pv 0) c_))
  (e_ (gF (gE iu (pv 2) gW (gC _)) (gi (gw (uR (PW.pt (m_ (jf (ij j6 (by rfl) T.j8 boot_isinstance (a_ (pv 1) (a_ (jY (v:=.ty "int") rfl T.DQ boot_int rfl) b_)))) (oq (jq (jf (ij j6 (by rfl) T.j8 boot_isinstance (a_ (pv 1) (a_ (jY (v:=.ty "bool") rfl T.DR boot_bool rfl) b_)))))))) jH (iV b_)))) gH)
  (e_ (gF (gE iu (pv 2) gW (gC _)) (gi (gw (uR (jf (ij j6 (by rfl) T.j8 boot_isinstance (a_ (pv 1) (a_ (jY (v:=.ty "str") rfl T.vZ boot_str rfl) b_)))) jH (iV b_)))) gH)
  (e_ (gF (gE iu (pv 2) gW (gC _)) (gi (gw (gv U hr I (a_ (gq (pv 0) c_) (a_ (pv 1) b_))))) gH)
  (e_ (gF (gE iu (pv 2) gW (gC _)) (gi (gw (gv ah hr ae (a_ (pv 0) (a_ (pv 1) b_))))) gH)
  (e_ (gF (gE iu (pv 2) gW (gC _)) (gi (gw (gv al hr ai (a_ (pv 0) (a_ (pv 1) b_))))) gH)
  (gi (gw (gv ac hr Y (a_ (gq (pv 0) c_) (a_ (pv 1) b_))))))))))),?_⟩
 ac_rfl
 cases k with
 |num=>
  unfold KA at hk;obtain⟨a,rfl,ha⟩:=hk;change ia _ _ at hF;unfold ia at hF;obtain⟨z,rfl⟩:=hF;unfold Own at hO;obtain⟨rfl,rfl⟩:=hO;refine⟨_,rfl,a,_,_,_,rfl,rfl,f9.of ha,rfl,?_⟩;refine qY rfl (by decide +kernel) ?_;refine⟨_,rfl,_,_,_,true,rfl,.int z,rfl,true,rfl,i_ ?_⟩;refine⟨_,rfl,_,_,_,false,rfl,.int z,rfl,false,rfl,i_ ?_⟩;exact q _ (Same.refl _)
 |iz=>
  unfold KA at hk;obtain⟨a,rfl,ha⟩:=hk;change ia _ _ at hF;unfold ia at hF;obtain⟨z,rfl⟩:=hF;unfold Own at hO;obtain⟨rfl,rfl⟩:=hO;refine⟨_,rfl,a,_,_,_,rfl,rfl,f9.of ha,rfl,?_⟩;refine j7 rfl (by decide +kernel) ?_;refine qY rfl (by decide +kernel) ?_;refine⟨_,rfl,_,_,_,true,rfl,.str z,rfl,true,rfl,i_ ?_⟩;exact q _ (Same.refl _)
 |iD fs=>
  unfold KA at hk;obtain⟨a,b,xs,rfl,ha,hb,aq⟩:=hk;obtain⟨m,rfl,hF⟩:=hF;unfold Own at hO;obtain⟨c,kvs,fq,rfl,hc,rfl,hO⟩:=hO;unfold Kd.W at hW;unfold D.Sm at am;simp only[D.dep] at au;refine⟨_,rfl,a,_,_,_,rfl,rfl,f9.of ha,rfl,?_⟩;refine j7 rfl (by decide +kernel) ?_;refine j7 rfl (by decide +kernel) ?_;refine qY rfl (by decide +kernel) ?_;exact⟨_,rfl,a,_,_,_,rfl,rfl,f9.of ha,rfl,_,rfl,b,c,xs,kvs,fs,m,fq,rfl,hb,aq,hW.1,hW.2.1,hW.2.2,hc,hO,hF,by omega,am.2,q⟩
 |rows key by_ fs=>
  unfold KA at hk;obtain⟨a,b,xs,rfl,ha,hb,aq⟩:=hk;obtain⟨rs,rfl,ay,av,az⟩:=hF;unfold Own at hO;obtain⟨c,ys,fq,rfl,hc,rfl,hO⟩:=hO;obtain⟨fl,ar,rfl⟩:=gD.rows hO;unfold D.Sm at am;simp only[D.dep] at au;refine⟨_,rfl,a,_,_,_,rfl,rfl,f9.of ha,rfl,?_⟩;refine j7 rfl (by decide +kernel) ?_;refine j7 rfl (by decide +kernel) ?_;refine j7 rfl (by decide +kernel) ?_;refine qY rfl (by decide +kernel) ?_;refine⟨_,rfl,_,rfl,a,b,c,xs,key,by_,fs,ys,rs,fl,rfl,ha,hb,aq,hW,hc,ar,ay,av,az,λm hm=>?_,λm hm=>?_,?_,q⟩
  . have:=Em m hm;omega
  . have:=El am.2 m hm;unfold D.Sm at this;exact this.2
  . have h1:=(A3.len ar).1;have h2:=am.1;rw[l4] at h2;omega
 |tree k=>
  unfold KA at hk;obtain⟨a,u,rfl,ha,hu⟩:=hk;change ia _ _ at hF;unfold ia at hF;unfold Kd.W at hW;refine⟨_,rfl,a,_,_,_,rfl,rfl,f9.of ha,rfl,?_⟩;refine j7 rfl (by decide +kernel) ?_;refine j7 rfl (by decide +kernel) ?_;refine j7 rfl (by decide +kernel) ?_;refine j7 rfl (by decide +kernel) ?_;refine qY rfl (by decide +kernel) ?_;exact⟨_,rfl,_,rfl,a,u,v,k,d,fp,rfl,ha,hu,hW,hO,hF,au,am,q⟩
 |jd fs=>
  unfold KA at hk;obtain⟨a,b,xs,rfl,ha,hb,aq⟩:=hk;change ia _ _ at hF;unfold ia at hF;obtain⟨x,v',rfl,hE⟩:=hF;obtain⟨c,v1,v2,f1,f2,rfl,hc,rfl,aw,aA⟩:=hO.pair;unfold Own at aw;obtain⟨rfl,rfl⟩:=aw;unfold Kd.W at hW;simp only[D.dep,Ds.dep] at au;unfold D.Sm Ds.Sm at am;obtain⟨_,aC,ax⟩:=am;unfold Ds.Sm at ax;refine⟨_,rfl,a,_,_,_,rfl,rfl,f9.of ha,rfl,?_⟩;refine j7 rfl (by decide +kernel) ?_;refine j7 rfl (by decide +kernel) ?_;refine j7 rfl (by decide +kernel) ?_;refine j7 rfl (by decide +kernel) ?_;refine j7 rfl (by decide +kernel) ?_;exact⟨_,rfl,a,_,_,_,rfl,rfl,f9.of ha,rfl,_,rfl,b,c,x,v2,xs,fs,v',f2,rfl,hb,aq,hW.1,hW.2.2.2,hc,aA,hE,by omega,ax.1,q⟩
theorem ES (T:Tb mg)(U:Dn K mg "misfit" kE (top 11) ah ai)(I:Dn K mg "record_misfit" ly (top 12) aj ak)(ab:Dn K mg "has_just" ly (top 13) ap aq)(Y:Dn K mg "rows_misfit" mx (top 14) an ao)(ag:Dn K mg "rank" oW (top 18) ay az)(J:Dn K mg "tree_misfit" mV (top 16) ae af)(aa:Dn K mg "is_pair" oX (top 15) ar au)(L:Dn K mg "either_misfit" rz (top 17) al am)(ac:Dn K mg "kind_at" mU (top 7) av aw):∀n:Nat,gc P w K mg base gf (4 * n+3) ah ai kE (nU n)/\gc P w K mg base gf (4 * n+2) ae af mV (rF n)
 |0=>⟨Ly T U,Lu T J⟩
 |n+1=>by
  obtain⟨M,Tr⟩:=ES T U I ab Y ag J aa L ac n;have Ip:=Lm (P:=P) (w:=w) (base:=base) T aa;have R:=Lq n T I ab (Lo T ab) U M;have Ro:=Ls n T Y I R ag (Ee T ag);have ax:=Lv n T J Tr aa Ip U M;have Ei:=Lx n T L aa Ip ac (EN T ac) U M;exact⟨Lz n T U I R Y Ro J ax L Ei,ax⟩
def uo (J:It) (H:Hp) (xs:List V):Prop:=(∀i x,xs[i]? =some x->J.go i H)/\(∀i x H',J.lV i H x H'->H'=H/\xs[i]? =some x)/\J.stop xs.length H
theorem o5 {K:W.Frag}{H:Hp}{a:Addr}{xs:List V}(h:f9 K H a xs):uo (pB K a) H xs:=⟨λ_ _ e=>⟨_,_,h,e⟩,λ_ _ _ y=>⟨y.1,y.2 _ h⟩,_,h,Q00 _⟩
theorem wO {K:W.Frag}{H:Hp}{a:Addr}{xs:List V}(h:f_ K H a xs):uo (pA K a) H xs:=⟨λ_ _ e=>⟨_,_,h,e⟩,λ_ _ _ y=>⟨y.1,y.2 _ h⟩,_,h,Q00 _⟩
def CW (F:Nat->List V) (n:Nat) (H:Hp) (i m:Nat) (ys:List V) (H':Hp):Prop:=m=n - i/\i<=n/\ys=F i/\(F i).length<=i/\H'=H
theorem mY {J:It}{H:Hp}{xs:List V}{S:List V->Hp->Prop}{C:(Nat->Nat->List V->Hp->Prop)->Nat->Nat->List V->V->Hp->Prop}(Y:uo J H xs)(F:Nat->List V)(aa:xs.length<=1000)
 (q:S (F xs.length) H) (step:∀i x,xs[i]? =some x->(∀y,F (i+1)=F i++[y]->∃U,U<xs.length - i/\CW F xs.length H (i+1) U (F i++[y]) H)->(F (i+1)=F i->∃U,U<xs.length - i/\CW F xs.length H (i+1) U (F i) H)->C (CW F xs.length H) i (xs.length - i) (F i) x H) (h0:F 0=[]:=by rfl):
 ∃W:Nat->Nat->List V->Hp->Prop,(∃m,W 0 m [] H)/\∀i m ys H',W i m ys H'->(J.stop i H'/\S ys H')\/(J.go i H'/\ys.length<sizeLine/\∀x L,J.lV i H' x L->C W i m ys x L):=by
 refine⟨CW F xs.length H,⟨_,rfl,Q0g _,h0.symm,by rw[h0];exact Q00 0,rfl⟩,?_⟩;rintro i m ys H' ⟨rfl,hi,rfl,hl,rfl⟩;by_cases I:i<xs.length
 . refine .inr ⟨Y.1 i _ (Q03 I),iF (by omega),λx L y=>?_⟩;obtain⟨rfl,hx⟩:=Y.2.1 _ _ _ y;exact step i x hx (λy e=>⟨_,Q23 _ _ I,rfl,I,e.symm,by rw[e,Q09];exact Q2p hl,rfl⟩) (λe=>⟨_,Q23 _ _ I,rfl,I,e.symm,by rw[e];omega,rfl⟩)
 . cases Q3k hi (Q16 I);exact .inl ⟨Y.2.2,q⟩
theorem take_add {α:Type}{l:List α}{i:Nat}{x:α}(h:l[i]? =some x):l.take (i+1)=l.take i++[x]:=by
 rw[Q0q,h];rfl
theorem nV {α I:Type}{l:List α}{p:α->Bool}{f:α->I}{i:Nat}{x:α}(h:l[i]? =some x)(c:p x=true):((l.take (i+1)).filter p).map f=((l.take i).filter p).map f++[f x]:=by
 rw[take_add h,Q24,Q11,if_pos c,Q0b];rfl
theorem nW {α I:Type}{l:List α}{p:α->Bool}{f:α->I}{i:Nat}{x:α}(h:l[i]? =some x)(c:¬p x=true):((l.take (i+1)).filter p).map f=((l.take i).filter p).map f:=by
 rw[take_add h,Q24,Q11,if_neg c,List.filter_nil,Q1a]
theorem Fs.uq:∀{fs:Fs}{x:Str}{k:Kd},fs.get x=some k->∃j,fs.at j=some (x,k)
 | .nil,_,_,h=>by cases h
 | .cons y q r,x,k,h=>by
   have h:(if x=y then some q else r.get x)=some k:=h;by_cases e:x=y
   . rw[if_pos e] at h
     cases h;exact⟨0,by rw[e];rfl⟩
   . rw[if_neg e] at h;obtain⟨j,I⟩:=Fs.uq h;exact⟨j+1,I⟩
theorem Fs.ET {fs:Fs}{i j:Nat}{x:Str}{k I:Kd}(nd:fs.names.Nodup)(h1:fs.at i=some (x,k))(h2:fs.at j=some (x,I)):i=j:=by
 have J:fs.names[i]? =some x:=by rw[Fs.mr,h1];rfl
 have L:fs.names[j]? =some x:=by rw[Fs.mr,h2];rfl
 obtain⟨l1,U⟩:=List.getElem?_eq_some_iff.mp J;obtain⟨l2,Y⟩:=List.getElem?_eq_some_iff.mp L;exact(Q1k nd).mp (U.trans Y.symm)
theorem EU (i:Nat):(List.replicate i true).all id=true:=by
 rw[Q17];intro z I;rw[Q3j I];rfl
def ur (fs:Fs) (I J:Ds):Prop:=I.names.length=fs.names.length/\∀x k,fs.get x=some k->∃e,I.get x=some e/\J.get x=some e/\ia k e
def AL (k:Kd) (L U:D):Prop:=match k with
 | .iD fs=>∃I J,L=.dct I/\U=.dct J/\ur fs I J
 | .rows _ _ fs=>∃Y x2:Ds,L=.lst Y/\U=.lst x2/\Y.len=x2.len/\∀i e1 e2,Y.at i=some e1->x2.at i=some e2->∃I J,e1=.dct I/\e2=.dct J/\ur fs I J
 |k=>L=U/\ia k L
theorem nN.EV {fs:Fs}{m:Ds}(h:nN fs m):ur fs m m:=⟨h.1,λx k I=>let⟨e,h1,h2⟩:=h.2 x k I;⟨e,h1,h1,h2⟩⟩
theorem AL.wQ {k:Kd}{d:D}(h:mW k d):AL k d d:=by
 cases k with
 |iD fs=>
  obtain⟨m,e,hF⟩:=h;exact⟨m,m,e,e,hF.EV⟩
 |rows key by_ fs=>
  obtain⟨J,e,hF,h1,h2⟩:=h;refine⟨_,_,e,e,rfl,λi L U h1 h2=>?_⟩;rw[h1] at h2
  cases h2;obtain⟨m,I,rfl⟩:=Et h1;exact⟨m,m,rfl,rfl,(hF m I).EV⟩
 |_=>exact⟨rfl,h⟩
theorem AL.of {k:Kd}{d:D}(h:ia k d):AL k d d:=AL.wQ (mW.of h)
def qe (n:Nat):Sp:=λvs H Q _=>∃I v1 v2 k d J f1 f2,vs=[I,v1,v2]/\KA H I k/\k.W/\Own H v1 d f1/\Own H v2 J f2/\AL k d J/\d.dep<=n/\d.Sm/\∀H',Same H H'->Q (.bl true) H'
theorem LA:gQ XG XF (gp (top 43)):=g_
theorem LB (n:Nat)(T:Tb mg)(I:Dn K mg "_law_alike" kX (top 43) Y aa)(J:gc P w K mg base gf (n+1) Y aa kX (qe n)):gc P w K mg base gf ((n+1)+1) Y aa kX (qe (n+1)):=by
 refine I.F.ok LA λvs H Q E h=>?_;obtain⟨kv,v1,v2,k,d,d,f1,f2,rfl,hk,hW,af,ag,hF,aq,ai,q⟩:=h;refine⟨rfl,λbb A outer s nd hr hu=>?_⟩
 refine⟨_,(e_ (gF (gE iu (gq (pv 0) c_) gW (gC _)) (gi (gw (ng (ij j6 (by rfl) T.j8 boot_isinstance (a_ (pv 1) (a_ (jY (v:=.ty "int") rfl T.DQ boot_int rfl) b_))) (ng (Hx (ij j6 (by rfl) T.j8 boot_isinstance (a_ (pv 1) (a_ (jY (v:=.ty "bool") rfl T.DR boot_bool rfl) b_)))) (ot (mH iu (pv 1) (pv 2) (gC _))))))) gH)
  (e_ (gF (gE iu (gq (pv 0) c_) gW (gC _)) (gi (gw (ng (ij j6 (by rfl) T.j8 boot_isinstance (a_ (pv 1) (a_ (jY (v:=.ty "str") rfl T.vZ boot_str rfl) b_))) (ot (mH iu (pv 1) (pv 2) (gC _)))))) gH)
  (e_ (gF (gE iu (gq (pv 0) c_) gW (gC _)) (e_ (gF (PW.pt (kg (jq (jf (ij j6 (by rfl) T.j8 boot_isinstance (a_ (pv 1) (a_ (jY (v:=.ty "dict") rfl T.rm boot_dict rfl) b_))))) (kM (gE j1 (ij vn (by rfl) T.ja PySem.boot_len (a_ (pv 1) b_)) (ij jr (by rfl) T.ja PySem.boot_len (a_ (gq (pv 0) c_) b_)) (gC _))))) (gi (gw jz)) gH)
  (e_ (jk PassesOwn.never rfl (lb (gq (pv 0) c_)) (lU rfl (ji (gY (i:=3) nd rfl iG) (ji (gY (i:=4) nd rfl iG) lQ))) (gi (gF (PW.pt (kg (r8 (Cq hu (pv 3) (pv 1)) (by with_unfolding_all rfl)) (kM (jq (jf (gv J hr I (a_ (pv 4) (a_ (i6 hu (pv 1) (pv 3) (λ_ _=>rfl)) (a_ (i6 hu (pv 2) (pv 3) (λ_ _=>rfl)) b_))))))))) (gi (gw jz)) gH)))
  (gi (gw jz)))) gH)
  (e_ (gF (gE iu (gq (pv 0) c_) gW (gC _)) (e_ (gF (PW.pt (kg (jq (jf (ij j6 (by rfl) T.j8 boot_isinstance (a_ (pv 1) (a_ (jY (v:=.ty "list") rfl T.pX boot_list rfl) b_))))) (kM (gE j1 (ij vn (by rfl) T.ja PySem.boot_len (a_ (pv 1) b_)) (ij jr (by rfl) T.ja PySem.boot_len (a_ (pv 2) b_)) (gC _))))) (gi (gw jz)) gH)
  (gi (gw (ij (vw rfl) (by rfl) T.vY boot_all (a_ (kT (g:=(su K 2 (ow (iH 0) (ow (iH 1) sr)))) (tt:=mK) (te:=(nu _ _ _ (i5 (qK (i5 (tC (.str "record")) (i5 (ie (i9 K) (gJ 2) (tC (.int 3))) j2))) (i5 (gJ 0) (i5 (gJ 1) j2))))) (own:=["_law_a","_law_b"]) rfl (jE (N:=XG) (sc:=gp (top 43))) (Dd rfl T.DP (a_ (pv 1) (a_ (pv 2) b_))) (λ_ _ _ _ _=>(lU rfl (ji (gY (i:=0) (show(XD:List Str).Nodup by decide +kernel) rfl (Or.inl rfl) (.inr rfl)) (ji (gY (i:=1) (show(XD:List Str).Nodup by decide +kernel) rfl (Or.inl rfl) (.inr rfl)) lQ)))) (λ_ _ _ _ _=>oJ) (λ_ _ _ _ _=>(gv J hr I (a_ (iP (a_ gW (a_ (gq (pv 2) c_) b_))) (a_ (pv 0) (a_ (pv 1) b_)))))) b_))))) gH)
  (e_ (gF (PW.pt (kg (jq (jf (ij j6 (by rfl) T.j8 boot_isinstance (a_ (pv 1) (a_ (jY (v:=.ty "tuple") rfl T.nJ boot_tuple rfl) b_))))) (kM (gE j1 (ij vn (by rfl) T.ja PySem.boot_len (a_ (pv 1) b_)) c_ (gC _))))) (gi (gw jz)) gH)
  (e_ (gF (gE iu (gq (pv 0) c_) gW (gC _)) (e_ (gF (PW.pt (kg (jq (jf (ij j6 (by rfl) T.j8 boot_isinstance (a_ (gq (pv 1) c_) (a_ (jY (v:=.ty "str") rfl T.vZ boot_str rfl) b_))))) (kM (gE j1 (gq (pv 1) c_) (gq (pv 2) c_) (gC _))))) (gi (gw jz)) gH)
  (e_ (qX (i:=4) nd rfl iG (g:=(iH 0)) (tt:=(jI (ie mG (ie (i9 K) (gJ 0) (tC (.int 0))) (ie (i9 K) (gJ 3) (tC (.int 0)))))) (te:=(ie (i9 K) (gJ 0) (tC (.int 1)))) (own:=["_law_pair"]) rfl (jE (N:=XG) (sc:=gp (top 43))) (lb (gq (pv 0) c_)) (λ_ _ _ _ _=>(gY (i:=0) (show(["_law_pair","_law_kind_here","_law_found","_law_due","_law_name","_law_inner"]:List Str).Nodup by decide +kernel) rfl (Or.inl rfl) (.inr rfl))) (λ_ _ _ _ _=>(lY (gE iu (gq (pv 0) c_) (gq (pv 3) c_) (gC _)))) (λ_ _ _ _ _=>(gq (pv 0) c_)))
  (gi (gw (gv J hr I (a_ (ju (pv 4) c_) (a_ (gq (pv 1) c_) (a_ (gq (pv 2) c_) b_)))))))) gH)
  (e_ (gF (PW.pt (kg (jq (jf (ij j6 (by rfl) T.j8 boot_isinstance (a_ (gq (pv 1) c_) (a_ (jY (v:=.ty "list") rfl T.pX boot_list rfl) b_))))) (kM (gE j1 (ij jr (by rfl) T.ja PySem.boot_len (a_ (gq (pv 1) c_) b_)) (ij jr (by rfl) T.ja PySem.boot_len (a_ (gq (pv 2) c_) b_)) (gC _))))) (gi (gw jz)) gH)
  (e_ (gF (jq (jf (gv J hr I (a_ (gq (pv 0) c_) (a_ (gq (pv 1) c_) (a_ (gq (pv 2) c_) b_)))))) (gi (gw jz)) gH)
  (gi (gw (ij (vw rfl) (by rfl) T.vY boot_all (a_ (kT (g:=(su K 2 (ow (iH 0) (ow (iH 1) sr)))) (tt:=mK) (te:=(nu _ _ _ (i5 (gJ 2) (i5 (gJ 0) (i5 (gJ 1) j2))))) (own:=["_law_a","_law_b"]) rfl (jE (N:=XG) (sc:=gp (top 43))) (Dd rfl T.DP (a_ (gq (pv 1) c_) (a_ (gq (pv 2) c_) b_))) (λ_ _ _ _ _=>(lU rfl (ji (gY (i:=0) (show(XD:List Str).Nodup by decide +kernel) rfl (Or.inl rfl) (.inr rfl)) (ji (gY (i:=1) (show(XD:List Str).Nodup by decide +kernel) rfl (Or.inl rfl) (.inr rfl)) lQ)))) (λ_ _ _ _ _=>oJ) (λ_ _ _ _ _=>(gv J hr I (a_ (pv 2) (a_ (pv 0) (a_ (pv 1) b_)))))) b_)))))))))))),?_⟩
 ac_rfl
 cases k with
 |num=>
  unfold KA at hk;obtain⟨a,rfl,ha⟩:=hk;obtain⟨rfl,hF⟩:=hF;unfold ia at hF;obtain⟨z,rfl⟩:=hF;unfold Own at af ag;obtain⟨rfl,rfl⟩:=af;obtain⟨rfl,rfl⟩:=ag;refine mq rfl ha rfl (by decide +kernel) ?_;refine⟨_,rfl,_,_,_,true,rfl,.int z,rfl,true,rfl,i_ ?_⟩;refine⟨_,rfl,_,_,_,false,rfl,.int z,rfl,false,rfl,true,rfl,i_ ?_⟩;refine⟨_,rfl,_,rfl,rfl,?_⟩;rw[decide_eq_true rfl];exact q _ (Same.refl _)
 |iz=>
  unfold KA at hk;obtain⟨a,rfl,ha⟩:=hk;obtain⟨rfl,hF⟩:=hF;unfold ia at hF;obtain⟨z,rfl⟩:=hF;unfold Own at af ag;obtain⟨rfl,rfl⟩:=af;obtain⟨rfl,rfl⟩:=ag;refine iR rfl ha rfl (by decide +kernel) ?_;refine mq rfl ha rfl (by decide +kernel) ?_;refine⟨_,rfl,_,_,_,true,rfl,.str _,rfl,true,rfl,i_ ?_⟩;refine⟨_,rfl,_,rfl,rfl,?_⟩;rw[decide_eq_true rfl];exact q _ (Same.refl _)
 |iD fs=>
  unfold KA at hk;obtain⟨a,b,xs,rfl,ha,hb,ah⟩:=hk;obtain⟨m,m2,rfl,rfl,hU⟩:=hF;unfold Own at af ag;obtain⟨c1,aD,g1,rfl,L,rfl,aj⟩:=af;obtain⟨c2,bc,g2,rfl,ab,rfl,al⟩:=ag;unfold Kd.W at hW;unfold D.Sm at ai;simp only[D.dep] at aq;have aP:m.dep<=n:=by omega
  refine iR rfl ha rfl (by decide +kernel) ?_;refine iR rfl ha rfl (by decide +kernel) ?_;refine mq rfl ha rfl (by decide +kernel) ?_;have el:aD.length=xs.length:=by rw[gj.len aj,FA.len fs ah];exact hU.1
  refine⟨_,rfl,_,_,_,true,rfl,.dK L,rfl,true,rfl,h9 ?_⟩;refine⟨_,rfl,.inl ⟨c1,_,rfl,L,_,rfl,a,_,_,_,rfl,rfl,f9.of ha,rfl,b,_,rfl,.inr (f9.of hb),rfl,_,rfl,?_⟩⟩;refine nB (show V.int (aD.length:Nat)=V.int (xs.length:Nat) by rw[el]) ?_;refine⟨_,rfl,a,_,_,_,rfl,rfl,f9.of ha,rfl,b,rfl,⟨_,f9.of hb⟩,sE (xs:=xs) (λi σ H'=>Same H H'/\∃x y,σ=[some (.ref a),some (.ref c1),some (.ref c2),x,y]) ⟨Same.refl _,_,_,rfl⟩ ?_ ?_ ?_⟩
  . rintro i σ H' _ ⟨s2,_⟩;exact f9.of (s2 _ _ hb)
  . rintro i v σ H' hv ⟨s2,x,y,rfl⟩;obtain⟨c,u,nm,k,rfl,ac,hc,hk⟩:=FA.get fs ah hv;obtain⟨d,hd,aX,ap⟩:=hU.2 _ _ (Fs.oS hW.1 ac);obtain⟨e1,f1,aY,aQ,_⟩:=gj.val _ aj hd;obtain⟨e2,f2,aZ,aT,_⟩:=gj.val _ al aX;have g1:il H' c1 (.str nm) (some e1):=by have:=il.k (k:=Sum.inr nm) (s2 _ _ L);rw[aY] at this;exact this
    have g2:il H' c2 (.str nm) (some e2):=by have:=il.k (k:=Sum.inr nm) (s2 _ _ ab);rw[aZ] at this;exact this
    refine⟨c,_,rfl,f9.of (s2 _ _ hc),rfl,_,_,rfl,_,_,rfl,rfl,?_⟩;refine⟨_,rfl,_,rfl,c1,_,rfl,g1,false,rfl,h9 ?_⟩;refine⟨_,rfl,_,rfl,_,rfl,c1,e1,rfl,g1,_,rfl,_,rfl,c2,e2,rfl,g2,u,e1,e2,k,d,d,f1,f2,rfl,KA.mono (Tu.of s2) k hk,Fs.pP hW.2.2 ac,Own.same s2 aQ,Own.same s2 aT,AL.of ap,Q0d (Ds.vU hd) aP,Ds.wy ai.2 hd,λH3 s3=>⟨true,rfl,h9 ?_⟩⟩;exact⟨s2.trans s3,_,_,rfl⟩
  . rintro σ H' ⟨s2,_⟩;exact q _ s2
 |rows key by_ fs=>
  unfold KA at hk;obtain⟨a,b,xs,rfl,ha,hb,ah⟩:=hk;obtain⟨x1,x2,rfl,rfl,aU,a1⟩:=hF;unfold Own at af ag;obtain⟨c1,U,g1,rfl,L,rfl,aj⟩:=af;obtain⟨c2,ae,g2,rfl,ab,rfl,al⟩:=ag;unfold Kd.W at hW;unfold D.Sm at ai;simp only[D.dep] at aq;have ak:U.length=x1.len:=gD.len _ aj;have am:ae.length=x1.len:=(gD.len _ al).trans aU.symm;have aV:=ai.1;refine iR rfl ha rfl (by decide +kernel) ?_;refine iR rfl ha rfl (by decide +kernel) ?_;refine iR rfl ha rfl (by decide +kernel) ?_;refine mq rfl ha rfl (by decide +kernel) ?_;refine⟨_,rfl,_,_,_,true,rfl,.lst L,rfl,true,rfl,h9 ?_⟩;refine⟨_,rfl,.inr ⟨c1,_,rfl,.inl (f_.of L),_,rfl,c2,_,rfl,.inl (f_.of ab),rfl,_,rfl,nB (show V.int (U.length:Nat)=V.int (ae.length:Nat) by rw[ak,am]) ?_⟩⟩;refine⟨_,rfl,_,rfl,c1,c2,rfl,⟨_,f_.of L⟩,⟨_,f_.of ab⟩,λi m zs H'=>m=U.length - i/\i<=U.length/\zs=(List.replicate i true).map V.bl/\Same H H',⟨U.length,rfl,Q0g _,rfl,Same.refl _⟩,?_⟩;rintro i mm zs H' ⟨rfl,aW,rfl,s2⟩;by_cases hi:i<U.length
  . have au:i<ae.length:=by omega
    refine .inr ⟨⟨U,ae,U[i],ae[i],f_.of (s2 _ _ L),f_.of (s2 _ _ ab),Q03 hi,Q03 au⟩,by rw[Q0,Q1l];exact iF (by omega),λx a2 y=>?_⟩;obtain⟨p,y1,y2,hp,rfl,e1,e2,rfl⟩:=y;have e1:=e1 _ (f_.of (s2 _ _ L));have e2:=e2 _ (f_.of (s2 _ _ ab));obtain⟨d,fa,ac,av,_⟩:=gD.get _ aj e1;obtain⟨d',fb,an,aw,_⟩:=gD.get _ al e2;obtain⟨m1,m2,rfl,rfl,hm⟩:=a1 _ _ _ ac an;have a3:=Ds.nF ac;have s3:Same H' (upd H' p (.tup [y1,y2])):=Same.new hp;have sa:=s2.trans s3;refine⟨p,_,rfl,f9.of gh,rfl,_,_,rfl,_,_,rfl,rfl,rfl,yes (i_ ?_)⟩;refine⟨_,rfl,a,_,_,_,rfl,rfl,f9.of (sa _ _ ha),rfl,i3,λt ht=>?_⟩;have st:Same (upd H' p (.tup [y1,y2])) (upd (upd H' p (.tup [y1,y2])) t (.tup [.str "record",.ref b])):=Same.new ht;have sb:=sa.trans st;refine⟨_,rfl,_,rfl,.ref t,y1,y2,.iD fs,.dct m1,.dct m2,fa,fb,rfl,?_,?_,Own.same sb av,Own.same sb aw,?_,by omega,Ds.uc ai.2 ac,λH3 s4=>?_⟩
    . unfold KA;exact⟨t,b,xs,rfl,gh,sb _ _ hb,FA.mono (Tu.of sb) fs ah⟩
    . unfold Kd.W;exact⟨hW.1,hW.2.1,hW.2.2.1⟩
    . exact⟨m1,m2,rfl,rfl,hm⟩
    . refine⟨U.length - (i+1),by omega,rfl,hi,?_,sb.trans s4⟩;rw[List.replicate_succ',Q0b];rfl
  . refine .inl ⟨⟨U,ae,f_.of (s2 _ _ L),f_.of (s2 _ _ ab),.inl (Q16 hi)⟩,λp hp=>⟨p,List.replicate i true,rfl,f_.of gh,?_⟩⟩;rw[EU];exact q _ (s2.trans (Same.new hp))
 |tree k=>
  have a4:=hk;unfold KA at hk;obtain⟨a,u,rfl,ha,a5⟩:=hk;obtain⟨rfl,hF⟩:=hF;unfold ia at hF;have a6:=hW;unfold Kd.W at hW;obtain⟨x,y,t,as,rfl,a7,ah⟩:=hF.shape;obtain⟨c1,u1,w1,ax,bd,rfl,L,rfl,ay,aE⟩:=af.pair;obtain⟨c2,u2,w2,az,be,rfl,ab,rfl,aA,aH⟩:=ag.pair;unfold Own at aE aH;obtain⟨l1,U,g1,rfl,ak,rfl,aj⟩:=aE;obtain⟨l2,ae,g2,rfl,am,rfl,al⟩:=aH;simp only[D.dep,Ds.dep] at aq;unfold D.Sm Ds.Sm at ai;obtain⟨_,aJ,ao⟩:=ai;unfold Ds.Sm at ao;have aB:=ao.1;unfold D.Sm at aB;have aV:=aB.1;have a8:U.length=as.len:=gD.len _ aj;have a9:ae.length=as.len:=gD.len _ al;refine iR rfl ha rfl (by decide +kernel) ?_;refine iR rfl ha rfl (by decide +kernel) ?_;refine iR rfl ha rfl (by decide +kernel) ?_;refine iR rfl ha rfl (by decide +kernel) ?_;refine⟨_,rfl,_,_,_,true,rfl,.tup L,rfl,true,rfl,h9 ?_⟩;refine⟨_,rfl,.inr ⟨c1,_,rfl,.inr (f9.of L),rfl,_,rfl,nB rfl ?_⟩⟩;refine iR rfl ha rfl (by decide +kernel) ?_;refine⟨_,rfl,c1,_,_,_,rfl,rfl,f9.of L,rfl,_,_,_,true,rfl,.lst ak,rfl,true,rfl,h9 ?_⟩;refine⟨_,rfl,c1,_,_,_,rfl,rfl,f9.of L,rfl,l1,_,rfl,.inl (f_.of ak),_,rfl,c2,_,_,_,rfl,rfl,f9.of ab,rfl,l2,_,rfl,.inl (f_.of am),rfl,_,rfl,nB (show V.int (U.length:Nat)=V.int (ae.length:Nat) by rw[a8,a9]) ?_⟩;refine⟨_,rfl,a,_,_,_,rfl,rfl,f9.of ha,rfl,_,rfl,c1,_,_,_,rfl,rfl,f9.of L,rfl,_,rfl,c2,_,_,_,rfl,rfl,f9.of ab,rfl,u,u1,u2,k,t,t,ax,az,rfl,a5,hW,ay,aA,AL.of a7,by omega,aJ,λH1 s1=>⟨true,rfl,h9 ?_⟩⟩;refine⟨_,rfl,c1,_,_,_,rfl,rfl,f9.of (s1 _ _ L),rfl,_,rfl,c2,_,_,_,rfl,rfl,f9.of (s1 _ _ ab),rfl,l1,l2,rfl,⟨_,f_.of (s1 _ _ ak)⟩,⟨_,f_.of (s1 _ _ am)⟩,λi m zs H'=>m=U.length - i/\i<=U.length/\zs=(List.replicate i true).map V.bl/\Same H H',⟨U.length,rfl,Q0g _,rfl,s1⟩,?_⟩;rintro i mm zs H' ⟨rfl,aW,rfl,s2⟩;by_cases hi:i<U.length
  . have au:i<ae.length:=by omega
    refine .inr ⟨⟨U,ae,U[i],ae[i],f_.of (s2 _ _ ak),f_.of (s2 _ _ am),Q03 hi,Q03 au⟩,by rw[Q0,Q1l];exact iF (by omega),λx a2 y=>?_⟩;obtain⟨p,x1,x2,hp,rfl,e1,e2,rfl⟩:=y;have e1:=e1 _ (f_.of (s2 _ _ ak));have e2:=e2 _ (f_.of (s2 _ _ am));obtain⟨d,fa,ac,av,_⟩:=gD.get _ aj e1;obtain⟨d',fb,an,aw,_⟩:=gD.get _ al e2;rw[ac] at an
    cases an;have a3:=Ds.nF ac;have s3:Same H' (upd H' p (.tup [x1,x2])):=Same.new hp;have sa:=s2.trans s3;refine⟨p,_,rfl,f9.of gh,rfl,_,_,rfl,_,_,rfl,rfl,rfl,yes (i_ ?_)⟩;refine⟨_,rfl,_,rfl,_,rfl,.ref a,x1,x2,.tree k,d,d,fa,fb,rfl,KA.mono (Tu.of sa) _ a4,a6,Own.same sa av,Own.same sa aw,AL.of (by unfold ia;exact ky.at ah ac),by omega,Ds.uc aB.2 ac,λH3 s4=>?_⟩;refine⟨U.length - (i+1),by omega,rfl,hi,?_,sa.trans s4⟩;rw[List.replicate_succ',Q0b];rfl
  . refine .inl ⟨⟨U,ae,f_.of (s2 _ _ ak),f_.of (s2 _ _ am),.inl (Q16 hi)⟩,λp hp=>⟨p,List.replicate i true,rfl,f_.of gh,?_⟩⟩;rw[EU];exact q _ (s2.trans (Same.new hp))
 |jd fs=>
  unfold KA at hk;obtain⟨a,b,xs,rfl,ha,hb,ah⟩:=hk;obtain⟨rfl,hF⟩:=hF;unfold ia at hF;obtain⟨x,v',rfl,hE⟩:=hF;obtain⟨c1,z1,u1,bf,ax,rfl,L,rfl,aK,ay⟩:=af.pair;obtain⟨c2,z2,u2,bg,az,rfl,ab,rfl,aL,aA⟩:=ag.pair;unfold Own at aK aL;obtain⟨rfl,rfl⟩:=aK;obtain⟨rfl,rfl⟩:=aL;unfold Kd.W at hW;simp only[D.dep,Ds.dep] at aq;unfold D.Sm Ds.Sm at ai;obtain⟨_,aJ,ao⟩:=ai;unfold Ds.Sm at ao;obtain⟨k,ar,ap⟩:=wJ hE;obtain⟨j,hj⟩:=Fs.uq ar;obtain⟨c,u,aC,hc,ba⟩:=FA.at ah hj;have bh:j<xs.length:=(List.getElem?_eq_some_iff.mp aC).1;have bi:xs.length<=12:=by rw[FA.len fs ah];exact hW.2.1
  refine iR rfl ha rfl (by decide +kernel) ?_;refine iR rfl ha rfl (by decide +kernel) ?_;refine iR rfl ha rfl (by decide +kernel) ?_;refine iR rfl ha rfl (by decide +kernel) ?_;refine⟨_,rfl,_,_,_,true,rfl,.tup L,rfl,true,rfl,h9 ?_⟩;refine⟨_,rfl,.inr ⟨c1,_,rfl,.inr (f9.of L),rfl,_,rfl,nB rfl ?_⟩⟩;refine mq rfl ha rfl (by decide +kernel) ?_;refine⟨_,rfl,c1,_,_,_,rfl,rfl,f9.of L,rfl,_,_,_,true,rfl,.str _,rfl,true,rfl,h9 ?_⟩;refine⟨_,rfl,c1,_,_,_,rfl,rfl,f9.of L,rfl,_,rfl,c2,_,_,_,rfl,rfl,f9.of ab,rfl,rfl,_,rfl,nB rfl ?_⟩;refine⟨_,rfl,a,_,_,_,rfl,rfl,f9.of ha,rfl,b,rfl,⟨_,f9.of hb⟩,mY (o5 (f9.of hb)) (λi=>if j<i then [u] else []) (by omega) (λp hp=>?_) (λi z hv add skip=>?_) (if_neg (Q2g _))⟩
  . rw[if_pos (List.getElem?_eq_some_iff.mp aC).1];have s1:Same H (upd H p (.lst [u])):=Same.new hp
    exact⟨_,rfl,p,_,_,_,rfl,rfl,f_.of gh,ki (j:=0) rfl,_,rfl,c1,_,_,_,rfl,rfl,f9.of (s1 _ _ L),rfl,_,rfl,c2,_,_,_,rfl,rfl,f9.of (s1 _ _ ab),rfl,
     u,u1,u2,k,v',v',ax,az,rfl,KA.mono (Tu.of s1) k ba,Fs.wK hW.2.2.2 ar,Own.same s1 ay,Own.same s1 aA,AL.of ap,by omega,ao.1,λH2 s2=>q _ (s1.trans s2)⟩
  . obtain⟨d,w',nm,k',rfl,ac,hd,bj⟩:=FA.get _ ah hv;refine⟨rfl,_,rfl,d,_,_,_,rfl,rfl,f9.of hd,rfl,_,rfl,c2,_,_,_,rfl,rfl,f9.of ab,rfl,rfl,_,rfl,h_ (λcc=>?_) (λcc=>skip ?_)⟩
    . have e:nm=x:=by
       have:=of_decide_eq_true cc;injection this
      subst e
      cases Fs.ET hW.1 ac hj;rw[aC] at hv
      cases hv;rw[hc] at hd
      cases hd;refine⟨_,rfl,c,_,_,_,rfl,rfl,f9.of hc,rfl,add _ ?_⟩;rw[if_neg (Q0u _),if_pos (Q19 _)];rfl
    . have ne:i≠j:=λe=>by
       subst e;rw[ac] at hj
       cases hj;exact cc (decide_eq_true rfl)
      by_cases aM:j<i
      . rw[if_pos aM,if_pos (by omega)]
      . rw[if_neg aM,if_neg (by omega)]
theorem EW (T:Tb mg)(I:Dn K mg "_law_alike" kX (top 43) J L):∀n:Nat,gc P w K mg base gf (n+1) J L kX (qe n)
 |0=>by
  have U:∀vs H Q E,¬qe 0 vs H Q E:=λvs H Q E h=>by
   obtain⟨_,_,_,_,d,_,_,_,_,_,_,_,_,_,Y,_⟩:=h;have:=d.mP;omega
  exact⟨λvs H Q E h=>absurd h (U vs H Q E),λA outer s H args us vs Q E _ _ _ _ h=>absurd h (U vs H Q E)⟩
 |n+1=>LB n T I (EW T I n)
theorem EX {y q:Key}:mh (kV y) (kV q)=true↔y=q:=by
 constructor
 . intro h
   cases y <;> cases q
   . exact congrArg Sum.inl (eq_of_beq (α:=Int) h)
   . cases h
   . cases h
   . exact congrArg Sum.inr (eq_of_beq (α:=Str) h)
 . rintro rfl
   cases y
   . exact BEq.rfl (α:=Int)
   . exact BEq.rfl (α:=Str)
theorem rG {q:Key}{ps:List Key}:inV (kV q) (ps.map kV)=true↔q∈ps:=by
 unfold inV;rw[Q22,Q2o];constructor
 . rintro⟨y,I,e⟩;rw[<-EX.mp e];exact I
 . exact λh=>⟨q,h,EX.mpr rfl⟩
theorem uu (q:Key):lX (kV q)=true:=by cases q <;> rfl
theorem flat_keys {ps:List Key}:(ps.map kV).all lX=true:=by
 rw[List.all_map,Q17];exact λq _=>uu q
theorem LC {H:Hp}{o:Option Kd}{k:Kd}{d:D}{v:V}{L:List Addr}(e:o=some k)(hp:jQ k)(I:ia k d)(J:Own H v d L):∃q,v=kV q/\d=kD q/\jo o q:=by
 subst e
 cases k with
 |num=>
  unfold ia at I;obtain⟨z,rfl⟩:=I;unfold Own at J;exact⟨.inl z,J.1,rfl,trivial⟩
 |iz=>
  unfold ia at I;obtain⟨z,rfl⟩:=I;unfold Own at J;exact⟨.inr z,J.1,rfl,trivial⟩
 |_=>exact hp.elim
def EY (K:W.Frag) (Pt:Addr) (N:Nat):Sp:=λvs H Q _=>∃a b ns n pk pb xs key by_ fs,∃m:Nat,vs=[.ref a,.ref b,.ref pk,.int m]/\G0 K H a b ns n/\gy Pt jm jn H/\H pk=some (.tup [.str "rows",.str key,.str by_,.ref pb])/\H pb=some (.tup xs)/\FA H xs fs/\(Kd.rows key by_ fs).W/\m<=30/\n+100<=1000000000000/\24<=N/\
 ∀D (ps:List Key) n' H',gP b Pt H H'->H' b=some (.lst [.int n'])->n<=n'->n'<=n+m->gy Pt jm jn H'->H D=none->D≠b->H' D=some (.lst (ps.map kV))->ps.Nodup->ps.length<=m->(∀p∈ps,jo (fs.get key) p)->Q (.ref D) H'
theorem LD:gQ XX XU (gp (top 46)):=g_
theorem LF {Pt:Addr}(N:Nat)(T:Tb mg)(Y:Dn K mg "_law_pool" tK (top 46) aa ab)(I:Dn K mg "_law_value" jB (top 42) J L)(U:gc P w K mg base gf (2 * N+5) J L jB (oZ K Pt N)):gc P w K mg base gf (2 * N+6) aa ab tK (EY K Pt N):=by
 refine Y.F.ok LD λvs H Q E h=>?_;obtain⟨a,b,ns,n,pk,pb,xs,key,by_,fs,m,rfl,g,hT,ar,au,am,hW,hm,hn,hN,q⟩:=h;refine⟨rfl,λaQ A outer s nd hr hu=>?_⟩
 refine⟨_,(e_ (gA 4 nd (ju (kT (g:=(iH 0)) (tt:=(jI (ie mG (ie (i9 K) (gJ 0) (tC (.int 0))) (ie (i9 K) (gJ 3) (tC (.int 1)))))) (te:=(ie (i9 K) (gJ 0) (tC (.int 1)))) (own:=["_law_pair"]) rfl (jE (N:=XX) (sc:=gp (top 46))) (lb (gq (pv 2) c_)) (λ_ _ _ _ _=>(gY (i:=0) (show(["_law_pair","_law_script","_law_at","_law_kind_here","_law_many","_law_lead","_law_pool_here","_law_k","_law_one"]:List Str).Nodup by decide +kernel) rfl (Or.inl rfl) (.inr rfl))) (λ_ _ _ _ _=>(lY (gE iu (gq (pv 0) c_) (gq (pv 3) c_) (gC _)))) (λ_ _ _ _ _=>(gq (pv 0) c_))) c_))
  (e_ (gA 5 nd (iV b_))
  (e_ (jk PassesOwn.never rfl (oA rfl T.nI (a_ (pv 3) b_)) (gY (i:=6) nd rfl iG) (e_ (gA 7 nd (gv U hr I (a_ (pv 0) (a_ (pv 1) (a_ (pv 4) (a_ c_ b_))))))
  (gi (gF (gE qO (pv 7) (pv 5) (by with_unfolding_all rfl)) (gi (kh (lg PySem.F.plainAttrs_list PySem.F.slot_list_append PySem.F.type_list_append mi (pv 5) (a_ (pv 7) b_)))) gH))))
  (gi (gw (pv 5)))))),?_⟩
 ac_rfl
 unfold Kd.W at hW;obtain⟨aJ,aT,aK,aE,aU⟩:=hW;obtain⟨k,av,ae⟩:=aE;obtain⟨j,hj⟩:=Fs.uq av;have aL:=FA.len fs am
 have an:j<xs.length:=by
  rw[aL];have:=Fs.mr fs j;rw[hj] at this;exact(List.getElem?_eq_some_iff.mp this).1
 obtain⟨cj,uj,aV,kj,ej,al,aw,ax⟩:=FA.get fs am (Q03 an);rw[hj] at al
 cases al;refine⟨_,rfl,pk,_,_,_,rfl,rfl,f9.of ar,rfl,pb,rfl,⟨_,f9.of au⟩,mY (o5 (f9.of au)) (λi=>if j<i then [uj] else []) (by omega) (λp hp=>?_) (λi z hv add skip=>?_) (if_neg (Q2g _))⟩
 case refine_2=>
  obtain⟨d,w',nm,k',rfl,ay,hd,aW⟩:=FA.get _ am hv;refine⟨rfl,_,rfl,d,_,_,_,rfl,rfl,f9.of hd,rfl,_,rfl,pk,_,_,_,rfl,rfl,f9.of ar,rfl,rfl,_,rfl,h_ (λcc=>?_) (λcc=>skip ?_)⟩
  . have e:nm=key:=by
     have:=of_decide_eq_true cc;injection this
    subst e
    cases Fs.ET aJ ay hj;rw[Q03 an,ej] at hv
    cases hv;rw[aw] at hd
    cases hd;refine⟨_,rfl,cj,_,_,_,rfl,rfl,f9.of aw,rfl,add _ ?_⟩;rw[if_neg (Q0u _),if_pos (Q19 _)];rfl
  . have ne:i≠j:=λe=>by
     subst e;rw[ay] at hj
     cases hj;exact cc (decide_eq_true rfl)
    by_cases az:j<i
    . rw[if_pos az,if_pos (by omega)]
    . rw[if_neg az,if_neg (by omega)]
 rw[if_pos an];have s1:Same H (upd H p (.lst [uj])):=Same.new hp;refine⟨p,_,_,_,rfl,rfl,f_.of gh,ki (j:=0) rfl,?_⟩;generalize upd H p (.lst [uj])=H1 at s1;have hb:=g.at_;have aX:=hT.same s1;refine⟨mR,λpr aA=>?_⟩;have s2:=s1.trans (Same.new aA (o:=.lst []));have af:H pr=none:=s1.free aA;have ao:b≠pr:=gz hb af;have aY:=KA.mono (Tu.of s2) k ax;have ai:=hT.same s2;obtain⟨aZ,hP⟩:=hT.tab;have k9:Pt≠pr:=gz hP af;have em:Int.toNat (m:Int)=m:=by omega
 refine⟨_,rfl,_,rfl,by omega,by omega,nj (n:=Int.toNat (m:Int)) (λi σ H'=>∃(x z:Option V) (ps:List Key) (n':Int),σ=[some (.ref a),some (.ref b),some (.ref pk),some (.int m),some uj,some (.ref pr),x,z]/\gP b Pt H H'/\H' b=some (.lst [.int n'])/\n<=n'/\n'<=n+i/\gy Pt jm jn H'/\H' pr=some (.lst (ps.map kV))/\ps.Nodup/\ps.length<=i/\∀p∈ps,jo (fs.get key) p) ?_ ?_ ?_⟩
 . exact⟨_,_,[],n,rfl,Kp.of s2,s2 _ _ hb,Q1j _,by omega,ai,gh,Q0o,Q00 _,λp hp=>nomatch hp⟩
 . intro i σ H' hi zq;obtain⟨x,z,ps,n',rfl,kp,ap,w1,w2,aq,ag,aj,ah,ak⟩:=zq;rw[em] at hi;have aB:=Fs.pP aK hj;have a1:k.dep=1:=by cases k with|num=>rfl|iz=>rfl|_=>exact ae.elim
   have a2:kc k 0<=1:=by cases k with|num=>exact Q00 _|iz=>exact Q00 _|_=>exact ae.elim
   refine⟨_,rfl,_,rfl,_,rfl,a,b,ns,n',uj,k,0,rfl,gP.g0 kp g hT ap w1,aq,KA.mono (kp.tu hb hT) k ax,aB,by decide,(by have:=we k 0;omega),by omega,λv H2 fp gX aC ai aH _ _=>?_⟩;have c2:=pU ns k 0 n' (by decide);have a3:k.cB<=1:=by cases k with|num=>exact Q00 _|iz=>exact Q00 _|_=>exact ae.elim
   obtain⟨qk,rfl,_,aM⟩:=LC av ae (tz ns k aB 0 n' (by decide)) aH;generalize (val ns k 0 n').2=n2 at *;have ac:H2 pr=some (.lst (ps.map kV)):=gX pr _ (λz=>z.elim (Ne.symm ao) (Ne.symm k9)) ag;have aD:=kp.trans gX;refine⟨_,rfl,_,rfl,pr,_,rfl,.inl (f_.of ac),uu _,flat_keys,_,rfl,h_ (λcc=>?_) (λcc=>?_)⟩
   . have aP:qk ∉ ps:=λz=>by
      have cc:(!inV (kV qk) (ps.map kV))=true:=cc;rw[rG.mpr z] at cc
      cases cc
     refine⟨_,rfl,.inl ⟨rfl,_,f_.of ac⟩,_,rfl,pr,_,_,rfl,rfl,ac,iF (by rw[Q0];omega),?_⟩;refine⟨_,_,ps++[qk],n2,rfl,λc o nc e=>?_,by rw[d_ ao];exact aC,by omega,by omega,ai.wr (.inl ⟨_,ac⟩),by rw[Q0b];exact gh,?_,by rw[Q09];show ps.length+1<=i+1;omega,λp hp=>?_⟩
     . rw[d_ (gz e af)];exact aD c o nc e
     . exact List.nodup_append.mpr ⟨aj,List.nodup_cons.mpr ⟨by simp,Q0o⟩,λa ha b hb e=>by rw[List.mem_singleton.mp hb] at e;rw[e] at ha;exact aP ha⟩
     . rcases List.mem_append.mp hp with z|z
       . exact ak p z
       . rw[List.mem_singleton.mp z];exact aM
   . exact⟨_,_,ps,n2,rfl,aD,aC,by omega,by omega,ai,ac,aj,by omega,ak⟩
 . intro σ H' zq;obtain⟨x,z,ps,n',rfl,kp,ap,w1,w2,aq,ag,aj,ah,ak⟩:=zq;rw[em] at w2 ah;exact⟨_,rfl,q pr ps n' H' kp ap w1 w2 aq af (Ne.symm ao) ag aj ah ak⟩
end Pb
namespace L2
open Spec PyProof.Rows
section
variable {prog:Program}{w:World}{A:Around}{E:Value->Shared->Prop}{hp:Heap}{g:Array GenState}{dr:Drawn}{tk:Nat}{os:OsState}{C fI:Addr}{Oi:List Value}{B nid Oj:String}
end
end L2
namespace L2
open Spec Calls PyProof.Rows W Builtin Builtin.ObjectAttr
section
variable {prog:Program}{w:World}{A:Around}{E:Value->Shared->Prop}{s:Shared}{K:Frag}{x C:Addr}{ox:Obj}{name:Str}{v:Value}
end
end L2
namespace L2
open Spec Calls PyProof.Rows W Builtin Builtin.ObjectAttr Builtin.Getset_descriptor
section
variable {prog:Program}{w:World}{A:Around}{E:Value->Shared->Prop}{K:Frag}{h:Heap}{g:Array GenState}{d:Drawn}{t:Nat}{os:OsState}{a C dx:Addr}{o:Obj}{vs:Array Value}{mA:Str->Option Value}{name:Str}{v:Value}
end
end L2
namespace L2
open Spec PyProof.Rows
section
variable {M:Model}{A:Around}{E:Value->Shared->Prop}{s:Shared}
structure nX (h:Heap) (e T:Addr) (cls:Value) (dd:Option Addr) (fl:Value):Prop where
 ex:∃oe vs,h.get? e=some oe/\oe.cls=cls/\oe.dict=dd/\oe.data=.fields vs/\vs[1]? =some (.ref T)
 tb:∃oT ts,h.get? T=some oT/\oT.data=.fields ts/\ts[3]? =some fl
 ne:T≠e
theorem EZ {e T:Addr}{cls fl:Value}{U:Option Addr}{Q:Unit->Shared->Prop}(t:nX s.heap e T cls U fl)(h:∀h',nX h' e T cls U .none->(∀b o,b≠T->s.heap.get? b=some o->h'.get? b=some o)->(∃o',h'.get? T=some o')->Q () { s with heap:=h' }):wpAny M A (setFlight (.ref e) none) Q E s:=by
 obtain⟨⟨Y,vs,he,hc,L,hd,h1⟩,⟨oT,ts,hT,I,h3⟩,ne⟩:=t;have em:Obj.mapFields (·.setIfInBounds 3 ((none:Option Addr).elim Value.none λf=>rawInt f)) oT={ oT with data:=.fields (ts.setIfInBounds 3 .none) }:=vH I;have hsz:=(Array.getElem?_eq_some_iff.mp h3).1;unfold setFlight;refine Q01 (wpAny_field he hd h1 ?_);rw[if_pos (show(Value.ref T != Value.none)=true by simp)];have self:=Q1x (Obj.mapFields (·.setIfInBounds 3 ((none:Option Addr).elim Value.none λf=>rawInt f))) hT (by rw[em];exact Obj.isFreed_of_fields rfl);rw[em] at self
 have J:∀b o,b≠T->s.heap.get? b=some o->(s.heap.update T (Obj.mapFields (·.setIfInBounds 3 ((none:Option Addr).elim Value.none λf=>rawInt f)))).get? b=some o:=λb o hb ho=>by
  rw[Q1c _ _ (Ne.symm hb)];exact ho
 exact wpAny_setField hT I hsz (h _ ⟨⟨Y,vs,J e Y (Ne.symm ne) he,hc,L,hd,h1⟩,⟨_,_,self,rfl,by simp[hsz]⟩,ne⟩ J ⟨_,self⟩)
theorem LH {base:Heap}{env:Env}{outer:List Env}{L e T:Addr}{cls:Value}{dd:Option Addr}{Q:Unit->Shared->Prop}(ae:A.frames=some (env::outer))(hl:s.heap.FunFrames base (env::outer))(hf:env.frame=some L)(t:nX s.heap e T cls dd .none)
 (h:∀(h':Heap) (T':Addr),s.heap.objs.size<=T'->(∀b o,b ∉ frs (env::outer)->b≠e->b≠T->s.heap.get? b=some o->h'.get? b=some o)->(∀b o,b≠e->b≠T->s.heap.get? b=some o->∃sl,h'.get? b=some { o with slots:=sl })->(∃o,h'.get? T=some o)->nX h' e T' cls dd (rawInt L)->Q () { s with heap:=h' }):
 wpAny M A (noteFrame (.ref e) env) Q E s:=by
 obtain⟨⟨oe,vs,he,hc,af,hd,h1⟩,⟨oT,ts,hT,J,h3⟩,ne⟩:=t;have hsz:=(Array.getElem?_eq_some_iff.mp h3).1;have em:Obj.mapFields (·.setIfInBounds 3 Value.none) oT={ oT with data:=.fields (ts.setIfInBounds 3 .none) }:=vH J;unfold noteFrame;simp only[hf];refine Q01 (wpAny_field he hd h1 ?_);rw[if_pos (show(Value.ref T != Value.none)=true by simp)];refine Q01 (wpAny_field hT J h3 ?_);rw[if_neg (show ¬(Value.none == rawInt L)=true by simp[rawInt])];refine Q01 (wpAny_setField hT J hsz ?_);have self:=Q1x (Obj.mapFields (·.setIfInBounds 3 Value.none)) hT (by rw[em];exact Obj.isFreed_of_fields rfl);rw[em] at self
 have U:∀b o,b≠T->s.heap.get? b=some o->(s.heap.update T (Obj.mapFields (·.setIfInBounds 3 Value.none))).get? b=some o:=λb o hb I=>by
  rw[Q1c _ _ (Ne.symm hb)];exact I
 have nT:∀b o,s.heap.get? b=some o->(∀vs,o.data≠ .fields vs)->b≠T:=λb o I hn z=>by
  rw[z,hT] at I
  cases I;exact hn ts J
 have ab:(s.heap.update T (Obj.mapFields (·.setIfInBounds 3 Value.none))).objs.size=s.heap.objs.size:=Q2 _ _ _;refine J6 (s:={ s with heap:=s.heap.update T (Obj.mapFields (·.setIfInBounds 3 Value.none)) }) ae (hl.of_keeps λb o I hn=>⟨o,U b o (nT b o I hn) I,rfl⟩) hf (U e oe (Ne.symm ne) he) hd (Array.getElem?_eq_some_iff.mp h1).1 λh' T' ag hP ah ai=>?_;have ac:s.heap.objs.size<=T':=by rw[<-ab];exact ag
 refine h h' T' ac (λb o hb Y aa I=>hP.1 b o hb Y (U b o aa I)) (λb o Y aa I=>hP.2 b o Y (U b o aa I)) ?_ ⟨⟨_,_,ah,hc,af,rfl,by simp[(Array.getElem?_eq_some_iff.mp h1).1]⟩,ai,?_⟩
 . obtain⟨sl,hs⟩:=hP.2 T _ ne self;exact⟨_,hs⟩
 . have h1:e<s.heap.objs.size:=Q04 he;exact λz=>Q0u e (Q0f h1 (by rw[<-z];exact ac))
end
section
variable {X:Cx}{pins:List (Addr × Obj)}{σ:St}{H:Hp}{s:Shared}
end
def LI (P:Program) (w:World):j3:=λouter H s E e s'=>∃(a T C:Addr) (I:Option Addr) (H':Hp),e=.ref a/\nX s'.heap a T (.ref C) I .none/\s.heap.get? a=none/\s.heap.get? T=none/\H' a=none/\H' T=none/\s'.os=s.os/\AllBare s'.gens/\Un (frs outer) [] H H' s.heap s'.heap/\iN P w H' s'.heap/\E (.ref C) I H'
section
variable {M:Model}{A:Around}{E:Value->Shared->Prop}{s:Shared}
end
section
variable {X:Cx}{pins:List (Addr × Obj)}{σ:St}{H:Hp}{s:Shared}
end
noncomputable def o6 (a C:Addr) (I:Option Addr):HO:=.ext λh=>∃o,h.get? a=some o/\o.cls=.ref C/\o.dict=I/\∃vs,o.data=.fields vs
theorem o6.ok {P:Program}{w:World}{H:Hp}{h:Heap}{a C:Addr}{I:Option Addr}(e:∃o,h.get? a=some o/\o.cls=.ref C/\o.dict=I/\∃vs,o.data=.fields vs):iQ P w H h a (o6 a C I):=
 ⟨e,let⟨o,h1,_⟩:=e;⟨o,h1⟩,λ_ _ ⟨o,h1,h2⟩ k=>⟨o,k o h1,h2⟩⟩
def wR (X:Cx) (pins:List (Addr × Obj)) (σ:St) (Ek:XK) (e:Value) (s':Shared):Prop:=∃H s,Inv X pins σ H s/\LI X.prog X.w X.stack H s Ek e s'
def E1 (X:Cx) (Ek:XK) (e:Expr) (t:TE):Prop:=
 ∀(pins:List (Addr × Obj)) (s:Shared) (σ:St) (H:Hp) (Q:VK),Inv X pins σ H s->t σ H Q->wpAny (model X.prog X.w) X.A (eval e X.env) (EP X pins σ Q) (wR X pins σ Ek) s
def E2 (X:Cx) (Ek:XK) (st:List Stmt) (t:TS):Prop:=
 ∀(pins:List (Addr × Obj)) (s:Shared) (σ:St) (H:Hp) (D:Ends),Inv X pins σ H s->t D σ H->wpAny (model X.prog X.w) X.A (execs st X.env) (SP X pins D) (wR X pins σ Ek) s
section
variable {X:Cx}{k:Nat}{f:Addr}{fd:FuncData}{ps:List Str}{sp:Sp}{jg:List V}{ds:List Value}{Ek:XK}{x:Str}{p pos:Pos}{e:Expr}{es:List Expr}{t:TA}{te:TE}
theorem LJ {i:Nat}{y:Str}{pos':Pos}(J:X.N.Nodup)(hi:X.N[i]? =some y)(L:Loc X.env.scope y)(U:E1 X Ek e te)(Y:swapsWith e (some (.Name y pos')) pos.line X.env=pure false:=by rfl)(hf:X.fn y=true\/X.env.scope.names.lookup y=some .local:=by first|exact .inl rfl|exact .inr rfl|assumption):
 E2 X Ek [.Assign [.Name y pos'] e pos] (oy te (iH i)):=by
 intro pins s σ H D I h;refine wpAny_execs_cons (wpAny_Assign_Name (Q0s (U pins s σ H _ I h) (λv s1 zq=>?_) λ_ _ z=>z) Y);obtain⟨z,H1,I1,r1,q1⟩:=zq;exact qH I1 J hi L r1 (λs2 I2=>wpAny_execs_nil ⟨_,H1,I2,q1⟩) hf
end
theorem LK {X:Cx}{pins:List (Addr × Obj)}{σ:St}{Ek:XK}{e:Value}{s':Shared}{Q:Unit->Shared->Prop}{E:Value->Shared->Prop}(ac:X.stack=X.env::X.outer)(ah:X.env.frame=some X.env.locals)(h:wR X pins σ Ek e s')
 (q:∀(a C T:Addr) (U:Option Addr) (H':Hp) (h2:Heap),e=.ref a->H' a=none->Ek (.ref C) U H'->nX h2 a T (.ref C) U .none->Inv X pins σ (upd H' a (o6 a C U)) { s' with heap:=h2 }->
   (∀L:Heap,nX L a T (.ref C) U .none->(∀b o,b≠T->h2.get? b=some o->L.get? b=some o)->Inv X pins σ (upd H' a (o6 a C U)) { s' with heap:=L })->Q () { s' with heap:=h2 }):
 wpAny (model X.prog X.w) X.A (noteFrame e X.env) (λ_ s2=>wpAny (model X.prog X.w) X.A (setFlight e none) Q E s2) E s':=by
 obtain⟨H,s,I,a,T,C,U,H',rfl,t,la,lT,na,nT,os,ab,un,ae,hE⟩:=h;have I':=I.call' (s':=s') (ch:=[]) os un ae ab (λb z=>absurd z (by simp));have ai:X.A.frames=some (X.env::X.outer):=by rw[<-ac];exact I.ok.frames
 have hl:s'.heap.FunFrames X.base (X.env::X.outer):=by rw[<-ac];exact I'.stack
 refine LH ai hl ah t λh1 T1 aj k1 k2 an t1=>?_;refine EZ (s:={ s' with heap:=h1 }) t1 λh2 t2 k3 ao=>?_
 have aa:∀b o,s'.heap.get? b=some o->b≠T1:=λb o e z=>by
  have L:=Q04 e;rw[z] at L;exact Q0u _ (Q0f L aj)
 have key:∀L:Heap,nX L a T1 (.ref C) U .none->(∀b o,b≠T1->h2.get? b=some o->L.get? b=some o)->Inv X pins σ (upd H' a (o6 a C U)) { s' with heap:=L }:=λL t3 k4=>by
  have m1:∀b o,b ∉ frs X.stack->b≠a->b≠T->s'.heap.get? b=some o->L.get? b=some o:=λb o Y n1 n2 e=>
   k4 b o (aa b o e) (k3 b o (aa b o e) (k1 b o (by rw[<-ac];exact Y) n1 n2 e))
  have m2:∀b o,b≠a->b≠T->s'.heap.get? b=some o->∃sl,L.get? b=some { o with slots:=sl }:=λb o n1 n2 e=>by
   obtain⟨sl,e1⟩:=k2 b o n1 n2 e;exact⟨sl,k4 b _ (aa b o e) (k3 b _ (aa b o e) e1)⟩
  have J:∀b o,s.heap.get? b=some o->b≠a/\b≠T:=λb o e=>⟨(λz=>by rw[z,la] at e;cases e),λz=>by rw[z,lT] at e;cases e⟩;refine I.call' (s':={ s' with heap:=L }) (ch:=[]) os ⟨λb o e n Y _=>?_,λb o e n Y hx=>?_,λb o e n hx=>?_,λb o e hx=>?_,λb xs e=>?_,λb o u e=>?_,λb ps e=>?_⟩ (λb o e=>?_) ab (λb z=>absurd z (by simp))
  . exact m1 b o Y (J b o e).1 (J b o e).2 (un.keep b o e n Y (by simp))
  . obtain⟨sl,e1⟩:=un.slot b o e n Y hx;obtain⟨af,e2⟩:=m2 b _ (J b o e).1 (J b o e).2 e1;exact⟨af,e2⟩
  . rw[d_ (J b o e).1];exact un.free b o e n hx
  . obtain⟨o',e1⟩:=un.there b o e hx;obtain⟨af,e2⟩:=m2 b _ (J b o e).1 (J b o e).2 e1;exact⟨_,e2⟩
  . have:=un.tups b xs e;rw[d_ (gz this na)];exact this
  . have:=un.ke b o u e;rw[d_ (gz this na)];exact this
  . obtain⟨ag,this⟩:=un.kK b ps e;exact⟨ag,by rw[d_ (gz this na)];exact this⟩
  . by_cases Y:b=a
    . subst Y;rw[gh] at e
      cases e;obtain⟨oe,vs,he,hc,ak,al,_⟩:=t3.ex;exact o6.ok ⟨oe,he,hc,ak,vs,al⟩
    . rw[d_ Y] at e;refine(ae b o e).stay (λc u hc r=>?_) (λc r=>by rw[d_ (gz r na)];exact r) λc xs r=>by rw[d_ (gz r na)];exact r
      have am:∃v,H' c=some v:=by
       rcases hc with z|z
       . exact⟨o,by rw[z];exact e⟩
       . exact⟨_,z⟩
      obtain⟨v,hv⟩:=am;refine m1 c u (λz=>?_) (gz hv na) (gz hv nT) r;rw[I'.rZ c z] at hv;cases hv
 exact q a C T1 U H' h2 rfl na hE t2 (key h2 t2 λ_ _ _ e=>e) key
def LL (Ek:XK) (i:Nat) (tb J:TS):TS:=λD σ H=>tb D σ H/\∀(a C:Addr) (I:Option Addr) (H':Hp),H' a=none->Ek (.ref C) I H'->J (D.un i) (σ.set i (some (.ref a))) (upd H' a (o6 a C I))
theorem LM {X:Cx}{body:List Stmt}{x n:Str}{Dc:Addr}{Ek:XK}{i:Nat}{U:Stmt}{L:List Stmt}{np ab pos:Pos}{tb ts:TS}(ac:X.stack=X.env::X.outer)(ae:X.env.frame=some X.env.locals)
 (hb:E2 X Ek body tb) (hg:Gl X x) (hm:X.mg x=some (.ref Dc)) (h1:W.typeIn X.K (.ref Dc)=some (.type "type")) (h2:(W.clsIn X.K Dc).isSome=true) (h3:W.subIn X.K (.ref Dc) (.type "BaseException")=some true)
 (h4:∀C dd H,Ek (.ref C) dd H->W.subIn X.K (.ref C) (.ref Dc)=some true) (hN:X.N.Nodup) (hi:X.N[i]? =some n) (J:X.env.kindOf n=some .local) (hs:∀a,jX (X.marked a) (U::L) ts) (hd:(x == ("__debug__":Str))=false:=by decide):
 PS X (.Try body [.ExceptHandler (some (.Name x np)) (some n) (U::L) ab] [] [] pos) (LL Ek i tb ts):=by
 intro pins s σ H D I h;obtain⟨hq,hk⟩:=h;refine wpAny_Try_except (Q0s (hb pins s σ H D I hq) (λf s1 q=>?_) λe s1 z=>?_)
 . cases f with
   |next=>exact wpAny_execs_nil q
   |ret v=>exact q
   |brk=>exact q
   |cont=>exact q
 . refine LK ac ae z λa C T dd H' ag e1 na hE t2 I2 key=>?_;subst e1;have ok:=I2.ok;refine wpAny_handleBy_cons (codeAny_handlers_test ?_) (by intro q;cases q);refine uQ (X:=X.marked a) (I2.marked a) hg hm ?_ hd;obtain⟨oe,vs,he,hc,_⟩:=id t2.ex;refine J7 I2.i4 h1 h2 h3 (h4 C dd H' hE) he hc ?_;simp only[if_true];refine codeAny_handlers_suite_as ?_;refine EZ t2 λaf t3 k3 _=>?_;have I3:=key af t3 k3;refine qH I3 hN hi (.inl J) (show RelV (.ref a) (.ref a) from rfl) (λs4 I4=>?_) (.inr J);refine Q0s (hs a pins s4 _ _ (D.un i) (I4.marked a) (hk a C dd H' na hE)) (λf s5 q=>?_) λ_ _ z=>False.elim z;show wpAny _ _ _ _ _ _
   cases f with
   |next=>
    obtain⟨aa,H5,Y,q⟩:=q;exact(Y.unmarked ok).unbind hN hi J λs6 I6=>⟨_,_,I6,q⟩
   |ret v=>
    obtain⟨y,aa,H5,Y,r,q⟩:=q;exact(Y.unmarked ok).unbind hN hi J λs6 I6=>⟨y,_,_,I6,r,q⟩
   |brk=>
    obtain⟨aa,H5,Y,q⟩:=q;exact(Y.unmarked ok).unbind hN hi J λs6 I6=>⟨_,_,I6,q⟩
   |cont=>
    obtain⟨aa,H5,Y,q⟩:=q;exact(Y.unmarked ok).unbind hN hi J λs6 I6=>⟨_,_,I6,q⟩
section
variable {X:Cx}{pins:List (Addr × Obj)}{σ:St}{H:Hp}{s:Shared}
end
section
variable {X:Cx}
end
section
variable {X:Cx}{k:Nat}{f C:Addr}{fd:FuncData}{ps:List Str}{sp:Sp}{Ek:XK}{m:Str}{p pos apos:Pos}{e o:Expr}{es:List Expr}{t:TA}{te ta:TE}
theorem LN (J:PE X.gN e te):E1 X Ek e te:=λpins s σ H Q I h=>
 Q0s (J pins s σ H Q (I.wish _) h) (λ_ _ ⟨v,H',L,r,q⟩=>⟨v,H',L.mD,r,q⟩) λ_ _ z=>False.elim z
end
end L2
namespace Pb
open L2 PyProof.Rows
theorem str1 {f g:Str}{rest:List V}{K:W.Frag}{H:Hp}:vG K H 0 (.str f::rest) [.str g] (λ_=>decide (f=g)):=λj x y h1 h2=>by
 cases j with
 |zero=>
  cases h1
  cases h2;exact iW.str f g
 |succ j=>cases h2
theorem LO (f g:Str)(rest:List V):((List.range (min (V.str f::rest).length [V.str g].length)).all (λ_=>decide (f=g)) && (V.str f::rest).length == [V.str g].length)=(decide (f=g) && decide (rest=[])):=by
 have I:min (V.str f::rest).length [V.str g].length=1:=by
  rw[Q0k];show min (rest.length+1) 1=1;omega
 rw[I];congr 1
 . show(decide (f=g) && true)=_;rw[Bool.and_true]
 . cases rest with
   |nil=>rfl
   |cons a r=>rfl
noncomputable def Kd.nm:Kd->Str
 | .num=>"number"
 | .iz=>"word"
 | .iD _=>"record"
 | .rows _ _ _=>"rows"
 | .tree _=>"tree"
 | .jd _=>"either"
noncomputable def jC:Kd->Bool
 | .num=>true
 | .iz=>true
 |_=>false
theorem KA.head {H:Hp}{u:V}{k:Kd}(h:KA H u k):∃a rest,u=.ref a/\H a=some (.tup (.str k.nm::rest))/\(rest=[]↔jC k=true):=by
 cases k <;> unfold KA at h
 . obtain⟨a,e,q⟩:=h;exact⟨a,_,e,q,by constructor <;> intro _ <;> rfl⟩
 . obtain⟨a,e,q⟩:=h;exact⟨a,_,e,q,by constructor <;> intro _ <;> rfl⟩
 . obtain⟨a,b,vs,e,q,_⟩:=h;exact⟨a,_,e,q,by constructor <;> intro z <;> cases z⟩
 . obtain⟨a,b,vs,e,q,_⟩:=h;exact⟨a,_,e,q,by constructor <;> intro z <;> cases z⟩
 . obtain⟨a,b,e,q,_⟩:=h;exact⟨a,_,e,q,by constructor <;> intro z <;> cases z⟩
 . obtain⟨a,b,vs,e,q,_⟩:=h;exact⟨a,_,e,q,by constructor <;> intro z <;> cases z⟩
theorem uv {K:W.Frag}{H:Hp}{u:V}{k:Kd}{t:Addr}{g:Str}{Q:VK}(J:KA H u k)(ht:H t=some (.tup [.str g]))(q:Q (.bl (decide (k.nm=g) && jC k)) H):s_ K 0 u (.ref t) H Q:=by
 obtain⟨a,rest,rfl,L,I⟩:=J.head;refine .inr ⟨a,t,_,_,_,rfl,rfl,str1,.inr ⟨f9.of L,f9.of ht,?_⟩⟩;rw[LO]
 have:decide (rest=[])=jC k:=by
  cases e:jC k with
  |true=>exact decide_eq_true (I.mpr e)
  |false=>exact decide_eq_false (λz=>by rw[I.mp z] at e;cases e)
 rw[this];exact q
def wU:Sp:=λvs H Q _=>∃u k,vs=[u]/\KA H u k/\∀H',Same H H'->Q (.bl (jC k)) H'
def E3:Sp:=λvs H Q _=>vs=[.bl true]/\Q .non H
variable {P:Program}{w:World}{K:W.Frag}{mg:Str->Option Value}{base:Heap}
theorem LQ:gQ ["kind"] ["kind"] (gp (top 6)):=g_
theorem LR (T:Tb mg)(I:Dn K mg "is_plain" ["kind"] (top 6) J L):gc P w K mg base gf (1) J L ["kind"] (wU):=by
 refine I.F.ok LQ λvs H Q E h=>?_;obtain⟨u,k,rfl,Y,q⟩:=h;refine⟨rfl,λaa A outer s nd hr hu=>?_⟩;refine⟨_,(gi (gw (Hw (mH (tf (n:=0) hu) (pv 0) (iP (a_ gW b_)) (gC _)) (ot (mH (tf (n:=0) hu) (pv 0) (iP (a_ gW b_)) (gC _)))))),?_⟩
 ac_rfl
 refine⟨_,rfl,jR,λt ht=>?_⟩;have U:Same H (upd H t (.tup [.str "number"])):=Same.new ht;refine uv (KA.mono (Tu.of U) k Y) gh ⟨_,rfl,h_ (λc=>?_) (λc=>?_)⟩
 . have e:jC k=true:=by
    have c:(decide (k.nm="number") && jC k)=true:=c;rw[Bool.and_eq_true] at c;exact c.2
   rw[e] at q;have c:(decide (k.nm="number") && jC k)=true:=c
   first
    |exact q _ U
    |(rw[c];exact q _ U)
 . refine⟨_,rfl,jR,λt2 jS=>?_⟩;have s2:=U.trans (Same.new (o:=.tup [.str "word"]) jS);refine uv (KA.mono (Tu.of s2) k Y) gh ?_
   have e:(decide (k.nm="word") && jC k)=jC k:=by
    cases k
    case num=>exact absurd rfl c
    case iz=>rfl
    all_goals exact Bool.and_false _
   rw[e];exact q _ s2
theorem LU:gQ ["stands"] ["stands"] (gp (top 22)):=g_
theorem LV (T:Tb mg)(I:Dn K mg "ask_stands" ["stands"] (top 22) J L):gc P w K mg base gf (1) J L ["stands"] (E3):=by
 refine I.F.ok LU λvs H Q E h=>?_;obtain⟨rfl,q⟩:=h;refine⟨rfl,λU A outer s nd Y hu=>?_⟩;refine⟨_,(gi (gF (jq (jf (pv 0))) (gi me) gH)),?_⟩
 ac_rfl
 exact⟨_,rfl,true,rfl,h9 q⟩
noncomputable def LW (st:Stmt):Pos:=match iI st with
 | .Assign _ (.Call _ [.Call _ _ [⟨_,.Lambda _ _ _ I,_⟩] _] _ _) _::_=>I
 |_=>⟨0,0,0,0⟩
noncomputable abbrev jT:Pos:=LW (top 8)
noncomputable abbrev jU:Str:=("sorted_fields":Str)++".<locals>."++"<lambda>"
noncomputable abbrev Zd:=V × Str × Kd
def LX (H:Hp) (z:Zd):Prop:=∃c u,z.1=.ref c/\H c=some (.tup [.str z.2.1,u])/\KA H u z.2.2
def ZL (H:Hp) (zs:List Zd):Prop:=∀z∈zs,LX H z
theorem ZL.mono {H H':Hp}(t:Tu H H'){zs:List Zd}(h:ZL H zs):ZL H' zs:=λz I=>by
 obtain⟨c,u,e,h1,h2⟩:=h z I;exact⟨c,u,e,t _ _ h1,KA.mono t _ h2⟩
noncomputable def gG (zs:List Zd):List V:=zs.map (·.1)
noncomputable def gT (zs:List Zd):List Str:=zs.map (·.2.1)
theorem jM (zs:List Zd):(gG zs).length=zs.length:=Q0 _
theorem mz (zs:List Zd):(gT zs).length=zs.length:=Q0 _
noncomputable def z0:Zd:=(.non,"",.num)
noncomputable def gm:List Zd->Fs
 |[]=>.nil
 |z::r=>.cons z.2.1 z.2.2 (gm r)
theorem kJ:∀zs:List Zd,(gm zs).names=gT zs
 |[]=>rfl
 |z::r=>by show z.2.1::(gm r).names=_;rw[kJ r];rfl
theorem kZ {H:Hp}:∀{zs:List Zd},ZL H zs->FA H (gG zs) (gm zs)
 |[],_=>by
  show FA H [] .nil;unfold FA;rfl
 |z::r,h=>by
  obtain⟨c,u,e,h1,h2⟩:=h z Q02;have I:=kZ (zs:=r) λy J=>h y (Q07 _ J);show FA H (z.1::gG r) (.cons z.2.1 z.2.2 (gm r));rw[e];unfold FA;exact⟨c,u,_,rfl,h1,h2,I⟩
theorem E4 {H:Hp}:∀{fs:Fs}{xs:List V},FA H xs fs->∃zs:List Zd,gG zs=xs/\gm zs=fs/\ZL H zs
 | .nil,xs,h=>by
   unfold FA at h;exact⟨[],h.symm,rfl,λz I=>nomatch I⟩
 | .cons x k r,xs,h=>by
   unfold FA at h;obtain⟨c,u,vr,rfl,h1,h2,J⟩:=h;obtain⟨zs,L,U,Y⟩:=E4 J;refine⟨(.ref c,x,k)::zs,by show _::gG zs=_;rw[L],by show Fs.cons x k (gm zs)=_;rw[U],λz I=>?_⟩;rcases List.mem_cons.mp I with e|e
   . rw[e];exact⟨c,u,rfl,h1,h2⟩
   . exact Y z e
theorem LY (zs:List Zd)(p:List Nat):gG (p.map λi=>zs.getD i z0)=p.map λi=>(gG zs).getD i .non:=by
 unfold gG;rw[Q0z];refine Q1i λi _=>?_;show(zs.getD i z0).1=_;rw[Q05,Q05,Q0h]
 cases zs[i]? <;> rfl
theorem LZ (zs:List Zd){p:List Nat}(h:p.Perm (List.range zs.length)):(p.map λi=>zs.getD i z0).Perm zs:=by
 have:=h.map λi=>zs.getD i z0;rw[C4] at this;exact this
theorem wV {K:W.Frag}{P l:Addr}{lp:Pos}{ql:Str}{σ:L2.St}{H:Hp}{Q:VK}{zs:List Zd}(hl:f_ K H l (gG zs))(hz:ZL H zs)(af:zs.length<=20)(hT:gy P lp ql H)
 (q:∀rs D H',lA P H H'->gy P lp ql H'->rs.Perm zs->(gT rs).Pairwise sle->H' D=some (.lst (gG rs))->Q (.ref D) H'):sZ K P lp ql (ie (i9 K) (gJ 0) (tC (.int 0))) σ Q (.ref l) H:=by
 refine⟨l,gG zs,rfl,hl,by rw[jM];omega,hT,λc' H2 Y mono=>?_⟩;have gX:lA P H H2:=λcc o hc e=>mono cc o hc e;obtain⟨ps,hP⟩:=hT.tab;have ab:ZL H2 zs:=hz.mono λc xs h=>gX c _ (gR h hP (by intro z;cases z)) h;refine⟨λks U=>U=H2/\ks.length<=zs.length/\ks=((gT zs).map V.str).take ks.length,⟨rfl,Q0g _,rfl⟩,λks U hw=>by rw[hw.1];exact Y,?_,?_⟩
 . rintro ks U yv ⟨rfl,ag,I⟩ hy;have hy:(zs.map (·.1))[ks.length]? =some yv:=hy;obtain⟨z,J,rfl⟩:=Option.map_eq_some_iff.mp (List.getElem?_map.symm.trans hy);obtain⟨cc,u,ec,hc,hk⟩:=ab z (Q0j J);rw[ec];have ac:ks.length<zs.length:=(List.getElem?_eq_some_iff.mp J).1;refine⟨_,rfl,cc,_,_,_,rfl,rfl,f9.of hc,rfl,rfl,by rw[Q09];exact ac,?_⟩;rw[Q09];show _=List.take (ks.length+1) _;rw[Q0q,<-I,Q0h]
   have:(gT zs)[ks.length]? =some z.2.1:=by
    show(zs.map (·.2.1))[ks.length]? =_;rw[Q0h,J];rfl
   rw[this];rfl
 . rintro ks U ⟨rfl,_,I⟩ aa
   have I:ks=(gT zs).map V.str:=by
    rw[I,aa,jM,Q15 (by rw[Q0,mz];exact Q00 _)]
   refine⟨gT zs,I,λp L hs D hD=>?_⟩;rw[jM] at L;rw[<-LY];have sD:Same U (upd U D (.lst (gG (p.map λi=>zs.getD i z0)))):=Same.new hD;refine q _ D _ (gX.trans (Kp.of sD)) (.inr ⟨c',Y.mono λb o _ e=>sD _ _ e⟩) (LZ zs L) ?_ gh;show((p.map λi=>zs.getD i z0).map (·.2.1)).Pairwise sle;rw[Q0z,Q12];rw[Q12] at hs;refine List.Pairwise.imp_of_mem (λ{i j} hi hj h=>?_) hs
   have ge:∀i∈p,((gT zs).map iB).getD i []=iB (zs.getD i z0).2.1:=λi hi=>by
    have ae:i<zs.length:=by
     have:=L.mem_iff.mp hi;simpa using this
    unfold gT;rw[Q05,Q05,Q0h,Q0h,Q03 ae];rfl
   rw[ge i hi,ge j hj] at h;exact h
def E5 (K:W.Frag) (Pf:Addr):Sp:=λvs H Q E=>∃l zs,vs=[.ref l]/\f_ K H l (gG zs)/\ZL H zs/\zs.length<=13/\gy Pf jT jU H/\(gT zs).Nodup/\
 ∀I t H',lA Pf H H'->gy Pf jT jU H'->I.Perm zs->(gT I).Pairwise sle->H' t=some (.tup (gG I))->Q (.ref t) H'
theorem E6:gQ ["pairs","fields","number","name"] ["pairs"] (gp (top 8)):=g_
theorem L0 {Pf c:Addr}(T:Tb mg)(J:Dn K mg "sorted_fields" ["pairs"] (top 8) L I)(aa:I.code=.ref c)(ak:W.CodeHd base c Pf)(al:BM mg base):gc P w K mg base gf (8) L I ["pairs"] (E5 K Pf):=by
 refine J.F.oR aa E6 (λvs H Q E h=>?_) (λA outer s H vs Q E hr h=>?_)
 . obtain⟨l,zs,rfl,_⟩:=h;rfl
 obtain⟨l,zs,rfl,hl,hz,ab,hT,am,q1⟩:=h;have nd:=E6.nd;have hu:=qU hr
 refine⟨_,(e_ (gA 1 nd (lW pH (by rfl) T.nJ boot_tuple (a_ (vJ (te:=(ie (i9 K) (gJ 0) (tC (.int 0)))) (x:="pair") (N':=["","","",""]) rfl T.mw boot_sorted hr rfl rfl ak al (kU.of (N:=["pairs","fields","number","name"]) (sc:=gp (top 8)) rfl rfl rfl rfl rfl (by decide +kernel)) rfl (λ_ _ _ _ _=>rfl) (pv 0) (λ_ _ _ _ _=>(gq (pv 0) c_))) b_)))
  (e_ (jk PassesOwn.never rfl (HM rfl T.nI (a_ c_ (a_ (ij jr (by rfl) T.ja PySem.boot_len (a_ (pv 1) b_)) b_))) (gY (i:=2) nd rfl iG) (e_ (gA 3 nd (gq (gq (pv 1) (pv 2)) c_))
  (gi (gF (gE iu (pv 3) (gq (gq (pv 1) (gn nq (pv 2) c_)) c_) (gC _)) (gi me) gH))))
  (gi (gw (pv 1))))),?_⟩
 ac_rfl
 refine⟨_,rfl,wV hl hz (by omega) hT λU D H3 ac an Y ao hD=>⟨D,_,rfl,.inl ⟨f_.of hD,λt ht=>?_⟩⟩⟩;obtain⟨ps,hP⟩:=hT.tab;have st:Same H3 (upd H3 t (.tup (gG U))):=Same.new ht;have ae:ZL (upd H3 t (.tup (gG U))) U:=λz ap=>(hz.mono λc xs h=>st _ _ (ac c _ (gR h hP (by intro z;cases z)) h)) z (Y.mem_iff.mp ap);have af:lA Pf H (upd H3 t (.tup (gG U))):=ac.trans (Kp.of st);have ag:=an.same st;have mZ:=gh (H:=H3) (a:=t) (o:=.tup (gG U));generalize upd H3 t (.tup (gG U))=H5 at ae af ag mZ;have ab:U.length<=13:=by rw[Y.length_eq];exact ab
 have aq:(gT U).Nodup:=(Y.map _).nodup_iff.mpr am
 have ah:∀j,j<U.length->∃cc u,(gG U)[j]? =some (.ref cc)/\H5 cc=some (.tup [.str ((gT U).getD j ""),u]):=λj hj=>by
  obtain⟨cc,u,ec,hc,_⟩:=ae U[j] (Q0r hj);refine⟨cc,u,?_,?_⟩
  . show(U.map (·.1))[j]? =_;rw[Q0h,Q03 hj];exact congrArg some ec
  . have e:(gT U).getD j ""=U[j].2.1:=by
     unfold gT;rw[Q05,Q0h,Q03 hj];rfl
    rw[e];exact hc
 refine⟨_,rfl,t,_,rfl,.inr (f9.of mZ),_,_,rfl,⟨by decide,by decide,by omega,by rw[jM];omega⟩,nj (lo:=1) (n:=(((gG U).length:Int) - 1).toNat) (λk σ H'=>H'=H5/\∃y z,σ=[some (.ref l),some (.ref t),y,z]) ⟨rfl,_,_,rfl⟩ ?_ ?_⟩
 . rintro k σ H' hk ⟨rfl,y,z,rfl⟩;rw[jM] at hk;obtain⟨c1,u1,a1,b1⟩:=ah (k+1) (by omega);obtain⟨c2,u2,a2,b2⟩:=ah k (by omega)
   have e1:i8 (gG U) ((1:Int)+(k:Int))=some (.ref c1):=by
    have:=ki (j:=k+1) a1;rw[show((1:Int)+(k:Int))=((k+1:Nat):Int) by omega];exact this
   have e2:i8 (gG U) ((1:Int)+(k:Int) - 1)=some (.ref c2):=by
    have:=ki (j:=k) a2;rw[show((1:Int)+(k:Int) - 1)=((k:Nat):Int) by omega];exact this
   refine⟨_,rfl,_,rfl,t,_,_,_,rfl,rfl,f9.of mZ,e1,c1,_,_,_,rfl,rfl,f9.of b1,rfl,?_⟩;refine⟨_,rfl,_,rfl,_,rfl,_,_,rfl,rfl,t,_,_,_,rfl,rfl,f9.of mZ,e2,c2,_,_,_,rfl,rfl,f9.of b2,rfl,rfl,_,rfl,h_ (λcc=>?_) λcc=>⟨rfl,_,_,rfl⟩⟩
   have e:(gT U).getD (k+1) ""=(gT U).getD k "":=by
    have:=of_decide_eq_true cc;injection this
   have ai:k+1<(gT U).length:=by rw[mz];omega
   have aj:k<(gT U).length:=by rw[mz];omega
   rw[Q05,Q05,Q03 ai,Q03 aj] at e;have e:(gT U)[k+1]=(gT U)[k]:=e;exact absurd e.symm (List.pairwise_iff_getElem.mp aq k (k+1) aj ai (by omega))
 . rintro σ H' ⟨rfl,y,z,rfl⟩;exact⟨_,rfl,q1 U t _ af ag Y ao mZ⟩
end Pb
namespace L2
open Spec PyProof.Rows
section
variable {prog:Program}{w:World}{A:Around}{E:Value->Shared->Prop}{s:Shared}
end
section
variable {X:Cx}
end
end L2
namespace Pb
open L2
end Pb
namespace L2
open Spec PyProof.Rows
section
variable {X:Cx}
theorem wW:jZ X (.type "dict") (λxs H Q=>∃a kvs,xs=[.ref a]/\H a=some (.dK kvs)/\∀l,H l=none->Q (.ref l) (upd H l (.dK kvs))):=by
 intro pins s σ H xs us Q I r h;obtain⟨a,kvs,rfl,L,q⟩:=h;obtain⟨u,rfl,U⟩:=vals1 r
 cases U;obtain⟨z,sm,vs,J,Y⟩:=nz I.hok L;refine kt_call_dict sm Y (by rw[<-J.length];exact z) λh' hd hs=>?_;have hb:(s.heap.objs.size == sysModules)=false:=beq_eq_false_iff_ne.mpr (Q0x I.big);refine⟨.ref s.heap.objs.size,_,I.laid (a:=s.heap.objs.size) (o:=.dK kvs) (t':=s.toks) (λb o e=>?_) (Q00 _) ⟨z,hb,vs,J,hd⟩,rfl,q _ (I.hok.fresh (Q00 _))⟩;exact hs.extBut b o (Q0c (Q04 e)) (Q0a _ e)
end
section
variable {X:Cx}
def L9:V->List V->Hp->VK->Prop:=λx vs H Q=>∃a kvs k v,x=.ref a/\vs=[kV k]/\H a=some (.dK kvs)/\iw kvs k=some v/\Q v (upd H a (.dK (jK kvs k)))
theorem L_:pG X "dict.pop" L9:=by
 intro pins s σ H x vs v us Q I J L h;obtain⟨a,kvs,k,w,rfl,rfl,U,Y,q⟩:=h;obtain⟨u,rfl,ru⟩:=vals1 L
 cases J;exact Jc I U ru Y (.inl rfl) λw' s3 I3 r=>⟨w,_,I3,r,q⟩
theorem E7:∀{kvs:List (Key × V)}{vs:List (Key × Value)},KV kvs vs->∀(us:List Value),us.length=vs.length->(∀(j:Nat) (v:Value),us[j]? =some v->∃k x,vs[j]? =some (k,x)/\m8 k v=true)->Vals (kvs.map λJ=>kV J.1) us
 |_,_,.nil,us,hl,_=>by
  cases us with
  |nil=>exact .nil
  |cons _ _=>cases hl
 |_,_,.cons (a:=p) (b:=q) h r,us,hl,I=>by
  cases us with
  |nil=>cases hl
  |cons u t=>
   obtain⟨k,x,e,hi⟩:=I 0 u rfl;have e:some q=some (k,x):=e
   cases e;refine .cons ?_ (E7 r t (by simpa using hl) λj v L=>I (j+1) v (by simpa using L));have h1:p.1=k:=h.1;show RelV (kV p.1) u;rw[h1]
   cases k with
   |inl i=>
    have hi:Value.isInt i u=true:=hi
    cases u with
    |int z t=>
     have hi:(z == i)=true:=hi;exact⟨t,by rw[eq_of_beq hi]⟩
    |_=>cases hi
   |inr s=>
    have hi:Value.isStrOf s u=true:=hi
    cases u with
    |str z t=>
     have hi:(z == s)=true:=hi;exact⟨t,by rw[eq_of_beq hi]⟩
    |_=>cases hi
end
section
variable {X:Cx}{N':List Str}{e:Expr}{t:TE}
structure qf (X:Cx) (N':List Str):Prop where
 len:N'.length=X.N.length
 old:∀(i:Nat) y,N'[i]? =some y->X.N[i]? =some y\/¬rY X.env.scope y
theorem Inv.Ma {pins:List (Addr × Obj)}{σ:St}{H:Hp}{s:Shared}(r:qf X N')(I:Inv X pins σ H s):Inv { X with N:=N' } pins σ H s:=by
 refine⟨⟨I.ok.mod,I.ok.kind,I.ok.glob,I.ok.blt,I.ok.above,I.ok.inj,I.ok.has,I.ok.cab,I.ok.hd,I.ok.frames,I.ok.stk,I.ok.qF,I.ok.bs,I.ok.kL,I.ok.m9,I.ok.oj,I.ok.jW,I.ok.md⟩,I.os,I.bare,I.base,?_,I.cell,I.free,I.jy,I.pin,I.hok,I.len.trans r.len.symm⟩;obtain⟨m,h1,h2⟩:=I.loc;refine⟨m,h1,λi x v hi L J=>?_⟩;rcases r.old i x hi with h|h
 . exact h2 i x v h L J
 . exact absurd J h
theorem Inv.Mb {pins:List (Addr × Obj)}{σ:St}{H:Hp}{s:Shared}(r:qf X N')(L:∀(i:Nat) v,X.N[i]? ≠N'[i]? ->σ[i]? ≠some (some v))(I:Inv { X with N:=N' } pins σ H s):Inv X pins σ H s:=by
 refine⟨⟨I.ok.mod,I.ok.kind,I.ok.glob,I.ok.blt,I.ok.above,I.ok.inj,I.ok.has,I.ok.cab,I.ok.hd,I.ok.frames,I.ok.stk,I.ok.qF,I.ok.bs,I.ok.kL,I.ok.m9,I.ok.oj,I.ok.jW,I.ok.md⟩,I.os,I.bare,I.base,?_,I.cell,I.free,I.jy,I.pin,I.hok,I.len.trans r.len⟩;obtain⟨m,h1,h2⟩:=I.loc;refine⟨m,h1,λi x v hi U J=>?_⟩;by_cases Y:X.N[i]? =N'[i]?
 . exact h2 i x v (by rw[<-Y];exact hi) U J
 . exact absurd U (L i v Y)
theorem qf.of {N:List Str}{sc:Scope}(L:X.N=N)(U:X.env.scope=sc)(hl:N'.length=N.length)(Y:(List.zip N' N).all (λp=>p.1 == p.2 || ((sc.names.lookup p.1 != some .local) && (sc.names.lookup p.1 != some .cell) && (sc.names.lookup p.1 != some .free)))=true):qf X N':=by
 subst L;subst U;refine⟨hl,λi y I=>?_⟩;have hi:=(List.getElem?_eq_some_iff.mp I).1;have J:X.N[i]? =some (X.N[i]'(by omega)):=Q03 _
 have hm:(y,X.N[i]'(by omega))∈List.zip N' X.N:=by
  refine Q0j (i:=i) ?_;rw[List.getElem?_zip_eq_some];exact⟨I,J⟩
 have:=List.all_eq_true.mp Y _ hm;simp only[Bool.or_eq_true,Bool.and_eq_true,beq_iff_eq,bne_iff_ne] at this;rcases this with h|⟨⟨h1,h2⟩,h3⟩
 . exact .inl (by rw[J,h])
 . exact .inr λz=>z.elim h1 λz=>z.elim h2 h3
end
def Mc (N N':List Str) (t:TS):TS:=λD σ H=>t { nx:=λI H'=>(∀(i:Nat) v,N[i]? ≠N'[i]? ->I[i]? ≠some (some v))/\D.nx I H',rt:=λ_ _=>False } σ H
theorem Md {X:Cx}{N':List Str}{st:Stmt}{t:TS}(r:qf X N')(h:PS { X with N:=N' } st t):PS X st (Mc X.N N' t):=by
 intro pins s σ H D I q;refine gB (h pins s σ H _ (I.Ma r) q) λf s1 z=>?_
 cases f with
 |next=>
  obtain⟨J,H',L,U,Y⟩:=z;exact⟨J,H',L.Mb r U,Y⟩
 |ret u=>
  obtain⟨_,_,_,_,_,z⟩:=z;exact z.elim
 |brk=>
  obtain⟨_,_,_,z⟩:=z;exact z.elim
 |cont=>
  obtain⟨_,_,_,z⟩:=z;exact z.elim
theorem Me {N N':List Str}{k:Nat}{z:Str}{σ:St}(e:N'=N.set k z)(J:σ[k]? =some none):∀(i:Nat) v,N[i]? ≠N'[i]? ->σ[i]? ≠some (some v):=λi v I h=>by
 by_cases c:i=k
 . rw[c,J] at h
   cases h
 . exact I (by rw[e,Q1v (Ne.symm c)])
theorem E8:∀{kvs:List (Key × V)}{vs:List (Key × Value)},KV kvs vs->∀(us:List Value),us.length=vs.length->(∀(j:Nat) (v:Value),us[j]? =some v->∃k,vs[j]? =some (k,v))->Vals (kvs.map (·.2)) us
 |_,_,.nil,us,hl,_=>by
  cases us with
  |nil=>exact .nil
  |cons _ _=>cases hl
 |_,_,.cons (a:=p) (b:=q) h r,us,hl,I=>by
  cases us with
  |nil=>cases hl
  |cons u t=>
   obtain⟨k,e⟩:=I 0 u rfl;have e:some q=some (k,u):=e
   cases e;exact .cons h.2 (E8 r t (by simpa using hl) λj v J=>I (j+1) v (by simpa using J))
section
variable {X:Cx}
def Mf:V->List V->Hp->VK->Prop:=λx vs H Q=>∃a kvs k d,x=.ref a/\vs=[kV k,d]/\H a=some (.dK kvs)/\kvs.length<sizeLine/\(∀v,iw kvs k=some v->Q v H)/\(iw kvs k=none->Q d (upd H a (.dK (putK kvs k d))))
theorem Mg:pG X "dict.setdefault" Mf:=by
 intro pins s σ H x vs v us Q I rx rv h;obtain⟨a,kvs,k,d,rfl,rfl,Y,hz,q1,q2⟩:=h;obtain⟨u,c,rfl,ru,rc⟩:=vals2 rv
 cases rx;obtain⟨z,hd,ws,L,dd⟩:=nz I.hok Y
 refine call_meetsIn PySem.F.slot_dict_setdefault dd.typeIs PySem.F.entry_dict_setdefault (PySem.F.args_dict_setdefault_3 _ _ _) (kt_meets_setdefault (je X.prog X.w) a (ny ru) hd c)
  ⟨ws,dd,by rw[<-L.length];exact z,λw' hw=>?_,λhn h' U hs=>?_⟩
 . have J:=L.val k;rw[hw] at J
   cases e:iw kvs k with
   |none=>rw[e] at J;cases J
   |some y=>
    rw[e] at J;exact⟨y,H,I.tok _,J,q1 y e⟩
 . have hv:iw kvs k=none:=by
    have J:=L.val k;rw[hn] at J
    cases e:iw kvs k with
    |none=>rfl
    |some y=>rw[e] at J;cases J
   have he:∃q,h'.get? a=some q:=let⟨q,_,_,hq,_⟩:=U;⟨q,hq⟩
   refine⟨d,_,qT I (by rw[Y];exact True.intro) hs he (sN ?_ hd (L.put k rc) U),rc,q2 hv⟩;unfold putK;split
   . rw[Q0];exact z
   . rw[Q09];exact hz
noncomputable def rH (r a:Addr):HO:=.ext λh=>h.IsValuesView r a
def Mh:V->List V->Hp->VK->Prop:=λx vs H Q=>∃a kvs,x=.ref a/\vs=[]/\H a=some (.dK kvs)/\∀r,H r=none->Q (.ref r) (upd H r (rH r a))
theorem Mi:pG X "dict.values" Mh:=by
 intro pins s σ H x vs v us Q I U Y h;obtain⟨a,kvs,rfl,rfl,hH,q⟩:=h
 cases U;have J:=Y.zero;subst J;obtain⟨z,hd,ws,aa,L⟩:=nz I.hok hH;refine call_meetsIn PySem.F.slot_dict_values L.typeIs PySem.F.entry_dict_values (PySem.F.args_dict_values_1 _) (meets_dict_values (je X.prog X.w) a hd) ⟨⟨ws,L⟩,?_⟩;refine⟨.ref s.heap.objs.size,_,I.laid (t':=s.toks) (λb o e=>Q0a _ e) (Q00 _) ?_,rfl,q _ (I.hok.fresh (Q00 _))⟩;exact⟨⟨_,Q0i _ rfl,rfl,rfl⟩,⟨_,Q0i _ rfl⟩,λh1 h2 ⟨o,ho,x⟩ k=>⟨o,k o ho,x⟩⟩
theorem Mj (hc:X.calm=true):jZ X (.type "list") (λxs H Q=>∃r a kvs,xs=[.ref r]/\H r=some (rH r a)/\H a=some (.dK kvs)/\∀l,H l=none->Q (.ref l) (upd H l (.lst (kvs.map (·.2))))):=by
 intro pins s σ H xs us Q I rr h;obtain⟨r,a,kvs,rfl,hr,hH,q⟩:=h;obtain⟨u,rfl,ru⟩:=vals1 rr
 cases ru;obtain⟨z,hd,vs,J,o,es,ep,e1,e2,e3,e4,e5,e6⟩:=nz I.hok hH;have Y:s.heap.IsValuesView r a:=(I.hok r _ hr).1;have aa:=J.length;refine W.kdl_call (W.kdl_values (knd:=je X.prog X.w) (kvs:=vs) (ep:=ep)) (I.ok.hd hc) ⟨Y,o,es,e1,e2,e3,e4,e5,e6⟩ (by omega) λh' tk L c kp hl U=>?_;refine⟨.ref s.heap.objs.size,_,I.laid (t':=tk) (h':=h') kp (Q00 _) (show iQ X.prog X.w _ h' _ (.lst (kvs.map (·.2))) from⟨by rw[Q0];omega,L.toList,c,?_,?_⟩),rfl,q _ (I.hok.fresh (Q00 _))⟩
 . exact E8 J L.toList (by rw[Q1e];exact U.1) λj v hj=>U.2 j v (by simpa using hj)
 . rw[Q2u];exact hl
def uw (ks:List Key):Prop:=(∃ns:List Int,ks=ns.map Sum.inl)\/∃ss:List Str,ks=ss.map Sum.inr
def o7 (a b:Key):Prop:=lr [a] [b]
theorem Ml {a b:Int}(h:a<=b):o7 (.inl a) (.inl b):=by
 show iq [Sum.inl b] [Sum.inl a]=false;rw[nE];split
 . rfl
 . show decide (b<a)=false;exact decide_eq_false (by omega)
theorem E9 (ns:List Int):(ns.map Sum.inl).map kV=ns.map V.int:=by
 rw[Q0z];rfl
theorem keys_str (ss:List Str):(ss.map Sum.inr).map kV=ss.map V.str:=by
 rw[Q0z];rfl
theorem sort_keys {prog:Program}{w:World}{A:Around}{E:Value->Shared->Prop}{s:Shared}{a:Addr}{vs:List Value}{ks:List Key}{n:Nat}{P:Fin->Shared->Prop}(ho:s.heap.get? a=some (seqObj "list" vs.toArray n))
 (J:Vals (ks.map kV) vs) (hK:uw ks) (Y:ks.length<64)
 (h:∀(out:Array Value) (I:List Key),Vals (I.map kV) out.toList->I.Perm ks->I.Pairwise o7->P (.done (.ret .none)) { s with heap:=sortedHeap s.heap a vs out }):
 wpAny (model prog w) A (Builtin.«list.sort» ⟨[.ref a],[]⟩) P E s:=by
 have hl:vs.length<64:=by rw[<-J.length,Q0];exact Y
 rcases hK with⟨ns,rfl⟩|⟨ss,rfl⟩
 . rw[E9] at J;refine list_sort_tree ho (intsAre_of J) hl λout aa h1 h2 L=>h out (aa.map Sum.inl) (by rw[E9];exact vk h1) (h2.map _) ?_;rw[Q12];exact L.imp λz=>Ml z
 . rw[keys_str] at J;have U:=vp J;refine list_sort_treeK strKind_oneLt ho U.keysOf (λac ae rest e=>keyKind_strs (by rw[<-e];exact U)) hl λaf hp hs=>?_;obtain⟨ab,h1,h2,L⟩:=sorted_out_str U hp hs;refine h _ (ab.map Sum.inr) (by rw[keys_str];exact vq h1) (h2.map _) ?_;rw[Q12];exact(Pb.vX L).imp λz=>z
theorem Mm:jZ X (.builtin "sorted") (λxs H Q=>∃a ks,xs=[.ref a]/\f_ X.K H a (ks.map kV)/\uw ks/\ks.length<64/\
 ∀p (L:List Key),H p=none->L.Perm ks->L.Pairwise o7->Q (.ref p) (upd H p (.lst (L.map kV)))):=by
 intro pins s σ H xs us Q I r h;obtain⟨a,ks,rfl,hq,hK,Y,q⟩:=h;obtain⟨u,rfl,ru⟩:=vals1 r
 cases ru;obtain⟨J,rv,pl,hz⟩:=I.list hq;have hl:J.length=ks.length:=by rw[<-rv.length,Q0]
 refine Calls.call_function_entry kind_sorted plain_sorted entry_sorted (args_sorted1 _) ?_;unfold Builtin.«sorted»;refine Q01 (m:=checkCount "sorted" 1 1 _) (Q0e ?_);refine Q01 (collect_list pl.isList ?_);refine Q01 (wpAny_newList ?_)
 have hsz:((s.heap.push (seqObj "list" #[] 0)).update s.heap.objs.size (Obj.mapSeq (· ++J.toArray))).objs.size=s.heap.objs.size+1:=by
  rw[Q2,size_push']
 have U:(((s.heap.push (seqObj "list" #[] 0)).update s.heap.objs.size (Obj.mapSeq (· ++J.toArray))).push (seqObj "list" J.toArray 0)).get? (s.heap.objs.size+1)=some (seqObj "list" J.toArray 0):=by
  rw[<-hsz];exact Q0i _ rfl
 show wpAny _ _ _ _ _ { s with heap:=((s.heap.push (seqObj "list" #[] 0)).update s.heap.objs.size (Obj.mapSeq (· ++J.toArray))).push (seqObj "list" J.toArray 0) };rw[hsz];refine Q01 (wpAny_holding (wpAny_call_entry slot_list_sort ⟨_,U,rfl⟩ entry_list_sort (sort_keys U rv hK Y λout L h1 h2 h3=>⟨_,rfl,?_⟩) (args_list_sort _)));obtain⟨e,he⟩:=sortedAll_at s.heap J out;refine Q0e ⟨_,rfl,.ref (s.heap.objs.size+1),upd H (s.heap.objs.size+1) (.lst (L.map kV)),I.laid (h':=sortedAll s.heap J out) (t':=s.toks) (λ_ _=>sortedAll_old) (Q1b _) ?_,rfl,q _ L (I.hok.fresh (Q1b _)) h2 h3⟩;refine⟨?_,out.toList,e,h1,he⟩;rw[Q0,h2.length_eq];have:ks.length<=1000:=by omega
 exact Q0w (iF this)
theorem Mn (hc:X.calm=true):jZ X (.builtin "sorted") (λxs H Q=>∃a kvs,xs=[.ref a]/\H a=some (.dK kvs)/\uw (kvs.map (·.1))/\kvs.length<64/\
 ∀p (L:List Key),H p=none->L.Perm (kvs.map (·.1))->L.Pairwise o7->Q (.ref p) (upd H p (.lst (L.map kV)))):=by
 intro pins s σ H xs us Q I r h;obtain⟨a,kvs,rfl,hH,hK,ab,q⟩:=h;obtain⟨u,rfl,ru⟩:=vals1 r
 cases ru;obtain⟨z,hd,vs,aa,o,es,ep,e1,e2,e3,e4,e5,e6⟩:=nz I.hok hH;have ac:=aa.length;refine Calls.call_function_entry kind_sorted plain_sorted entry_sorted (args_sorted1 _) ?_;unfold Builtin.«sorted»;refine Q01 (m:=checkCount "sorted" 1 1 _) (Q0e ?_);refine Q01 (W.kdu_collect (A:=X.A.in1) (W.kdl_dict (knd:=je X.prog X.w) (kvs:=vs) (ep:=ep) hd) (I.ok.hd hc) ⟨o,es,e1,e2,e3,e4,e5,e6⟩ (by omega) λh' tk J hk U=>?_);have hl:J.toList.length=vs.length:=by rw[Q1e];exact U.1
 refine Q01 (wpAny_newList ?_ (by rw[hl];omega));have I1:Inv X pins σ H { s with heap:=h',toks:=tk }:=I.kept (t':=tk) hk;have Y:(h'.push (seqObj "list" J.toList.toArray 0)).get? h'.objs.size=some (seqObj "list" J.toList.toArray 0):=Q0i _ rfl
 have rv:Vals ((kvs.map (·.1)).map kV) J.toList:=by
  rw[Q0z];exact E7 aa J.toList hl λj v hj=>U.2 j v (by simpa using hj)
 refine Q01 (wpAny_holding (wpAny_call_entry (s:={ s with heap:=h'.push (seqObj "list" J.toList.toArray 0),toks:=tk }) slot_list_sort ⟨_,Y,rfl⟩ entry_list_sort (sort_keys Y rv hK (by rw[Q0];exact ab) λout L h1 h2 h3=>⟨_,rfl,?_⟩) (args_list_sort _)));obtain⟨e,he⟩:=sortedHeap_at (vs:=J.toList) (out:=out) Y;refine Q0e ⟨_,rfl,.ref h'.objs.size,upd H h'.objs.size (.lst (L.map kV)),I1.laid (h':=sortedHeap (h'.push (seqObj "list" J.toList.toArray 0)) h'.objs.size J.toList out) (t':=tk) (λb o g=>?_) (Q00 _) ?_,rfl,q _ L (I1.hok.fresh (Q00 _)) h2 h3⟩
 . have g:h'.get? b=some o:=g;have hb:=Q04 g;rw[sortedHeap_old (Q0c hb) (by rw[size_push'];exact Q35 hb)];exact Q0a _ g
 . refine⟨?_,out.toList,e,h1,he⟩;rw[Q0,h2.length_eq,Q0];exact z
theorem Inv.fg {pins:List (Addr × Obj)}{σ:St}{H:Hp}{s:Shared}(I:Inv X pins σ H s)(k:Nat):Inv X pins (σ.set k none) H s:=by
 refine⟨I.ok,I.os,I.bare,I.base,?_,I.cell,I.free,I.jy,I.pin,I.hok,by rw[Q2y];exact I.len⟩;obtain⟨m,h1,h2⟩:=I.loc;refine⟨m,h1,λi x v hi J L=>h2 i x v hi ?_ L⟩;rw[List.getElem?_set] at J;split at J
 . split at J <;> cases J
 . exact J
def E_ (k:Nat) (t:TS):TS:=λD σ H=>t D (σ.set k none) H
theorem Mo {k:Nat}{st:Stmt}{t:TS}(h:PS X st t):PS X st (E_ k t):=λpins s σ H D I q=>h pins s _ H D (I.fg k) q
end
end L2
namespace Pb
open L2 PyProof.Rows
structure Dm (K:W.Frag) (x qual:Str) (ps:List Str) (st:Stmt) (f:Addr) (fd:FuncData):Prop where
 F:mj K x qual st f fd
 b:Binds K fd ps []
structure Fb (K:W.Frag) (mg:Str->Option Value) (C:Addr):Prop where
 m:mg "CantPut"=some (.ref C)
 ty:W.typeIn K (.ref C)=some (.type "type")
 is:(W.clsIn K C).isSome=true
 bx:W.subIn K (.ref C) (.type "BaseException")=some true
abbrev qg (H:Hp) (pk pb:Addr) (key by_:Str):Prop:=H pk=some (.tup [.str "rows",.str key,.str by_,.ref pb])
theorem gu.row {H:Hp}{I:List V}{ms:List Ds}{Y:List (List Addr)}(h:gu H I ms Y){i:Nat}{x:V}(L:I[i]? =some x):∃m f,ms[i]? =some m/\Own H x (.dct m) f:=by
 have hi:i<I.length:=(List.getElem?_eq_some_iff.mp L).1;have U:=A3.at (a0:=V.non) (b0:=Ds.nil) (c0:=[]) h i hi;have ex:I.getD i .non=x:=by rw[Q05,L];rfl
 rw[ex] at U;have J:i<ms.length:=by rw[<-(A3.len h).1];exact hi
 exact⟨_,_,by rw[Q05,Q03 J];rfl,U⟩
theorem gu.sm {H H':Hp}{I:List V}{ms:List Ds}{J:List (List Addr)}(h:gu H I ms J)(s:Same H H'):gu H' I ms J:=gu.keep (Tu.of s) h λc _ o e=>s c o e
def Kn (H H':Hp):Prop:=∀c o,(∀ps,o≠ .iJ ps)->H c=some o->H' c=some o
theorem Kn.of {H H':Hp}(s:Same H H'):Kn H H':=λc o _ e=>s c o e
theorem Kn.trans {H H1 H2:Hp}(a:Kn H H1)(b:Kn H1 H2):Kn H H2:=λc o I e=>b c o I (a c o I e)
theorem Kn.o4 {P:Addr}{I:Pos}{J:Str}{H H':Hp}(k:lA P H H')(hT:gy P I J H):Kn H H':=λc o L e=>by
 obtain⟨ps,U⟩:=hT.tab;exact k c o (gR e U (L ps)) e
theorem Kn.tu {H H':Hp}(k:Kn H H'):Tu H H':=λc xs e=>k c _ (by intro ps z;cases z) e
theorem Kn.lst {H H':Hp}(k:Kn H H'){c:Addr}{xs:List V}(e:H c=some (.lst xs)):H' c=some (.lst xs):=k c _ (by intro ps z;cases z) e
theorem gu.kn {H H':Hp}{vs:List V}{I:List Ds}{J:List (List Addr)}(h:gu H vs I J)(k:Kn H H'):gu H' vs I J:=gu.keep k.tu h λc hc o e=>k c o (by
 intro ps z;rcases gu.mu h c hc with⟨_,q⟩|⟨_,q⟩ <;> rw[e] at q <;> rw[z] at q <;> cases q) e
theorem k8 {H:Hp}{D:Addr}{vs:List V}{ms:List Ds}{I:List (List Addr)}(J:H D=some (.lst vs))(h:gu H vs ms I):Own H (.ref D) (.lst (ic ms)) (D::I.flatten):=by
 unfold Own;exact⟨D,vs,_,rfl,J,rfl,gu.own h⟩
theorem gu.app {H:Hp}{v2:List V}{I:List Ds}{f2:List (List Addr)}(h2:gu H v2 I f2):∀{v1:List V}{J:List Ds}{f1:List (List Addr)},gu H v1 J f1->gu H (v1++v2) (J++I) (f1++f2)
 |_,_,_,.nil=>h2
 |_,_,_,.cons h r=>.cons h (gu.app h2 r)
def CS (F:Nat->List V) (n:Nat) (H:Hp) (i m:Nat) (ys:List V) (H':Hp):Prop:=m=n - i/\i<=n/\ys=F i/\(F i).length<=i/\Same H H'
theorem CS.add {F:Nat->List V}{n i:Nat}{H H2:Hp}{y:V}(I:i<n)(hl:(F i).length<=i)(s:Same H H2)(e:F (i+1)=F i++[y]):∃J,J<n - i/\CS F n H (i+1) J (F i++[y]) H2:=
 ⟨_,Q23 _ _ I,rfl,I,e.symm,by rw[e,Q09];exact Q2p hl,s⟩
theorem CS.skip {F:Nat->List V}{n i:Nat}{H H2:Hp}(I:i<n)(hl:(F i).length<=i)(s:Same H H2)(e:F (i+1)=F i):∃J,J<n - i/\CS F n H (i+1) J (F i) H2:=
 ⟨_,Q23 _ _ I,rfl,I,e.symm,by rw[e];omega,s⟩
theorem Mp {J:It}{H:Hp}{xs:List V}{S:List V->Hp->Prop}{C:(Nat->Nat->List V->Hp->Prop)->Nat->Nat->List V->V->Hp->Prop}(hJ:∀H',Same H H'->uo J H' xs)(F:Nat->List V)(aa:xs.length<=1000)
 (q:∀H',Same H H'->S (F xs.length) H') (step:∀i x H',Same H H'->xs[i]? =some x->i<xs.length->(F i).length<=i->C (CS F xs.length H) i (xs.length - i) (F i) x H') (Y:F 0=[]:=by rfl):
 ∃W:Nat->Nat->List V->Hp->Prop,(∃m,W 0 m [] H)/\∀i m ys H',W i m ys H'->(J.stop i H'/\S ys H')\/(J.go i H'/\ys.length<sizeLine/\∀x I,J.lV i H' x I->C W i m ys x I):=by
 refine⟨CS F xs.length H,⟨_,rfl,Q0g _,Y.symm,by rw[Y];exact Q00 0,Same.refl _⟩,?_⟩;rintro i m ys H' ⟨rfl,hi,rfl,hl,s⟩;have U:=hJ H' s;by_cases L:i<xs.length
 . refine .inr ⟨U.1 i _ (Q03 L),iF (by omega),λx I y=>?_⟩;obtain⟨rfl,hx⟩:=U.2.1 _ _ _ y;exact step i x _ s hx L hl
 . cases Q3k hi (Q16 L);exact .inl ⟨U.2.2,q _ s⟩
noncomputable def js (fs:Fs) (i:Nat):List Str:=((fs.toL.take i).filter λq=>jC q.2).map (·.1)
def wX:Sp:=λvs H Q _=>∃pk pb key by_ xs fs,vs=[.ref pk]/\qg H pk pb key by_/\H pb=some (.tup xs)/\FA H xs fs/\fs.names.length<=12/\∀D H',Same H H'->H D=none->H' D=some (.lst ((js fs xs.length).map V.str))->Q (.ref D) H'
variable {P:Program}{w:World}{K:W.Frag}{mg:Str->Option Value}{base:Heap}
theorem Mq:gQ ["_law_kind_here"] ["_law_kind_here"] (gp (top 51)):=g_
theorem Mr (T:Tb mg)(I:Dn K mg "_law_plains" pY (top 51) J L):gc P w K mg base gf (1) J L pY (wX):=by
 refine I.F.ok Mq λvs H Q E h=>?_;obtain⟨pk,pb,key,by_,xs,fs,rfl,ae,aa,ab,ah,q⟩:=h;refine⟨rfl,λai A outer s nd hr hu=>?_⟩;refine⟨_,(gi (gw (kT (g:=(iH 0)) (tt:=(BK (jI (ie (s_ K 0) (ie (i9 K) (gJ 0) (tC (.int 1))) (qK (i5 (tC (.str "number")) j2)))) (jI (ie (s_ K 0) (ie (i9 K) (gJ 0) (tC (.int 1))) (qK (i5 (tC (.str "word")) j2)))))) (te:=(ie (i9 K) (gJ 0) (tC (.int 0)))) (own:=["_law_pair"]) rfl (jE (N:=["_law_kind_here"]) (sc:=gp (top 51))) (lb (gq (pv 0) c_)) (λ_ _ _ _ _=>(gY (i:=0) (show(["_law_pair","_law_kind_here"]:List Str).Nodup by decide +kernel) rfl (Or.inl rfl) (.inr rfl))) (λ_ _ _ _ _=>(lY (PW.pt (kg (gE (tf (n:=0) hu) (gq (pv 0) c_) (iP (a_ gW b_)) (gC _)) (kM (gE (tf (n:=0) hu) (gq (pv 0) c_) (iP (a_ gW b_)) (gC _))))))) (λ_ _ _ _ _=>(gq (pv 0) c_))))),?_⟩
 ac_rfl
 have aj:=FA.len fs ab;refine⟨_,rfl,pk,_,_,_,rfl,rfl,f9.of ae,rfl,pb,rfl,⟨_,f9.of aa⟩,Mp (λH' s=>o5 (f9.of (s _ _ aa))) (λi=>(js fs i).map V.str) (by omega) (λH' s p hp=>?_) (λi x H' s hx ac hl=>?_)⟩
 . exact q p _ (s.trans (Same.new hp)) (s.free hp) gh
 . obtain⟨c,u,nm,k,rfl,af,hc,hk⟩:=FA.get fs ab hx;have hz:fs.toL[i]? =some (nm,k):=by rw[Fs.uf];exact af
   have fin:∀H2,Same H H2->∀b:Bool,jC k=b->(if b=true then ie (i9 K) (gJ 0) (tC (.int 0)) [some (.ref c),some (.ref pk)] H2 λy H4=>∃m',m'<xs.length - i/\CS (λi=>(js fs i).map V.str) xs.length H (i+1) m' ((js fs i).map V.str++[y]) H4 else ∃m',m'<xs.length - i/\CS (λi=>(js fs i).map V.str) xs.length H (i+1) m' ((js fs i).map V.str) H2):=λH2 U b eb=>by
    cases b with
    |true=>
     refine i_ ⟨_,rfl,c,_,_,_,rfl,rfl,f9.of (U _ _ hc),rfl,CS.add ac hl U ?_⟩;unfold js;rw[nV hz eb,Q0b];rfl
    |false=>
     refine h9 (CS.skip ac hl U ?_);unfold js;rw[nW hz (by rw[eb];decide)]
   refine⟨rfl,_,rfl,c,_,_,_,rfl,rfl,f9.of (s _ _ hc),rfl,jR,λt1 ag=>?_⟩;have s1:=s.trans (Same.new (o:=.tup [.str "number"]) ag);refine uv (KA.mono (Tu.of s1) k hk) gh ⟨_,rfl,h_ (λY=>?_) (λY=>?_)⟩
   . have e:jC k=true:=by
      have Y:(decide (k.nm="number") && jC k)=true:=Y;rw[Bool.and_eq_true] at Y;exact Y.2
     exact fin _ s1 true e
   . refine⟨_,rfl,c,_,_,_,rfl,rfl,f9.of (s1 _ _ hc),rfl,jR,λt2 jS=>?_⟩;have U:=s1.trans (Same.new (o:=.tup [.str "word"]) jS);refine uv (KA.mono (Tu.of U) k hk) gh ⟨_,rfl,?_⟩
     have e:(decide (k.nm="word") && jC k)=jC k:=by
      cases k
      case num=>exact absurd rfl Y
      case iz=>rfl
      all_goals exact Bool.and_false _
     rw[e];exact fin _ U _ rfl
theorem Fc {x:Str}{ss:List Str}:inV (.str x) (ss.map V.str)=decide (x∈ss):=by
 unfold inV;rw[Q22];have:∀y:Str,((λy=>mh y (V.str x)) ∘ V.str) y=decide (y=x):=λy=>rfl
 induction ss with
 |nil=>rfl
 |cons y r I=>
  rw[Q1g,I,this];by_cases e:y=x
  . rw[decide_eq_true e,decide_eq_true (show x∈y::r by rw[e];exact Q02)];rfl
  . rw[decide_eq_false e];by_cases h:x∈r
    . rw[decide_eq_true h,decide_eq_true (Q07 _ h)];rfl
    . rw[decide_eq_false h,decide_eq_false λz=>(List.mem_cons.mp z).elim (λz=>e z.symm) h];rfl
theorem wY:∀{ss:List Str},(ss.map V.str).all lX=true
 |[]=>rfl
 |x::r=>by rw[Q0v,Q1y,wY];rfl
theorem Fe {α:Type} [DecidableEq α]:∀{l m:List α},l.Nodup->(∀x∈l,x∈m)->l.length<=m.length
 |[],m,_,_=>Q0g _
 |a::r,m,U,I=>by
  obtain⟨Y,n2⟩:=List.nodup_cons.mp U;have J:a∈m:=I a Q02
  have:=Fe n2 (m:=m.erase a) λy L=>by
   rw[List.mem_erase_of_ne (show y≠a from λz=>Y (by rw[<-z];exact L))];exact I y (Q07 _ L)
  rw[List.length_erase_of_mem J] at this;have hp:0<m.length:=Q2q J;rw[Q0k];omega
noncomputable def cand:List Str:=["q","x","qx","xq","qqx","xqq","qxq","xqx","qqq","xxx","qxx","xxq","qq"]
theorem Ms:cand.Nodup:=by decide +kernel
theorem Mt:∀x∈cand,x≠"":=by decide +kernel
theorem Mv {ss:List Str}(h:ss.length<=12):0<(cand.filter λx=> !decide (x∈ss)).length:=by
 rcases Nat.eq_zero_or_pos (cand.filter λx=> !decide (x∈ss)).length with z|z
 . have e:=List.length_eq_zero_iff.mp z
   have:=Fe Ms (m:=ss) λx J=>by
    by_cases I:x∈ss
    . exact I
    . have:x∈cand.filter λx=> !decide (x∈ss):=List.mem_filter.mpr ⟨J,by rw[decide_eq_false I];rfl⟩;rw[e] at this
      cases this
   have L:cand.length=13:=rfl;omega
 . exact z
noncomputable def qh (i:Nat):Stmt:=(iI (top 45)).getD i (.Pass ⟨0,0,0,0⟩)
noncomputable def asE:Stmt->Expr| .Assign _ e _=>e|_=>.Constant .none 0 ⟨0,0,0,0⟩
noncomputable def asP:Stmt->Pos| .Assign _ _ p=>p|_=>⟨0,0,0,0⟩
noncomputable def Mw:Stmt->Pos| .Assign [.Name _ p] _ _=>p|_=>⟨0,0,0,0⟩
noncomputable def Mx:Expr->List Expr| .List es _=>es|_=>[]
noncomputable def My:Expr->Pos| .List _ p=>p|_=>⟨0,0,0,0⟩
@[irreducible] noncomputable def ux:List Expr:=Mx (asE (qh 0))
@[irreducible] noncomputable def Mz:Pos:=asP (qh 0)
@[irreducible] noncomputable def MA:Pos:=Mw (qh 0)
@[irreducible] noncomputable def r34:Pos:=My (asE (qh 0))
theorem MB:iI (top 45)=[.Assign [.Name "_law_some_here" MA] (.List ux r34) Mz,qh 1,qh 2]:=by kernel_rfl
noncomputable def sC:Expr->Bool| .Constant (.str _) _ _=>true|_=>false
noncomputable def sV:Expr->V| .Constant (.str x) _ _=>.str x|_=>.non
theorem MC:ux.all sC=true:=by kernel_rfl
theorem Ff:ux.map sV=cand.map V.str:=by kernel_rfl
theorem Fg {X:Cx}:∀(es:List Expr),es.all sC=true->PA X es (λσ H Q=>Q (es.map sV) H)
 |[],_=>b_
 |e::r,h=>by
  rw[Q1y,Bool.and_eq_true] at h;have I:=Fg (X:=X) r h.2
  cases e with
  |Constant c j pos=>
   cases c with
   |str x=>exact a_ gW I
   |_=>exact absurd h.1 (by simp[sC])
  |_=>exact absurd h.1 (by simp[sC])
def wZ (K:W.Frag):Sp:=λvs H Q _=>∃a b ns n I,∃ss:List Str,vs=[.ref a,.ref b,.ref I]/\G0 K H a b ns n/\n<=1000000000000/\H I=some (.lst (ss.map V.str))/\ss.length<=12/\
 ∀(x:Str) (H':Hp),SB b H H'->H' b=some (.lst [.int (n+1)])->x ∉ ss->x≠""->Q (.str x) H'
theorem MD:gQ Xg Xb (gp (top 45)):=g_
theorem ME (T:Tb mg)(I:Dn K mg "_law_stranger" pZ (top 45) J L)(U:Dn K mg "_law_next" gL (top 32) Y aa)(ab:gc P w K mg base gf (1) Y aa gL (my K)):gc P w K mg base gf (2) J L pZ (wZ K):=by
 refine I.F.ok MD λvs H Q E h=>?_;obtain⟨a,b,ns,n,nl,ss,rfl,g,hn,ah,ai,q⟩:=h;refine⟨rfl,λan A outer s nd hr hu=>?_⟩;rw[MB]
 refine⟨_,(e_ (gA 3 nd (iV (Fg ux MC)))
  (e_ (qX (i:=4) nd rfl iG (g:=(iH 0)) (tt:=(jI (ie (sM K true) (gJ 0) (gJ 3)))) (te:=(gJ 0)) (own:=["_law_name"]) rfl (jE (N:=Xg) (sc:=gp (top 45))) (kP (pv 3)) (λ_ _ _ _ _=>(gY (i:=0) (show(["_law_name","_law_script","_law_at","_law_names_here","_law_some_here","_law_free"]:List Str).Nodup by decide +kernel) rfl (Or.inl rfl) (.inr rfl))) (λ_ _ _ _ _=>(lY (gE qO (pv 0) (pv 3) (by with_unfolding_all rfl)))) (λ_ _ _ _ _=>(pv 0)))
  (gi (gw (ju (pv 4) (gn ir (gv ab hr U (a_ (pv 0) (a_ (pv 1) b_))) (ij jr (by rfl) T.ja PySem.boot_len (a_ (pv 4) b_)))))))),?_⟩
 ac_rfl
 refine⟨by rw[Ff];show 13<=sizeLine;decide,λp1 aj=>?_⟩;rw[Ff];have s1:Same H (upd H p1 (.lst (cand.map V.str))):=Same.new aj;have g1:=gh (H:=H) (a:=p1) (o:=.lst (cand.map V.str));generalize upd H p1 (.lst (cand.map V.str))=H1 at s1 g1;refine⟨_,rfl,p1,rfl,⟨_,f_.of g1⟩,mY (wO (f_.of g1)) (λi=>((cand.take i).filter λx=> !decide (x∈ss)).map V.str) (by rw[Q0];decide) (λp2 ac=>?_) (λi x hx add skip=>?_)⟩
 . have et:cand.take (cand.map V.str).length=cand:=Q15 (by rw[Q0];exact Q00 _);rw[et];have am:=Mv ai
   have ag:∀x∈cand.filter (λx=> !decide (x∈ss)),x ∉ ss/\x≠"":=λx hx=>by
    obtain⟨h1,h2⟩:=List.mem_filter.mp hx;refine⟨λz=>?_,Mt x h1⟩;rw[decide_eq_true z] at h2
    cases h2
   have ao:(cand.filter λx=> !decide (x∈ss)).length<=13:=Q1 _ _;generalize (cand.filter λx=> !decide (x∈ss))=fr at *;have s2:=s1.trans (Same.new (o:=.lst (fr.map V.str)) ac);have g2:=gh (H:=H1) (a:=p2) (o:=.lst (fr.map V.str));have pb:p2≠b:=λz=>by have:=s1 _ _ g.at_;rw[<-z,ac] at this;cases this
   generalize upd H1 p2 (.lst (fr.map V.str))=H2 at s2 g2;refine⟨_,rfl,_,rfl,_,rfl,a,b,ns,n,rfl,g.go (SB.of s2) (s2 _ _ g.at_) (by omega),hn,λr H3 r0 r1 s3 h3=>?_⟩;have ae:=s3 p2 _ pb g2;have af:((fr.map V.str).length:Int)=(fr.length:Int):=by rw[Q0]
   have w0:=Q0m r (show(fr.length:Int)≠0 by omega);have w1:=Q0n r (show(0:Int)<(fr.length:Int) by omega);obtain⟨sx,ak,al⟩:=rD (ss:=fr) w0 w1;have hm:=ag sx (Q0j al);exact⟨_,rfl,p2,_,rfl,.inl (f_.of ae),_,_,rfl,rfl,(by rw[af];omega),p2,_,_,_,rfl,rfl,f_.of ae,(by rw[af];exact ak),q sx H3 ((SB.of s2).trans s3) h3 hm.1 hm.2⟩
 . obtain⟨z,hz,rfl⟩:=Option.map_eq_some_iff.mp (List.getElem?_map.symm.trans hx);refine⟨rfl,_,rfl,_,rfl,nl,_,rfl,.inl (f_.of (s1 _ _ ah)),rfl,wY,_,rfl,?_⟩;show if(if true=true then !inV (V.str z) (ss.map V.str) else inV (V.str z) (ss.map V.str))=true then _ else _
   rw[if_pos rfl,Fc];exact h_ (λcc=>⟨_,rfl,add _ (by rw[nV hz cc])⟩) (λcc=>skip (by rw[nW hz cc]))
end Pb
namespace L2
open Spec PyProof.Rows
noncomputable def Fh (a:Addr) (o:Obj) (kvs:List (Key × V)):It:=
 ⟨λi H=>i<kvs.length/\H a=some (.iU o (.dK kvs)),λi H x H'=>H'=H/\∃p,kvs[i]? =some p/\x=kV p.1,λi H=>kvs.length<=i/\H a=some (.iU o (.dK kvs))⟩
theorem Fi:∀{kvs:List (Key × V)}{vs:List (Key × Value)}{i:Nat}{p:Key × V},KV kvs vs->kvs[i]? =some p->∃v,vs[i]? =some (p.1,v)
 |_,_,i,p,.nil,h=>by simp at h
 |_,_,0,p,.cons (b:=b) h t,e=>by
  have e:=Option.some.inj (show some _=some p from e);subst e;exact⟨b.2,by show some b=_;rw[h.1]⟩
 |_,_,i+1,p,.cons h t,e=>Fi (i:=i) t e
theorem MF {P:Program}{w:World}{k:Key}{u:Value}(h:(je P w).is k u=true):RelV (kV k) u:=by
 have h:m8 k u=true:=h;rcases l_ h with⟨i,t,rfl,rfl⟩|⟨x,t,rfl,rfl⟩
 . exact⟨t,rfl⟩
 . exact⟨t,rfl⟩
theorem MH {P:Program}{w:World}{K:W.Frag}{tg:Expr}{a it:Addr}{o:Obj}{kvs:List (Key × V)}{vs:List (Key × Value)}{ep:Nat}(Y:KV kvs vs)(ha:∀h:Heap,h.get? a=some o->h.DictAt (je P w) a vs ep):
 Turn P w K tg (Fh a o kvs) [it] it (λi h=>h.IsKeyIter it a i vs.length ep) where
 mem:=by simp
 obj:=λi h st b J=>by
  have e:b=it:=by simpa using J
  subst e;obtain⟨o,e,c,d⟩:=st;exact⟨o,e,λv z=>by rw[d] at z;cases z⟩
 keep:=λi h h' st k=>st.at λo e=>k it (by simp) o e
 item:=by
  intro X hP hw hK hc i pins s σ H E I hf st hg;subst hP hw hK;obtain⟨hi,L⟩:=hg;obtain⟨U,_⟩:=I.hok a _ L;have hp:kvs[i]? =some kvs[i]:=Q03 hi;obtain⟨v,hv⟩:=Fi Y hp;obtain⟨f0,f1,f2,f3,f4,f5⟩:=hf it (by simp);refine wpAny_pyNext_dict_item st (ha _ U) hv λkey h' hk aa sb=>?_;have I1:Inv X pins σ H { s with heap:=h' }:=I.turned (t':=s.toks) (λb o J e=>(sb.2 b J).trans e) f0 f1 f3 f4 f5;obtain⟨o,e,c,d⟩:=id aa;exact⟨key,rfl,sy (s:={ s with heap:=h' }) e c d (by decide) ⟨kV kvs[i].1,H,I1,MF hk,⟨rfl,_,hp,rfl⟩,aa,λb J=>(hf b J).1⟩⟩
 done:=by
  intro X hP hw hK hc i pins s σ H E I hf st hg;subst hP hw hK;obtain⟨hi,L⟩:=hg;obtain⟨U,_⟩:=I.hok a _ L;obtain⟨f0,f1,f2,f3,f4,f5⟩:=hf it (by simp);have hl:=Paired.length Y;exact wpAny_pyNext_dict_end (I.ok.hd hc) st (ha _ U) (List.getElem?_eq_none (by omega)) λh' eb=>⟨rfl,I.turned (t':=s.toks) (λb o J e=>eb b o J e) f0 f1 f3 f4 f5⟩
 self:=λ_ _ _ _ _ st h=>wpAny_pyIter_keyiter st h
section
variable {X:Cx}{tg:Expr}
def uy (I:Hp) (a:Addr):Prop:=∀o u,I a≠some (.iU o u)
def Fj (I:Hp) (tl:TE):TI:=λσ H R=>tl σ H λx H1=>∃a kvs,x=.ref a/\H1 a=some (.dK kvs)/\∀o,uy I a->R (Fh a o kvs) (upd H1 a (.iU o (.dK kvs)))
theorem Inv.freeze {pins:List (Addr × Obj)}{σ:St}{H:Hp}{s:Shared}{a:Addr}{kvs:List (Key × V)}(I:Inv X pins σ H s)(h:H a=some (.dK kvs)):
 ∃o vs ep,KV kvs vs/\(a == sysModules)=false/\s.heap.get? a=some o/\(∀h:Heap,h.get? a=some o->h.DictAt (je X.prog X.w) a vs ep)/\uy X.H₀ a/\Inv X pins σ (upd H a (.iU o (.dK kvs))) s:=by
 obtain⟨z,Y,vs,L,o,es,ep,U,e2⟩:=id (I.hok a _ h);refine⟨o,vs,ep,L,Y,U,λh' e=>⟨o,es,e,e2⟩,λo' u J=>?_,?_⟩
 . have:=I.base.ke a o' u J;rw[h] at this;cases this
 . have u:Un X.fs [] H (upd H a (.iU o (.dK kvs))) s.heap s.heap:=Un.write (x:=a) (e:=a) (by rw[h];trivial) (.inl rfl) (λb u _ q=>q) ⟨o,U⟩;refine I.un (t':=s.toks) u λb v e=>?_;by_cases hb:b=a
   . subst hb;rw[gh] at e
     cases e;exact⟨U,z,Y,vs,L,o,es,ep,U,e2⟩
   . rw[d_ hb] at e;exact(I.hok b v e).stay (λc w _ q=>q) (λc q=>by rw[d_ (λJ=>by rw[J,h] at q;cases q)];exact q) λc xs q=>by rw[d_ (λJ=>by rw[J,h] at q;cases q)];exact q
theorem Inv.MJ {pins:List (Addr × Obj)}{σ:St}{H:Hp}{s:Shared}{a:Addr}{o:Obj}{kvs:List (Key × V)}(I:Inv X pins σ H s)(h:H a=some (.iU o (.dK kvs)))(hz:uy X.H₀ a):Inv X pins σ (upd H a (.dK kvs)) s:=by
 have L:∀{b:Addr},H b=none->upd H a (.dK kvs) b=none:=λ{b} e=>by rw[d_ (λz=>by rw[z,h] at e;cases e)];exact e
 refine⟨I.ok,I.os,I.bare,⟨I.base.keep,I.base.slot,λb u q n hx=>L (I.base.free b u q n hx),I.base.there,λb xs q=>?_,λb o' u q=>?_,λb ps q=>?_⟩,I.loc,I.cell,L I.free,λx c e=>L (I.jy x c e),λp hp=>?_,λb v e=>?_,I.len⟩
 . have:=I.base.tups b xs q;rw[d_ (λz=>by rw[z,h] at this;cases this)];exact this
 . have:=I.base.ke b o' u q;rw[d_ (λz=>hz o' u (by rw[<-z];exact q))];exact this
 . obtain⟨J,this⟩:=I.base.kK b ps q;exact⟨J,by rw[d_ (λz=>by rw[z,h] at this;cases this)];exact this⟩
 . obtain⟨p1,p2,p3⟩:=I.pin p hp;exact⟨p1,L p2,p3⟩
 . by_cases Y:b=a
   . subst Y;rw[gh] at e
     cases e;exact(I.hok b _ h).2
   . rw[d_ Y] at e;exact(I.hok b v e).stay (λc w _ q=>q) (λc q=>by rw[d_ (λU=>by rw[U,h] at q;cases q)];exact q) λc xs q=>by rw[d_ (λU=>by rw[U,h] at q;cases q)];exact q
theorem MK {l:Expr}{tl:TE}(hl:PE X l tl):PI X tg l (Fj X.H₀ tl):=by
 intro pins s σ H R I h;refine gB (hl pins s σ H _ I h) λv L zq=>?_;obtain⟨x,H1,I1,r1,q1⟩:=zq;obtain⟨a,kvs,e,hq,q⟩:=q1;subst e
 cases r1;obtain⟨o,vs,ep,Y,hs,aa,J,hz,U⟩:=I1.freeze hq;refine wpAny_pyIter_dict hs (J _ aa) ?_;refine⟨L.heap.objs.size,[L.heap.objs.size],_,_,upd H1 a (.iU o (.dK kvs)),rfl,U.kept (t':=L.toks) λb o e=>Q0a _ e,MH Y J,⟨_,Q0i _ rfl,rfl,rfl⟩,λb hb=>?_,q o hz⟩;have e:b=L.heap.objs.size:=by simpa using hb
 subst e;exact U.nh (Q00 _) (U.hok.fresh (Q00 _))
theorem ML {I:Hp}(J:X.H₀=I){l:Expr}{tl:TE}(hl:PE X l tl):PI X tg l (Fj I tl):=by
 subst J;exact MK hl
def MM (I:Hp) (t:TE):TE:=λσ H Q=>t σ H λv H'=>∃a o kvs,uy I a/\H' a=some (.iU o (.dK kvs))/\Q v (upd H' a (.dK kvs))
theorem MN {L:Hp}(U:X.H₀=L){e:Expr}{t:TE}(h:PE X e t):PE X e (MM L t):=by
 subst U;intro pins s σ H Q I q;refine gB (h pins s σ H _ I q) λv s1 zq=>?_;obtain⟨x,H1,Y,r1,J⟩:=zq;obtain⟨a,o,kvs,hz,ha,J⟩:=J;exact⟨x,_,Y.MJ ha hz,r1,J⟩
end
end L2
namespace Pb
open L2 PyProof.Rows
theorem gj.del {H:Hp}{x:Str}:∀{m:Ds}{kvs:List (Key × V)}{J:List Addr},gj H kvs m J->∃I,gj H (jK kvs (Sum.inr x)) (m.del x) I/\I.Sublist J
 | .nil,kvs,J,h=>by
   unfold gj at h;obtain⟨rfl,rfl⟩:=h;exact⟨[],by unfold Ds.del gj;exact⟨rfl,rfl⟩,List.Sublist.refl _⟩
 | .cons y d r,kvs,J,h=>by
   unfold gj at h;obtain⟨u,q,f1,f2,rfl,rfl,Y,hr⟩:=h;obtain⟨f3,L,U⟩:=gj.del hr;unfold jK at L ⊢;rw[Q11];by_cases ex:y=x
   . rw[if_neg (by show ¬decide ((Sum.inr y:Key)≠Sum.inr x)=true;rw[ex];simp)];refine⟨f3,?_,U.trans (Q3i _ _)⟩;unfold Ds.del;rw[if_pos ex];exact L
   . rw[if_pos (by simp[ex])];refine⟨f1++f3,?_,List.Sublist.append (List.Sublist.refl _) U⟩;unfold Ds.del;rw[if_neg ex];unfold gj;exact⟨_,_,f1,f3,rfl,rfl,Y,L⟩
def Fk (K:W.Frag):Sp:=λvs H Q _=>∃a l,∃kvs sub:List (Key × V),vs=[.ref a,.ref l]/\H a=some (.dK kvs)/\(kvs.map (·.1)).Nodup/\H l=some (.lst (sub.map λI=>kV I.1))/\sub.Sublist kvs/\kvs.length<=100/\
 ∀p H',Same H H'->H p=none->H' p=some (.dK sub)->Q (.ref p) H'
def Fl (K:W.Frag):Sp:=λvs H Q _=>∃a l x,∃kvs:List (Key × V),vs=[.ref a,.ref l]/\H a=some (.dK kvs)/\(kvs.map (·.1)).Nodup/\kvs.length<=100/\H l=some (.lst [.str x])/\
 ∀p H',Same H H'->H p=none->H' p=some (.dK (jK kvs (Sum.inr x)))->Q (.ref p) H'
def Fm:Sp:=λvs H Q _=>∃a x v,∃kvs:List (Key × V),vs=[.ref a,.str x,v]/\H a=some (.dK kvs)/\kvs.length<=100/\iw kvs (Sum.inr x)=none/\∀p H',Same H H'->H p=none->H' p=some (.dK (kvs++[(Sum.inr x,v)]))->Q (.ref p) H'
def Fn:Sp:=λvs H Q _=>∃a x v,∃kvs:List (Key × V),vs=[.ref a,.str x]/\H a=some (.dK kvs)/\iw kvs (Sum.inr x)=some v/\∀p H',Same H H'->H p=none->H' p=some (.dK (jK kvs (Sum.inr x)))->Q (.ref p) H'
variable {P:Program}{w:World}{K:W.Frag}{mg:Str->Option Value}{base:Heap}
theorem MO:gQ ["record","names","part","name"] XT (gp (top 26)):=g_
theorem MP (T:Tb mg)(I:Dn K mg "part_of" nK (top 26) J L):gc P w K mg base gf (1) J L nK (Fk K):=by
 refine I.F.ok MO λvs H Q E h=>?_;obtain⟨a,l,kvs,sub,rfl,ha,ac,hl,U,ae,q⟩:=h;refine⟨rfl,λal A outer s nd hr hu=>?_⟩;have am:sub.length<=100:=Q0d U.length_le ae;have ag:(sub.map (·.1)).Nodup:=(U.map _).nodup ac
 refine⟨_,(e_ (gA 2 nd pJ)
  (e_ (jk PassesOwn.never rfl (kP (pv 1)) (gY (i:=3) nd rfl iG) (gi (mJ hu (pv 2) (pv 3) (i6 hu (pv 0) (pv 3) (λ_ _=>rfl)) rfl)))
  (gi (gw (pv 2))))),?_⟩
 ac_rfl
 intro p hp;have s0:Same H (upd H p (.dK [])):=Same.new hp;refine⟨_,rfl,l,rfl,⟨_,f_.of (s0 _ _ hl)⟩,oB (xs:=sub.map λY=>kV Y.1) (λi σ H'=>∃x,σ=[some (.ref a),some (.ref l),some (.ref p),x]/\Same H H'/\H' p=some (.dK (sub.take i))) ⟨_,rfl,s0,gh⟩ ?_ ?_ ?_⟩
 . rintro i σ H' _ ⟨x,rfl,s2,_⟩;exact f_.of (s2 _ _ hl)
 . rintro i v σ H' hv ⟨x,rfl,s2,aa⟩;obtain⟨Y,ab,rfl⟩:=Option.map_eq_some_iff.mp (List.getElem?_map.symm.trans hv);have hm:=U.subset (Q0j ab);obtain⟨j,hj,ej⟩:=Q10 hm;have af:iw kvs Y.1=some Y.2:=K9 ac (i:=j) (by rw[Q03 hj,ej])
   have ah:iw (sub.take i) Y.1=none:=by
    cases e:iw (sub.take i) Y.1 with
    |none=>rfl
    |some o=>
     have ai:=qV e;obtain⟨i',aj,e'⟩:=Q10 ai;rw[Q0,Q0l] at aj;rw[Q1z,Q2l] at e';have ak:i<sub.length:=(List.getElem?_eq_some_iff.mp ab).1;have e2:sub[i]=Y:=(List.getElem?_eq_some_iff.mp ab).2;have:=List.pairwise_iff_getElem.mp (List.pairwise_map.mp ag) i' i (by omega) ak (by omega);rw[e2] at this;exact absurd e' this
   have g:il H' a (kV Y.1) (some Y.2):=by have:=il.k (k:=Y.1) (s2 _ _ ha);rw[af] at this;exact this
   refine⟨_,rfl,_,rfl,a,_,rfl,g,_,rfl,_,rfl,p,_,rfl,km.k aa (iF (by rw[Q0l];omega)),?_⟩;rw[nH ah];refine⟨_,rfl,λc o e=>by rw[d_ (gz e hp)];exact s2 _ _ e,?_⟩;rw[gh,Q0q,ab];rfl
 . rintro σ H' ⟨x,rfl,s2,aa⟩;rw[Q0,Q0p] at aa;exact⟨_,rfl,q p H' s2 hp aa⟩
theorem MQ:gQ XT XT (gp (top 27)):=g_
theorem MR (T:Tb mg)(I:Dn K mg "rest_of" nK (top 27) J L)(U:Dn K mg "part_of" nK (top 26) Y aa)(ab:gc P w K mg base gf (1) Y aa nK (Fk K)):gc P w K mg base gf (2) J L nK (Fl K):=by
 refine I.F.ok MQ λvs H Q E h=>?_;obtain⟨a,l,x,kvs,rfl,ha,ag,af,hl,q⟩:=h;refine⟨rfl,λal A outer s nd hr hu=>?_⟩;refine⟨_,(gi (gw (gv ab hr U (a_ (pv 0) (a_ (MN rfl (kT (g:=(iH 0)) (tt:=(jI (ie (sM K true) (gJ 0) (gJ 2)))) (te:=(gJ 0)) (own:=["name"]) rfl (jE (N:=XT) (sc:=gp (top 27))) (ML rfl (pv 0)) (λ_ _ _ _ _=>(gY (i:=0) (show(["name","record","names"]:List Str).Nodup by decide +kernel) rfl (Or.inl rfl) (.inr rfl))) (λ_ _ _ _ _=>(lY (gE qO (pv 0) (pv 2) (by with_unfolding_all rfl)))) (λ_ _ _ _ _=>(pv 0)))) b_))))),?_⟩
 ac_rfl
 refine⟨_,rfl,_,rfl,a,_,rfl,ha,λo hz=>?_⟩;have kf:∀c u,c≠a->H c=some u->upd H a (.iU o (.dK kvs)) c=some u:=λc u hc e=>by rw[d_ hc];exact e
 have ah:f_ K (upd H a (.iU o (.dK kvs))) l [.str x]:=f_.of (kf _ _ (gR hl ha (by intro z;cases z)) hl);refine⟨λi m zs H'=>m=kvs.length - i/\i<=kvs.length/\zs=(jK (kvs.take i) (Sum.inr x)).map (λkv=>kV kv.1)/\H'=upd H a (.iU o (.dK kvs)),⟨kvs.length,rfl,Q0g _,rfl,rfl⟩,?_⟩;rintro i m zs H' ⟨rfl,am,rfl,rfl⟩;have ac:=gh (H:=H) (a:=a) (o:=.iU o (.dK kvs));by_cases hi:i<kvs.length
 . have hb:(jK (kvs.take i) (Sum.inr x)).length<=i:=Q0d (Q1 _ _) (by rw[Q0l];omega);refine .inr ⟨⟨hi,ac⟩,by rw[Q0];exact iF (by omega),λy an yy=>?_⟩;obtain⟨rfl,pr,ae,rfl⟩:=yy;refine⟨rfl,_,rfl,_,rfl,l,_,rfl,.inl ah,uu _,rfl,_,rfl,?_⟩;refine h_ (λcc=>?_) (λcc=>?_)
   . refine⟨_,rfl,kvs.length - (i+1),by omega,rfl,hi,?_,rfl⟩
     have e:pr.1≠Sum.inr x:=λz=>by
      have cc:(!inV (kV pr.1) ([Sum.inr x].map kV))=true:=cc;rw[rG.mpr (by rw[z];exact Q02)] at cc
      cases cc
     unfold jK;rw[nV ae (decide_eq_true e)]
   . refine⟨kvs.length - (i+1),by omega,rfl,hi,?_,rfl⟩
     have e:¬decide (pr.1≠Sum.inr x)=true:=λz=>cc (by
      show(!inV (kV pr.1) ([Sum.inr x].map kV))=true
      cases y:inV (kV pr.1) ([Sum.inr x].map kV) with
      |false=>rfl
      |true=>exact absurd (List.mem_singleton.mp (rG.mp y)) (of_decide_eq_true z))
     unfold jK;rw[nW ae e]
 . refine .inl ⟨⟨by omega,ac⟩,λp hp=>?_⟩;have ai:kvs.take i=kvs:=Q15 (by omega);rw[ai];have s5:=Same.new hp (o:=.lst ((jK kvs (Sum.inr x)).map (λkv=>kV kv.1)));refine⟨a,o,_,hz,s5 _ _ ac,?_⟩;have aj:p≠a:=λz=>by rw[z,ac] at hp;cases hp
   have s6:Same H (upd (upd (upd H a (.iU o (.dK kvs))) p (.lst ((jK kvs (Sum.inr x)).map (λkv=>kV kv.1)))) a (.dK kvs)):=λc u e=>by
    by_cases hc:c=a
    . subst hc;rw[gh,<-ha];exact e
    . rw[d_ hc];exact s5 _ _ (kf _ _ hc e)
   refine⟨a,p,_,jK kvs (Sum.inr x),rfl,s6 _ _ ha,ag,by rw[d_ aj,gh],Q25,af,λp' H' s7 hn ak=>q p' H' (s6.trans s7) ?_ ak⟩
   cases e:H p' with
   |none=>rfl
   |some u=>rw[s6 _ _ e] at hn;cases hn
theorem MS:gQ ["record","name","value","fresh"] Xm (gp (top 28)):=g_
theorem MT (T:Tb mg)(I:Dn K mg "with_field" tL (top 28) J L):gc P w K mg base gf (1) J L tL (Fm):=by
 refine I.F.ok MS λvs H Q E h=>?_;obtain⟨a,x,v,kvs,rfl,Y,U,hx,q⟩:=h;refine⟨rfl,λaa A outer s nd hr hu=>?_⟩
 refine⟨_,(e_ (gA 3 nd (lW wW (by rfl) T.rm boot_dict (a_ (pv 0) b_)))
  (e_ (mJ hu (pv 3) (pv 1) (pv 2) rfl)
  (gi (gw (pv 3))))),?_⟩
 ac_rfl
 refine⟨_,rfl,a,_,rfl,Y,λp hp=>?_⟩;refine⟨_,rfl,_,rfl,_,rfl,p,_,rfl,km.k (k:=Sum.inr x) gh (iF (by omega)),?_⟩;refine⟨_,rfl,q p _ (λc o e=>?_) hp ?_⟩
 . rw[d_ (gz e hp),d_ (gz e hp)];exact e
 . rw[gh,nH hx]
theorem MU:gQ ["_law_row","_law_field","_law_made"] Xn (gp (top 56)):=g_
theorem MV (T:Tb mg)(I:Dn K mg "_law_less" tM (top 56) J L):gc P w K mg base gf (1) J L tM (Fn):=by
 refine I.F.ok MU λvs H Q E h=>?_;obtain⟨a,x,v,kvs,rfl,U,Y,q⟩:=h;refine⟨rfl,λaa A outer s nd hr hu=>?_⟩
 refine⟨_,(e_ (gA 2 nd (lW wW (by rfl) T.rm boot_dict (a_ (pv 0) b_)))
  (e_ (kh (lg PySem.F.plainAttrs_dict PySem.F.slot_dict_pop PySem.F.type_dict_pop L_ (pv 2) (a_ (pv 1) b_)))
  (gi (gw (pv 2))))),?_⟩
 ac_rfl
 refine⟨_,rfl,a,_,rfl,U,λp hp=>?_⟩;refine⟨_,rfl,.inr (.inr (.inl ⟨rfl,.inl ⟨_,gh⟩⟩)),_,rfl,p,kvs,Sum.inr x,v,rfl,rfl,gh,Y,?_⟩;refine⟨_,rfl,q p _ (λc o e=>?_) hp gh⟩;rw[d_ (gz e hp),d_ (gz e hp)];exact e
open Classical in
noncomputable def jh (I:List Key) (k:Key):List Key:=if k∈I then I else I++[k]
noncomputable def iS (l:List Key):List Key:=l.foldl jh []
theorem w6 (l:List Key)(k:Key):iS (l++[k])=jh (iS l) k:=by
 unfold iS;rw[Q2m];rfl
theorem MW {I:List Key}{k q:Key}:q∈jh I k↔q∈I\/q=k:=by
 unfold jh;split
 . rename_i h;constructor
   . exact .inl
   . rintro(z|rfl)
     . exact z
     . exact h
 . rw[List.mem_append,List.mem_singleton]
theorem MX {I:List Key}{k:Key}(h:I.Nodup):(jh I k).Nodup:=by
 unfold jh;split
 . exact h
 . rename_i c;refine List.nodup_append.mpr ⟨h,List.nodup_cons.mpr ⟨λz=>(nomatch z),Q0o⟩,λa J b L e=>c ?_⟩;rw[<-List.mem_singleton.mp L,<-e];exact J
theorem Fo {q:Key}:∀{l I:List Key},q∈l.foldl jh I↔q∈I\/q∈l
 |[],I=>⟨.inl,λh=>h.elim id λz=>nomatch z⟩
 |k::r,I=>by
  show q∈r.foldl jh (jh I k)↔_;rw[Fo (l:=r),MW,Q1d,or_assoc]
theorem Fp:∀{l I:List Key},I.Nodup->(l.foldl jh I).Nodup
 |[],_,h=>h
 |_::r,_,h=>Fp (l:=r) (MX h)
theorem uz {l:List Key}{q:Key}:q∈iS l↔q∈l:=by
 unfold iS;rw[Fo];exact⟨λh=>h.elim (λz=>nomatch z) id,.inr⟩
theorem MY (l:List Key):(iS l).Nodup:=Fp Q0o
theorem MZ (I:List Key)(k:Key):(jh I k).length<=I.length+1:=by
 unfold jh;split
 . omega
 . rw[Q09];exact Q00 _
theorem Fq:∀(l I:List Key),(l.foldl jh I).length<=I.length+l.length
 |[],I=>Q00 _
 |k::r,I=>by
  have:=Fq r (jh I k);have h2:=MZ I k;show(r.foldl jh (jh I k)).length<=_;rw[Q0k];omega
theorem qi (l:List Key):(iS l).length<=l.length:=by
 have:=Fq l [];unfold iS;simpa using this
theorem w_ {o:Option Kd}:∀{ks:List Key},(∀k∈ks,jo o k)->uw ks
 |[],_=>.inl ⟨[],rfl⟩
 |k::r,h=>by
  have I:=h k Q02;have J:=w_ (ks:=r) λq L=>h q (Q07 _ L)
  cases k with
  |inl z=>
   rcases J with⟨ns,e⟩|⟨ss,e⟩
   . exact .inl ⟨z::ns,by rw[e];rfl⟩
   . cases ss with
     |nil=>exact .inl ⟨[z],by rw[e];rfl⟩
     |cons s t=>
      have h1:=h (Sum.inr s) (by rw[e];exact Q07 _ Q02);unfold jo at I h1;split at I <;> simp_all
  |inr s=>
   rcases J with⟨ns,e⟩|⟨ss,e⟩
   . cases ns with
     |nil=>exact .inr ⟨[s],by rw[e];rfl⟩
     |cons z t=>
      have h1:=h (Sum.inl z) (by rw[e];exact Q07 _ Q02);unfold jo at I h1;split at I <;> simp_all
   . exact .inr ⟨s::ss,by rw[e];rfl⟩
def rJ (a b:Key):Prop:=iq [a] [b]=true
theorem M0 {a b:Key}(h:o7 a b)(ne:a≠b):rJ a b:=by
 rcases pN [a] [b] with q|q|q
 . exact q
 . exact absurd (List.cons.inj q).1 ne
 . have h:iq [b] [a]=false:=h;rw[h] at q;cases q
theorem M1 {l:List Key}(h:l.Pairwise o7)(nd:l.Nodup):l.Pairwise rJ:=(h.and nd).imp λ⟨h1,h2⟩=>M0 h1 h2
theorem Ft:∀{J I:List Key},J.Perm I->J.Pairwise rJ->I.Pairwise rJ->J=I
 |[],I,p,_,_=>by rw[p.nil_eq]
 |a::r,[],p,_,_=>absurd p.length_eq (by simp)
 |a::r,b::q,p,h1,h2=>by
  obtain⟨U,Y⟩:=List.pairwise_cons.mp h1;obtain⟨b1,b2⟩:=List.pairwise_cons.mp h2
  have e:a=b:=by
   have ha:a∈b::q:=p.mem_iff.mp Q02;have hb:b∈a::r:=p.mem_iff.mpr Q02;rcases List.mem_cons.mp ha with e|e
   . exact e
   . rcases List.mem_cons.mp hb with L|L
     . exact L.symm
     . have z:=oO _ _ _ (U b L) (b1 a e);rw[ra] at z;cases z
  subst e;rw[Ft ((Q2k a).mp p) Y b2]
def GV (x:Str) (ms:List Ds) (ks:List Key):Prop:=ks.Perm (iS (ms.map λm=>keyOf m x))/\ks.Pairwise o7
theorem GV.nd {x:Str}{ms:List Ds}{ks:List Key}(h:GV x ms ks):ks.Nodup:=h.1.nodup_iff.mpr (MY _)
theorem GV.lt {x:Str}{ms:List Ds}{ks:List Key}(h:GV x ms ks):ks.Pairwise rJ:=M1 h.2 h.nd
theorem GV.eq {x:Str}{ms:List Ds}{ks I:List Key}(h:GV x ms ks)(h':GV x ms I):ks=I:=Ft (h.1.trans h'.1.symm) h.lt h'.lt
theorem GV.mem {x:Str}{ms:List Ds}{ks:List Key}(h:GV x ms ks){k:Key}:k∈ks↔∃m∈ms,keyOf m x=k:=by
 rw[h.1.mem_iff,uz,List.mem_map]
noncomputable def jv (x:Str) (v:Key) (m:Ds):Bool:=decide (keyOf m x=v)
noncomputable def iC (x:Str) (ms:List Ds) (v:Key):List Ds:=(ms.filter (jv x v)).map λm=>m.del x
noncomputable def j_ (x y:Str) (ms:List Ds) (v:Key):Ds:=.cons x (kD v) (.cons y (.lst (ic (iC x ms v))) .nil)
noncomputable def iT (x y:Str) (ms:List Ds) (ks:List Key):List Ds:=ks.map (j_ x y ms)
noncomputable def jD (x:Str) (ms:List Ds) (v:Key):List Ds:=(iC x ms v).map λm=>m.snoc x (kD v)
noncomputable def jw (x:Str) (ms:List Ds) (ks:List Key):List Ds:=ks.flatMap (jD x ms)
noncomputable def phi (x:Str) (m:Ds):Ds:=(m.del x).snoc x (kD (keyOf m x))
theorem M2 (x:Str)(ms:List Ds)(v:Key):jD x ms v=(ms.filter (jv x v)).map (phi x):=by
 unfold jD iC;rw[Q0z];refine Q1i λm I=>?_;have e:keyOf m x=v:=of_decide_eq_true (List.mem_filter.mp I).2;show(m.del x).snoc x (kD v)=(m.del x).snoc x (kD (keyOf m x));rw[e]
theorem rK (x:Str)(ms:List Ds):∀ks:List Key,jw x ms ks=(ks.flatMap λv=>ms.filter (jv x v)).map (phi x)
 |[]=>rfl
 |v::r=>by
  show jD x ms v++jw x ms r=_;rw[Q26,Q0b,M2,rK x ms r]
theorem uA (x:Str):∀{ks:List Key}{ms:List Ds},ks.Nodup->(∀m∈ms,keyOf m x∈ks)->(ks.flatMap λv=>ms.filter (jv x v)).Perm ms
 |[],ms,_,h=>by
  cases ms with
  |nil=>exact List.Perm.refl _
  |cons m r=>exact nomatch h m Q02
 |v::r,ms,nd,h=>by
  obtain⟨I,U⟩:=List.nodup_cons.mp nd;rw[Q26]
  have L:=uA x (ks:=r) (ms:=ms.filter λm=> !jv x v m) U λm Y=>by
   obtain⟨h1,h2⟩:=List.mem_filter.mp Y;rcases List.mem_cons.mp (h m h1) with e|e
   . rw[show jv x v m=true from decide_eq_true e] at h2;cases h2
   . exact e
  have e:∀r:List Key,v ∉ r->(r.flatMap λw=>(ms.filter λm=> !jv x v m).filter (jv x w))=r.flatMap λw=>ms.filter (jv x w):=λr=>by
   induction r with
   |nil=>exact λ_=>rfl
   |cons w t J=>
    intro I;rw[Q26,Q26,J λz=>I (Q07 _ z),List.filter_filter];congr 1;refine List.filter_congr λm _=>?_;by_cases c:keyOf m x=w
    . have c2:¬keyOf m x=v:=λz=>I (by rw[<-z,c];exact Q02);rw[show jv x w m=true from decide_eq_true c,show jv x v m=false from decide_eq_false c2];rfl
    . rw[show jv x w m=false from decide_eq_false c];rfl
  rw[e r I] at L;exact(List.Perm.append_left _ L).trans (List.filter_append_perm _ _)
theorem Ds.nY {x y:Str}(h:y≠x):∀m:Ds,(m.del x).get y=m.get y
 | .nil=>rfl
 | .cons z d r=>by
   unfold Ds.del;split
   . rename_i e;rw[Ds.nY h r];show _=if y=z then some d else r.get y
     rw[if_neg λq=>h (q.trans e)]
   . show(if y=z then some d else(r.del x).get y)=if y=z then some d else r.get y
     rw[Ds.nY h r]
theorem Ds.uB {x y:Str}{e:D}:∀m:Ds,(m.snoc x e).get y=match m.get y with|some d=>some d|none=>if y=x then some e else none
 | .nil=>rfl
 | .cons z d r=>by
   show(if y=z then some d else(r.snoc x e).get y)=match(if y=z then some d else r.get y) with|some d=>some d|none=>if y=x then some e else none
   by_cases c:y=z
   . rw[if_pos c,if_pos c]
   . rw[if_neg c,if_neg c,Ds.uB r]
theorem Ds.Fu {x:Str}:∀{m:Ds},x ∉ m.names->m.get x=none
 | .nil,_=>rfl
 | .cons z d r,h=>by
   show(if x=z then some d else r.get x)=none;rw[if_neg λe=>h (by rw[e];exact Q02)];exact Ds.Fu λq=>h (Q07 _ q)
theorem Fv {x y:Str}{m:Ds}(h:y≠x):(phi x m).get y=m.get y:=by
 unfold phi;rw[Ds.uB,Ds.nY h]
 cases m.get y with
 |some d=>rfl
 |none=>exact if_neg h
theorem Fw {x:Str}{m:Ds}:(phi x m).get x=some (kD (keyOf m x)):=by
 unfold phi;rw[Ds.uB,Ds.Fu (Ds.ue m x)];exact if_pos rfl
theorem xa {x y:Str}{m:Ds}:keyOf (phi x m) y=keyOf m y:=by
 by_cases h:y=x
 . subst h;show(match(phi y m).get y with|some (.int z)=>Sum.inl z|some (.str s)=>Sum.inr s|_=>Sum.inl 0)=_;rw[Fw]
   cases keyOf m y <;> rfl
 . unfold keyOf;rw[Fv h]
theorem Fx {x key by_:Str}{m:Ds}:rankOf key by_ (phi x m)=rankOf key by_ m:=by
 unfold rankOf;rw[xa,xa]
theorem ins_map {x key by_:Str}{m:Ds}:∀l:List Ds,ins key by_ (phi x m) (l.map (phi x))=(ins key by_ m l).map (phi x)
 |[]=>rfl
 |y::q=>by
  show(if iq (rankOf key by_ (phi x y)) (rankOf key by_ (phi x m))=true then phi x y::ins key by_ (phi x m) (q.map (phi x)) else phi x m::phi x y::q.map (phi x))=(if iq (rankOf key by_ y) (rankOf key by_ m)=true then y::ins key by_ m q else m::y::q).map (phi x);rw[Fx,Fx,ins_map q];split <;> rfl
theorem Fy {x key by_:Str}:∀l:List Ds,iL key by_ (l.map (phi x))=(iL key by_ l).map (phi x)
 |[]=>rfl
 |m::r=>by
  show ins key by_ (phi x m) (iL key by_ (r.map (phi x)))=(ins key by_ m (iL key by_ r)).map (phi x);rw[Fy r,ins_map]
theorem back_eq {x key by_:Str}{ms:List Ds}{ks:List Key}(I:GV x ms ks)(J:ms.Pairwise (mQ key by_))(nd:(ms.map λm=>keyOf m key).Nodup):iL key by_ (jw x ms ks)=ms.map (phi x):=by
 have p:=uA x I.nd (ms:=ms) λm L=>I.mem.mpr ⟨m,L,rfl⟩;rw[rK,Fy,<-vO p.symm J ((p.map _).nodup_iff.mpr nd)]
noncomputable def Fs.del:Fs->Str->Fs
 | .nil,_=>.nil
 | .cons y k r,x=>if y=x then r.del x else .cons y k (r.del x)
theorem Fs.nY {x y:Str}(h:y≠x):∀fs:Fs,(fs.del x).get y=fs.get y
 | .nil=>rfl
 | .cons z d r=>by
   unfold Fs.del;split
   . rename_i e;rw[Fs.nY h r];show _=if y=z then some d else r.get y
     rw[if_neg λq=>h (q.trans e)]
   . show(if y=z then some d else(r.del x).get y)=if y=z then some d else r.get y
     rw[Fs.nY h r]
theorem Fs.rL (x:Str):∀fs:Fs,(fs.del x).names.Sublist fs.names
 | .nil=>List.Sublist.refl _
 | .cons y k r=>by
   unfold Fs.del;split
   . exact(Fs.rL x r).cons _
   . exact(Fs.rL x r).cons_cons _
theorem Fs.xb (x:Str):∀{fs:Fs},fs.W->(fs.del x).W
 | .nil,h=>h
 | .cons y k r,h=>by
   unfold Fs.W at h;unfold Fs.del;split
   . exact Fs.xb x h.2.2
   . unfold Fs.W;exact⟨h.1,h.2.1,Fs.xb x h.2.2⟩
theorem gU.del (x:Str):∀{fs:Fs}{m:Ds},gU fs m->gU (fs.del x) (m.del x)
 | .nil,m,h=>by
   unfold gU at h;rw[h];unfold Fs.del Ds.del gU;rfl
 | .cons y k r,m,h=>by
   unfold gU at h;obtain⟨d,q,rfl,h1,h2⟩:=h;unfold Fs.del Ds.del;split
   . exact gU.del x h2
   . unfold gU;exact⟨d,_,rfl,h1,gU.del x h2⟩
theorem Fs.xc {fs:Fs}{x y:Str}(h:fs.pl y)(ne:y≠x):(fs.del x).pl y:=by
 obtain⟨k,h1,h2⟩:=h;exact⟨k,by rw[Fs.nY ne];exact h1,h2⟩
theorem xf (x:Str):∀zs:List Zd,gm (zs.filter λz=>decide (z.2.1≠x))=(gm zs).del x
 |[]=>rfl
 |z::r=>by
  rw[Q11];show _=if z.2.1=x then(gm r).del x else .cons z.2.1 z.2.2 ((gm r).del x)
  by_cases c:z.2.1=x
  . rw[if_neg (by simp[c]),if_pos c,xf x r]
  . rw[if_pos (by simp[c]),if_neg c];show Fs.cons _ _ (gm _)=_;rw[xf x r]
noncomputable def jb (by_ x:Str):Str:=if by_=x then "" else by_
theorem xg {key by_ x:Str}{fs:Fs}(h:(Kd.rows key by_ fs).W)(ne:key≠x):(Kd.rows key (jb by_ x) (fs.del x)).W:=by
 unfold Kd.W at h ⊢;obtain⟨h1,h2,I,J,L⟩:=h;refine⟨(Fs.rL x fs).nodup h1,Q0d (Fs.rL x fs).length_le h2,Fs.xb x I,Fs.xc J ne,?_⟩;unfold jb;split
 . exact .inl rfl
 . rename_i c;exact L.imp id λz=>Fs.xc z c
theorem m4 {x y:Str}{m:Ds}(h:y≠x):keyOf (m.del x) y=keyOf m y:=by
 unfold keyOf;rw[Ds.nY h]
theorem M3 {key by_ x:Str}{a b:Ds}(ne:key≠x)(J:keyOf a x=keyOf b x)(h:kr key by_ a b):kr key (jb by_ x) (a.del x) (b.del x):=by
 unfold kr rankOf at h ⊢;unfold jb;by_cases c:by_=x
 . rw[if_pos c,if_pos rfl,if_pos rfl,m4 ne,m4 ne];by_cases I:by_=""
   . rw[if_pos I,if_pos I] at h;exact h
   . rw[if_neg I,if_neg I,c,J,nE,if_pos rfl] at h;exact h
 . rw[if_neg c];by_cases I:by_=""
   . rw[if_pos I,if_pos I] at h ⊢;rw[m4 ne,m4 ne];exact h
   . rw[if_neg I,if_neg I] at h ⊢;rw[m4 ne,m4 ne,m4 c,m4 c];exact h
theorem xh {x:Str}{v:Key}{m:Ds}(h:jv x v m=true):keyOf m x=v:=of_decide_eq_true h
theorem M4 {key by_ x:Str}{fs:Fs}{ms:List Ds}{v:Key}(ne:key≠x)(hF:∀m∈ms,gU fs m)(I:ms.Pairwise (kr key by_))(kn:(ms.map λm=>keyOf m key).Nodup):ia (.rows key (jb by_ x) (fs.del x)) (.lst (ic (iC x ms v))):=by
 unfold ia;refine⟨iC x ms v,rfl,λm J=>?_,?_,?_⟩
 . obtain⟨L,h1,rfl⟩:=List.mem_map.mp J;exact(hF L (List.mem_filter.mp h1).1).del x
 . unfold iC;rw[Q12];refine List.Pairwise.imp_of_mem (λ{a b} U Y h=>M3 ne ?_ h) (I.filter _);rw[xh (List.mem_filter.mp U).2,xh (List.mem_filter.mp Y).2]
 . unfold iC;rw[Q0z];have e:(ms.filter (jv x v)).map ((λm=>keyOf m key) ∘ λm=>m.del x)=(ms.filter (jv x v)).map λm=>keyOf m key:=Q1i λm _=>m4 ne;rw[e];exact((Q25 (l:=ms)).map _).nodup kn
noncomputable def F2 (x:Str) (kx:Kd) (y:Str) (I:Kd):Fs:=if iq (iB x) (iB y)=true then .cons x kx (.cons y I .nil) else .cons y I (.cons x kx .nil)
theorem M5 {x y z:Str}{kx J k:Kd}(h:(F2 x kx y J).get z=some k):(z=x/\k=kx)\/(z=y/\k=J):=by
 unfold F2 at h;split at h
 . have h:(if z=x then some kx else if z=y then some J else none)=some k:=h;by_cases c:z=x
   . rw[if_pos c] at h;cases h;exact .inl ⟨c,rfl⟩
   . by_cases I:z=y
     . rw[if_neg c,if_pos I] at h;cases h;exact .inr ⟨I,rfl⟩
     . rw[if_neg c,if_neg I] at h;cases h
 . have h:(if z=y then some J else if z=x then some kx else none)=some k:=h;by_cases c:z=y
   . rw[if_pos c] at h;cases h;exact .inr ⟨c,rfl⟩
   . by_cases I:z=x
     . rw[if_neg c,if_pos I] at h;cases h;exact .inl ⟨I,rfl⟩
     . rw[if_neg c,if_neg I] at h;cases h
theorem M6 {x y:Str}{kx I:Kd}(ne:x≠y):(F2 x kx y I).get x=some kx:=by
 unfold F2;split
 . show(if x=x then some kx else _)=_;rw[if_pos rfl]
 . show(if x=y then some I else if x=x then some kx else none)=_;rw[if_neg ne,if_pos rfl]
theorem Fz {x y:Str}{kx I:Kd}:(F2 x kx y I).names.length=2:=by
 unfold F2;split <;> rfl
theorem FC {x y:Str}{kx I:Kd}(ne:x≠y)(J:x≠"")(L:y≠"")(h1:kx.W)(h2:I.W)(hp:jQ kx):(Kd.rows x "" (F2 x kx y I)).W:=by
 unfold Kd.W
 have h:(F2 x kx y I).names.Nodup/\(F2 x kx y I).W:=by
  unfold F2;split
  . refine⟨by show [x,y].Nodup;simp[ne],?_⟩;unfold Fs.W;unfold Fs.W;unfold Fs.W;exact⟨h1,J,h2,L,trivial⟩
  . refine⟨by show [y,x].Nodup;simp[Ne.symm ne],?_⟩;unfold Fs.W;unfold Fs.W;unfold Fs.W;exact⟨h2,L,h1,J,trivial⟩
 exact⟨h.1,by rw[Fz];decide,h.2,⟨kx,M6 ne,hp⟩,.inl rfl⟩
theorem xi {x y:Str}{ms:List Ds}{v:Key}:keyOf (j_ x y ms v) x=v:=by
 unfold keyOf j_;show(match(if x=x then some (kD v) else _) with|some (.int z)=>Sum.inl z|some (.str s)=>Sum.inr s|_=>Sum.inl 0)=v;rw[if_pos rfl]
 cases v <;> rfl
theorem xj {key by_ x y:Str}{fs:Fs}{kx:Kd}{ms:List Ds}{ks:List Key}(ne:key≠x)(L:x≠y)(I:fs.get x=some kx)(U:jQ kx)(J:GV x ms ks)(hF:∀m∈ms,gU fs m)(hs:ms.Pairwise (kr key by_))(kn:(ms.map λm=>keyOf m key).Nodup):
 mW (.rows x "" (F2 x kx y (.rows key (jb by_ x) (fs.del x)))) (.lst (ic (iT x y ms ks))):=by
 refine⟨iT x y ms ks,rfl,λm hm=>?_,?_,?_⟩
 . obtain⟨v,hv,rfl⟩:=List.mem_map.mp hm;refine⟨by rw[Fz];rfl,λz k h=>?_⟩;rcases M5 h with⟨rfl,rfl⟩|⟨rfl,rfl⟩
   . obtain⟨m',Y,e⟩:=J.mem.mp hv;have hk:=jo.of (hF m' Y) ⟨_,I,U⟩;rw[e,I] at hk;obtain⟨k',e',_,hf⟩:=hk.fit
     cases e';exact⟨kD v,by show(if z=z then some (kD v) else _)=_;rw[if_pos rfl],hf⟩
   . refine⟨_,?_,M4 (v:=v) ne hF hs kn⟩;show(if z=x then some (kD v) else if z=z then some (.lst (ic (iC x ms v))) else none)=_;rw[if_neg (Ne.symm L),if_pos rfl]
 . unfold iT;rw[Q12];refine J.lt.imp λ{a b} h=>?_;unfold kr rankOf;rw[if_pos rfl,if_pos rfl,xi,xi];exact h
 . unfold iT;rw[Q0z]
   have e:ks.map ((λm=>keyOf m x) ∘ j_ x y ms)=ks:=by
    conv=>rhs;rw[<-List.map_id ks]
    exact Q1i λv _=>xi
   rw[e];exact J.nd
theorem FD {fs:Fs}{x:Str}{m:Ds}(hn:fs.names.Nodup)(hF:gU fs m)(U:fs.pl x):ur fs (phi x m) m:=by
 refine⟨?_,λz k h=>?_⟩
 . obtain⟨k,hk,_⟩:=U;have J:x∈m.names:=by rw[hF.names];exact Fs.p9 hk
   have L:m.names.Nodup:=by rw[hF.names];exact hn
   have del:∀m:Ds,m.names.Nodup->x∈m.names->(m.del x).names.length+1=m.names.length:=λm=>by
    have no:∀r:Ds,x ∉ r.names->r.del x=r:=λr=>by
     induction r using Ds.rec (motive_1:=λ_=>True) with
     |nil=>exact λ_=>rfl
     |cons y d r _ I=>
      intro h;unfold Ds.del;rw[if_neg λe=>h (by rw[e];exact Q02),I λz=>h (Q07 _ z)]
     |_=>trivial
    induction m using Ds.rec (motive_1:=λ_=>True) with
    |nil=>exact λ_ h=>nomatch h
    |cons y d r _ I=>
     intro nd h;have nd:(y::r.names).Nodup:=nd;obtain⟨n1,n2⟩:=List.nodup_cons.mp nd;unfold Ds.del;by_cases c:y=x
     . rw[if_pos c,no r (by rw[<-c];exact n1)];rfl
     . rw[if_neg c];have:=I n2 ((List.mem_cons.mp h).resolve_left λz=>c z.symm);show(y::(r.del x).names).length+1=(y::r.names).length;rw[Q0k,Q0k];omega
    |_=>trivial
   unfold phi;rw[Ds.wB,Q09,<-hF.names];exact del m L J
 . obtain⟨e,h1,h2⟩:=hF.get h;by_cases c:z=x
   . subst c;refine⟨e,?_,h1,h2⟩;rw[Fw];rcases(hF.plain U).2 with⟨q,Y,e2,_⟩|⟨q,Y,e2,_⟩ <;> rw[e2,<-h1,Y] <;> rfl
   . exact⟨e,by rw[Fv c];exact h1,h1,h2⟩
noncomputable def jN (x:Str) (zs:List Zd):List Zd:=zs.filter λz=>decide (z.2.1≠x)
def FE:Sp:=λvs H Q _=>∃t l x zs,vs=[.ref t,.ref l]/\H t=some (.tup (gG zs))/\ZL H zs/\zs.length<=13/\H l=some (.lst [.str x])/\∀p H',Same H H'->H p=none->H' p=some (.lst (gG (jN x zs)))->Q (.ref p) H'
def FF (Pf:Addr):Sp:=λvs H Q _=>∃key by_ l zs,vs=[.str key,.str by_,.ref l]/\H l=some (.lst (gG zs))/\ZL H zs/\zs.length<=13/\gy Pf jT jU H/\(gT zs).Nodup/\(gm zs).pl key/\(by_=""\/(gm zs).pl by_)/\by_≠key/\
 ∀I t r H',lA Pf H H'->gy Pf jT jU H'->I.Perm zs->(gT I).Pairwise sle->ZL H' I->H' t=some (.tup (gG I))->H' r=some (.tup [.str "rows",.str key,.str by_,.ref t])->Q (.ref r) H'
theorem rM:∀{zs:List Zd},(gT zs).Nodup->∀{z:Zd},z∈zs->(gm zs).get z.2.1=some z.2.2
 |[],_,z,h=>nomatch h
 |y::r,nd,z,h=>by
  show(if z.2.1=y.2.1 then some y.2.2 else(gm r).get z.2.1)=_;have nd:(y.2.1::gT r).Nodup:=nd;obtain⟨I,J⟩:=List.nodup_cons.mp nd;rcases List.mem_cons.mp h with e|e
  . rw[e,if_pos rfl]
  . rw[if_neg λq=>I (by rw[<-q];exact Q0y (f:=λz:Zd=>z.2.1) e),rM J e]
theorem xl:∀{zs:List Zd}{x:Str}{k:Kd},(gm zs).get x=some k->∃z∈zs,z.2=(x,k)
 |[],_,_,h=>nomatch h
 |y::r,x,k,h=>by
  have h:(if x=y.2.1 then some y.2.2 else(gm r).get x)=some k:=h;by_cases e:x=y.2.1
  . rw[if_pos e] at h
    cases h;exact⟨y,Q02,by rw[e]⟩
  . rw[if_neg e] at h;obtain⟨z,h1,h2⟩:=xl h;exact⟨z,Q07 _ h1,h2⟩
theorem M7 {zs I:List Zd}(p:I.Perm zs)(nd:(gT zs).Nodup){x:Str}{k:Kd}(h:(gm zs).get x=some k):(gm I).get x=some k:=by
 obtain⟨⟨v,y,q⟩,J,e⟩:=xl h
 cases e;exact rM (z:=(v,x,k)) ((p.map _).nodup_iff.mpr nd) (p.mem_iff.mpr J)
theorem xm {k:Kd}(h:jQ k):jC k=true:=by
 cases k <;> first|rfl|exact h.elim
theorem M8:gQ Xf Xf (gp (top 25)):=g_
theorem M9 (T:Tb mg)(I:Dn K mg "fields_but" tN (top 25) J L):gc P w K mg base gf (1) J L tN (FE):=by
 refine I.F.ok M8 λvs H Q E h=>?_;obtain⟨t,l,x,zs,rfl,ht,hZ,aa,hl,q⟩:=h;refine⟨rfl,λab A outer s nd hr hu=>?_⟩;refine⟨_,(gi (gw (kT (g:=(iH 0)) (tt:=(jI (ie (sM K true) (ie (i9 K) (gJ 0) (tC (.int 0))) (gJ 2)))) (te:=(gJ 0)) (own:=["pair"]) rfl (jE (N:=Xf) (sc:=gp (top 25))) (lb (pv 0)) (λ_ _ _ _ _=>(gY (i:=0) (show(["pair","fields","names"]:List Str).Nodup by decide +kernel) rfl (Or.inl rfl) (.inr rfl))) (λ_ _ _ _ _=>(lY (gE qO (gq (pv 0) c_) (pv 2) (by with_unfolding_all rfl)))) (λ_ _ _ _ _=>(pv 0))))),?_⟩
 ac_rfl
 refine⟨_,rfl,t,rfl,⟨_,f9.of ht⟩,mY (o5 (f9.of ht)) (λi=>gG (jN x (zs.take i))) (by rw[jM];omega) (λp hp=>?_) (λi v hv add skip=>?_)⟩
 . rw[jM,Q0p];exact q p _ (Same.new hp) hp gh
 . obtain⟨z,Y,rfl⟩:=Option.map_eq_some_iff.mp ((Q0h (f:=λz:Zd=>z.1)).symm.trans hv);obtain⟨cz,u,ec,hc,hk⟩:=hZ z (Q0j Y);rw[ec];refine⟨rfl,_,rfl,cz,_,_,_,rfl,rfl,f9.of hc,rfl,_,rfl,l,_,rfl,.inl (f_.of hl),rfl,wY (ss:=[x]),_,rfl,?_⟩;show if(!inV (V.str z.2.1) ([x].map V.str))=true then _ else _
   rw[Fc];refine h_ (λU=>⟨_,rfl,add _ ?_⟩) (λU=>skip ?_)
   . have U:decide (z.2.1≠x)=true:=by
      refine decide_eq_true λe=>?_;rw[e,decide_eq_true (List.mem_singleton.mpr rfl)] at U
      cases U
     unfold jN gG;rw[nV Y U,ec]
   . have U:¬decide (z.2.1≠x)=true:=λe=>U (by
      rw[decide_eq_false λy=>of_decide_eq_true e (List.mem_singleton.mp y)];rfl)
     unfold jN gG;rw[nW Y U]
theorem M_:gQ ["key","by","pairs","fields"] ["key","by","pairs"] (gp (top 9)):=g_
theorem Na {Pf:Addr}(T:Tb mg)(ag:Dn K mg "rows_of" tO (top 9) ah ai)(I:Dn K mg "sorted_fields" ["pairs"] (top 8) J L)(U:gc P w K mg base gf (8) J L ["pairs"] (E5 K Pf))(Y:Dn K mg "is_plain" ["kind"] (top 6) ae af)(aa:gc P w K mg base gf (1) ae af ["kind"] (wU))(ab:Dn K mg "kind_at" mU (top 7) aj ak)(ac:gc P w K mg base gf (1) aj ak mU (um)):gc P w K mg base gf (9) ah ai tO (FF Pf):=by
 refine ag.F.ok M_ λvs H Q E h=>?_;obtain⟨key,by_,l,zs,rfl,hl,hZ,av,hT,am,au,aw,ax,q⟩:=h;refine⟨rfl,λaC A outer s nd hr hu=>?_⟩
 refine⟨_,(e_ (gA 3 nd (gv U hr I (a_ (pv 2) b_)))
  (e_ (gF (jq (jf (gv aa hr Y (a_ (gv ac hr ab (a_ (pv 3) (a_ (pv 0) b_))) b_)))) (gi me) gH)
  (e_ (gF (PW.pt (m_ (gE j1 (pv 1) gW (gC _)) (oq (jq (jf (gv aa hr Y (a_ (gv ac hr ab (a_ (pv 3) (a_ (pv 1) b_))) b_))))))) (gi me) gH)
  (e_ (gF (gE iu (pv 1) (pv 0) (gC _)) (gi me) gH)
  (gi (gw (iP (a_ gW (a_ (pv 0) (a_ (pv 1) (a_ (pv 3) b_))))))))))),?_⟩
 ac_rfl
 obtain⟨ps,hP⟩:=hT.tab;refine⟨_,rfl,l,zs,rfl,f_.of hl,hZ,av,hT,am,λrs t H1 ap ay al az ht=>?_⟩;have an:ZL H1 rs:=λz hz=>(hZ.mono λc xs h=>ap c _ (gR h hP (by intro z;cases z)) h) z (al.mem_iff.mp hz);have aA:(gT rs).Nodup:=(al.map _).nodup_iff.mpr am;have aq:(gm rs).names.Nodup:=by rw[kJ];exact aA
 have pl:∀{x:Str},(gm zs).pl x->∃k,(gm rs).get x=some k/\jC k=true:=λh=>by
  obtain⟨k,h1,h2⟩:=h;exact⟨k,M7 al am h1,xm h2⟩
 obtain⟨k1,g1,b1⟩:=pl au;refine⟨_,rfl,_,rfl,t,key,_,gm rs,k1,rfl,ht,kZ an,aq,g1,λu ao _=>⟨u,k1,rfl,ao,λH2 s2=>?_⟩⟩;rw[b1];refine⟨true,rfl,h9 ?_⟩;dsimp only[BN];refine qd (A:=lP _ _ _) (λar H'=>ar=[some (.str key),some (.str by_),some (.ref l),some (.ref t)]/\Same H1 H') ?_ (λhB=>?_)
 . rintro ar H3 ⟨rfl,s3⟩;refine⟨_,rfl,_,rfl,rfl,_,rfl,?_⟩;rw[decide_eq_false (λz=>ax (by injection z))];refine h9 ⟨_,rfl,_,rfl,_,rfl,oV,λr aB=>?_⟩;have s4:=s3.trans (Same.new (o:=.tup [.str "rows",.str key,.str by_,.ref t]) aB);exact q rs t r _ (ap.trans (Kp.of s4)) (ay.same s4) al az (an.mono (Tu.of s4)) (s4 _ _ ht) gh
 . refine⟨_,rfl,rfl,_,rfl,h_ (λc=>?_) (λc=>h9 (hB _ _ ⟨rfl,s2⟩))⟩
   have hb:by_≠"":=λz=>by
    rw[z] at c;exact absurd c (by decide +kernel)
   obtain⟨k2,g2,b2⟩:=pl (aw.resolve_left hb);refine⟨_,rfl,_,rfl,t,by_,_,gm rs,k2,rfl,s2 _ _ ht,kZ (an.mono (Tu.of s2)),aq,g2,λu ao _=>⟨u,k2,rfl,ao,λH3 s3=>?_⟩⟩;rw[b2];exact⟨true,rfl,h9 (hB _ _ ⟨rfl,s2.trans s3⟩)⟩
structure o8 (K:W.Frag) (mg:Str->Option Value) (C fI fB fS fP fG fK:Addr):Prop where
 ct:Cls K C
 nf:nt K C "field"
 ni:nt K C "into"
 Nb:Mk K C fI
 m:mg "Group"=some (.ref C)
 b:Meth K C "behind" fB
 s:Meth K C "see" fS
 p:Meth K C "put" fP
 g:Meth K C "grade" fG
 k:Meth K C "keeps" fK
abbrev nZ (H:Hp) (C v dx:Addr) (x y:Str):Prop:=H v=some (.ins C dx [("field",.str x),("into",.str y)])
structure lD (H:Hp) (pk pb:Addr) (key by_ x y:Str) (kx:Kd) (zs:List Zd):Prop where
 at_:qg H pk pb key by_
 tu:H pb=some (.tup (gG zs))
 z:ZL H zs
 W:(Kd.rows key by_ (gm zs)).W
 l8:(gT zs).Pairwise sle
 gx:(gm zs).get x=some kx
 px:jQ kx
 ne:key≠x
 nk:by_≠key
 xy:x≠y
 y0:y≠""
theorem lD.mono {H H':Hp}{pk pb:Addr}{key by_ x y:Str}{kx:Kd}{zs:List Zd}(h:lD H pk pb key by_ x y kx zs)(t:Tu H H'):lD H' pk pb key by_ x y kx zs:=⟨t _ _ h.at_,t _ _ h.tu,h.z.mono t,h.W,h.l8,h.gx,h.px,h.ne,h.nk,h.xy,h.y0⟩
theorem lD.ka {H:Hp}{pk pb:Addr}{key by_ x y:Str}{kx:Kd}{zs:List Zd}(h:lD H pk pb key by_ x y kx zs):KA H (.ref pk) (.rows key by_ (gm zs)):=by
 unfold KA;exact⟨pk,pb,_,rfl,h.at_,h.tu,kZ h.z⟩
theorem lD.w5 {H:Hp}{pk pb:Addr}{key by_ x y:Str}{kx:Kd}{zs:List Zd}(h:lD H pk pb key by_ x y kx zs):(gm zs).names.Nodup/\(gm zs).names.length<=12/\(gm zs).W/\(gm zs).pl key/\(by_=""\/(gm zs).pl by_):=by
 have:=h.W;unfold Kd.W at this;exact this
noncomputable abbrev xn (key by_ x y:Str) (kx:Kd) (fs:Fs):Kd:=.rows x "" (F2 x kx y (.rows key (jb by_ x) (fs.del x)))
def lE (H:Hp) (q:Addr) (key by_ x y:Str) (kx:Kd) (zs:List Zd):Prop:=∃t c0 I ta J it:Addr,H q=some (.tup [.str "rows",.str x,.str "",.ref t])/\H t=some (.tup (if iq (iB x) (iB y)=true then [.ref c0,.ref I] else [.ref I,.ref c0]))/\H c0=some (.tup [.str x,.ref ta])/\H ta=some (.tup [.str kx.nm])/\H I=some (.tup [.str y,.ref J])/\H J=some (.tup [.str "rows",.str key,.str (jb by_ x),.ref it])/\H it=some (.tup (gG (jN x zs)))
theorem lE.mono {H H':Hp}(tu:Tu H H'){q:Addr}{key by_ x y:Str}{kx:Kd}{zs:List Zd}(h:lE H q key by_ x y kx zs):lE H' q key by_ x y kx zs:=by
 obtain⟨t,c0,I,ta,J,it,h1,h2,L,U,Y,h6,h7⟩:=h;exact⟨t,c0,I,ta,J,it,tu _ _ h1,tu _ _ h2,tu _ _ L,tu _ _ U,tu _ _ Y,tu _ _ h6,tu _ _ h7⟩
theorem plain_at {H:Hp}{u:V}{k:Kd}(hp:jQ k)(h:KA H u k):∃ta,u=.ref ta/\H ta=some (.tup [.str k.nm]):=by
 cases k <;> first|exact hp.elim|(unfold KA at h;exact h)
theorem FG {H:Hp}{ta:Addr}{k:Kd}(hp:jQ k)(h:H ta=some (.tup [.str k.nm])):KA H (.ref ta) k:=by
 cases k <;> first|exact hp.elim|(unfold KA;exact⟨ta,rfl,h⟩)
theorem rN {H:Hp}{x:Str}{zs:List Zd}(h:ZL H zs):ZL H (jN x zs):=λz I=>h z (List.mem_filter.mp I).1
theorem rO (x:Str)(zs:List Zd):gm (jN x zs)=(gm zs).del x:=xf x zs
theorem lE.ka {H:Hp}{q:Addr}{key by_ x y:Str}{kx:Kd}{zs:List Zd}(h:lE H q key by_ x y kx zs)(hp:jQ kx)(hz:ZL H zs):KA H (.ref q) (xn key by_ x y kx (gm zs)):=by
 obtain⟨t,c0,I,ta,J,it,h1,h2,L,h4,U,h6,h7⟩:=h
 have hi:KA H (.ref J) (.rows key (jb by_ x) ((gm zs).del x)):=by
  unfold KA;refine⟨J,it,_,rfl,h6,h7,?_⟩;rw[<-rO];exact kZ (rN hz)
 have Y:=FG hp h4;unfold KA;refine⟨q,t,_,rfl,h1,h2,?_⟩;unfold F2;split
 . unfold FA;refine⟨c0,_,_,rfl,L,Y,?_⟩;unfold FA;refine⟨I,_,_,rfl,U,hi,?_⟩;unfold FA;rfl
 . unfold FA;refine⟨I,_,_,rfl,U,hi,?_⟩;unfold FA;refine⟨c0,_,_,rfl,L,Y,?_⟩;unfold FA;rfl
theorem qj {K:W.Frag}{H:Hp}{n:Nat}{a b:Addr}{xs ys:List V}(I:H a=some (.tup xs))(J:H b=some (.tup ys))(hl:xs.length=ys.length)(L:∀(j:Nat) (x y:V),xs[j]? =some x->ys[j]? =some y->iW K H n x y true):iW K H (n+1) (.ref a) (.ref b) true:=by
 by_cases e:a=b
 . subst e;exact .ref a
 . have:=iW.tup (e:=λ_=>true) e (f9.of (K:=K) I) (f9.of (K:=K) J) L
   have U:((List.range (min xs.length ys.length)).all (λ_=>true) && xs.length == ys.length)=true:=by
    rw[hl];simp
   rw[U] at this;exact this
theorem qm {K:W.Frag}{H:Hp}{n:Nat}(x:Str):iW K H n (.str x) (.str x) true:=by
 have:=iW.str (K:=K) (H:=H) (n:=n) x x;rw[decide_eq_true rfl] at this;exact this
theorem all2 {K:W.Frag}{H:Hp}{n:Nat}{x y L U:V}(h1:iW K H n x L true)(h2:iW K H n y U true):∀(j:Nat) (a b:V),[x,y][j]? =some a->[L,U][j]? =some b->iW K H n a b true
 |0,_,_,I,J=>by cases I;cases J;exact h1
 |1,_,_,I,J=>by cases I;cases J;exact h2
 |_+2,_,_,I,_=>by cases I
theorem FH {K:W.Frag}{H:Hp}{n:Nat}{r k b:Str}{y L:V}(h2:iW K H n y L true):∀(j:Nat) (a c:V),[V.str r,.str k,.str b,y][j]? =some a->[V.str r,.str k,.str b,L][j]? =some c->iW K H n a c true
 |0,_,_,I,J=>by cases I;cases J;exact qm _
 |1,_,_,I,J=>by cases I;cases J;exact qm _
 |2,_,_,I,J=>by cases I;cases J;exact qm _
 |3,_,_,I,J=>by cases I;cases J;exact h2
 |_+4,_,_,I,_=>by cases I
theorem lE.ne {K:W.Frag}{H:Hp}{q L:Addr}{key by_ x y:Str}{kx:Kd}{zs:List Zd}{Q:VK}(h:lE H q key by_ x y kx zs)(h':lE H L key by_ x y kx zs)(hz:ZL H zs)(hq:Q (.bl false) H):Dh K 5 (.ref q) (.ref L) H Q:=by
 obtain⟨t,c0,c1,ta,ik,it,h1,h2,h3,h4,h5,h6,h7⟩:=h;obtain⟨t',U,Y,aa,ab,ac,k1,k2,k3,k4,k5,k6,k7⟩:=h'
 have dt:iW K H 3 (.ref ta) (.ref aa) true:=qj h4 k4 rfl λj x y I J=>by
  match j,I,J with
  |0,I,J=>cases I;cases J;exact qm _
 have d0:iW K H 4 (.ref c0) (.ref U) true:=qj h3 k3 rfl (all2 (qm _) dt)
 have di:iW K H 2 (.ref it) (.ref ac) true:=qj h7 k7 rfl λj x y I J=>by
  rw[I] at J
  cases J;obtain⟨z,ae,rfl⟩:=Option.map_eq_some_iff.mp ((Q0h (f:=λz:Zd=>z.1)).symm.trans I);obtain⟨c,u,ec,_⟩:=rN hz z (Q0j ae);rw[ec];exact .ref c
 have dk:iW K H 3 (.ref ik) (.ref ab) true:=qj h6 k6 rfl (FH di);have d1:iW K H 4 (.ref c1) (.ref Y) true:=qj h5 k5 rfl (all2 (qm _) dk)
 have df:iW K H 5 (.ref t) (.ref t') true:=by
  refine qj h2 k2 (by split <;> rfl) ?_;by_cases c:iq (iB x) (iB y)=true
  . rw[if_pos c,if_pos c];exact all2 d0 d1
  . rw[if_neg c,if_neg c];exact all2 d1 d0
 exact⟨q,L,_,_,λ_=>true,rfl,rfl,FH df,.inr ⟨f9.of h1,f9.of k1,hq⟩⟩
theorem xo {zs I:List Zd}(hp:I.Perm zs)(J:(gT I).Pairwise sle)(L:(gT zs).Pairwise sle)(nd:(gT zs).Nodup):I=zs:=by
 have st:∀{l:List Zd},(gT l).Pairwise sle->(gT l).Nodup->l.Pairwise λa b=>slt a.2.1 b.2.1:=λ{l} h n=>by
  have h1:=List.pairwise_map.mp h;have h2:l.Pairwise λa b=>a.2.1≠b.2.1:=List.pairwise_map.mp n;refine(h1.and h2).imp λ{a b} ⟨x,y⟩=>?_;rcases vW x with z|z
  . exact z
  . exact absurd z y
 exact DO (R:=λa b:Zd=>slt a.2.1 b.2.1) (λa b=>DM _ _) hp (st J ((hp.map _).nodup_iff.mpr nd)) (st L nd)
theorem FI {a b:V}{x y:Str}{kx L:Kd}{I:List Zd}(ne:x≠y)(hp:I.Perm [(a,x,kx),(b,y,L)])(U:(gT I).Pairwise sle):gG I=if iq (iB x) (iB y)=true then [a,b] else [b,a]:=by
 have nd:(gT [(a,x,kx),(b,y,L)]).Nodup:=List.nodup_cons.mpr ⟨λz=>ne (List.mem_singleton.mp z),List.nodup_cons.mpr ⟨λz=>(nomatch z),Q0o⟩⟩;by_cases c:iq (iB x) (iB y)=true
 . rw[if_pos c,xo hp U (List.pairwise_cons.mpr ⟨λz J=>by rw[List.mem_singleton.mp J];exact DN c,Q1r _ _⟩) nd];rfl
 . rw[if_neg c,xo (hp.trans (List.Perm.swap _ _ _)) U (List.pairwise_cons.mpr ⟨λz J=>by
    rw[List.mem_singleton.mp J];show iq (iB x) (iB y)=false;simpa using c,Q1r _ _⟩) (List.nodup_cons.mpr ⟨λz=>ne (List.mem_singleton.mp z).symm,List.nodup_cons.mpr ⟨λz=>(nomatch z),Q0o⟩⟩)]
   rfl
def FJ (C:Addr):Sp:=λvs H Q _=>∃v dx x y,vs=[.ref v,.str x,.str y]/\H v=some (.ins C dx [])/\∀H',(∀c o,c≠v->H c=some o->H' c=some o)->nZ H' C v dx x y->Q .non H'
def FK:Sp:=λvs H Q _=>∃v z,vs=[v,z]/\Q (.bl false) H
def FL:Sp:=λvs H Q _=>∃v,vs=[v]/\Q (.str "full") H
def xp (Pf C:Addr):Sp:=λvs H Q _=>∃v dx pk pb key by_ x y kx zs,vs=[.ref v,.ref pk]/\nZ H C v dx x y/\lD H pk pb key by_ x y kx zs/\gy Pf jT jU H/\∀q H',lA Pf H H'->gy Pf jT jU H'->lE H' q key by_ x y kx zs->Q (.ref q) H'
section
variable {P:Program}{w:World}{K:W.Frag}{mg:Str->Option Value}{base:Heap}
variable {C Pf:Addr}
theorem Nc:gQ ["self"] ["self"] (gp (h8 23 3)):=g_
theorem Nd (T:Tb mg)(I:Dm K "grade" "View.grade" ["self"] (h8 23 3) J L):gc P w K mg base gf (1) J L ["self"] (FL):=by
 refine I.F.ok Nc λvs H Q E h=>?_;obtain⟨v,rfl,q⟩:=h;refine⟨rfl,λU A outer s nd Y hu=>?_⟩;refine⟨_,(gi (gw gW)),?_⟩
 ac_rfl
 exact q
theorem Nf:gQ Xi Xi (gp (h8 30 0)):=g_
theorem Ng (T:Tb mg)(OF:o8 K mg C I U ab ac aa Y)(J:Dm K "__init__" "Group.__init__" tQ (h8 30 0) I L):gc P w K mg base gf (1) I L tQ (FJ C):=by
 refine J.F.ok Nf λvs H Q E h=>?_;obtain⟨v,dx,x,y,rfl,hv,q⟩:=h;refine⟨rfl,λae A outer s nd hr hu=>?_⟩
 refine⟨_,(e_ (B6 (pv 0) (pv 1) rfl)
  (gi (B6 (pv 0) (pv 2) rfl))),?_⟩
 ac_rfl
 refine⟨_,rfl,_,rfl,v,C,dx,[],rfl,hv,OF.ct,OF.nf,by decide,?_⟩;refine⟨_,rfl,_,rfl,v,C,dx,_,rfl,gh,OF.ct,OF.ni,(by show 1<1000;decide),?_⟩;exact q _ (λc o hc e=>by rw[d_ hc,d_ hc];exact e) gh
theorem Nh:gQ Xp Xp (gp (h8 30 4)):=g_
theorem Ni (T:Tb mg)(I:Dm K "keeps" "Group.keeps" tR (h8 30 4) J L):gc P w K mg base gf (1) J L tR (FK):=by
 refine I.F.ok Nh λvs H Q E h=>?_;obtain⟨v,z,rfl,q⟩:=h;refine⟨rfl,λU A outer s nd Y hu=>?_⟩;refine⟨_,(gi (gw jz)),?_⟩
 ac_rfl
 exact q
end
theorem qo:∀{fs:Fs}{x:Str}{k:Kd},fs.W->fs.get x=some k->x≠""
 | .nil,_,_,_,e=>by cases e
 | .cons y q r,x,k,w,e=>by
   unfold Fs.W at w;have e:(if x=y then some q else r.get x)=some k:=e;by_cases c:x=y
   . rw[c];exact w.2.1
   . rw[if_neg c] at e;exact qo w.2.2 e
section
variable {P:Program}{w:World}{K:W.Frag}{mg:Str->Option Value}{base:Heap}
variable {C Pf:Addr}
theorem Nj:gQ ["self","kind","there","by","inner"] ["self","kind"] (gp (h8 30 1)):=g_
theorem Nk (T:Tb mg)(OF:o8 K mg C av I aC aD aB ay)(U:Dm K "behind" "Group.behind" p0 (h8 30 1) I Y)(J:Dn K mg "ask_stands" ["stands"] (top 22) ac ae)(L:gc P w K mg base gf (1) ac ae ["stands"] (E3))(an:Dn K mg "kind_at" mU (top 7) ao ap)(aq:gc P w K mg base gf (1) ao ap mU (um))(aj:Dn K mg "is_plain" ["kind"] (top 6) ak al)(am:gc P w K mg base gf (1) ak al ["kind"] (wU))(aa:Dn K mg "rows_of" tO (top 9) ar au)(ab:gc P w K mg base gf (9) ar au tO (FF Pf))(af:Dn K mg "fields_but" tN (top 25) ag ah)(ai:gc P w K mg base gf (1) ag ah tN (FE)):gc P w K mg base gf (10) I Y p0 (xp Pf C):=by
 refine U.F.ok Nj λvs H Q E h=>?_;obtain⟨v,dx,pk,pb,key,by_,x,y,kx,zs,rfl,hV,hK,hT,q⟩:=h;refine⟨rfl,λbw A outer s nd hr hu=>?_⟩
 refine⟨_,(e_ (kh (gv L hr J (a_ (ng (mH iu (gq (pv 1) c_) gW (gC _)) (ng (mH j1 (jJ (pv 0) rfl) (gq (pv 1) c_) (gC _)) (ot (mH j1 (jJ (pv 0) rfl) (jJ (pv 0) rfl) (gC _))))) b_)))
  (e_ (gA 2 nd (gv aq hr an (a_ (gq (pv 1) c_) (a_ (jJ (pv 0) rfl) b_))))
  (e_ (kh (gv L hr J (a_ (gv am hr aj (a_ (pv 2) b_)) b_)))
  (e_ (gA 3 nd (uR (gE iu (gq (pv 1) c_) (jJ (pv 0) rfl) (gC _)) gW (gq (pv 1) c_)))
  (e_ (gA 4 nd (gv ab hr aa (a_ (gq (pv 1) c_) (a_ (pv 3) (a_ (gv ai hr af (a_ (gq (pv 1) c_) (a_ (iV (a_ (jJ (pv 0) rfl) b_)) b_))) b_)))))
  (gi (gw (gv ab hr aa (a_ (jJ (pv 0) rfl) (a_ gW (a_ (iV (a_ (iP (a_ (jJ (pv 0) rfl) (a_ (pv 2) b_))) (a_ (iP (a_ (jJ (pv 0) rfl) (a_ (pv 4) b_))) b_))) b_))))))))))),?_⟩
 ac_rfl
 obtain⟨aP,a8,aQ,a5,bx⟩:=hK.w5;have a9:(gT zs).Nodup:=by rw[<-kJ];exact aP
 have ba:zs.length<=12:=by rw[<-mz,<-kJ];exact a8
 refine⟨_,rfl,pk,_,_,_,rfl,rfl,f9.of hK.at_,rfl,rfl,_,rfl,i_ ?_⟩;refine⟨_,rfl,v,C,dx,_,_,rfl,hV,OF.ct,OF.nf,rfl,_,rfl,pk,_,_,_,rfl,rfl,f9.of hK.at_,rfl,rfl,?_⟩;have e1:(!decide (V.str x=V.str key))=true:=by rw[decide_eq_false (λz=>hK.ne (V.str.inj z).symm)];rfl
 rw[e1];refine⟨_,rfl,i_ ?_⟩;refine⟨_,rfl,v,C,dx,_,_,rfl,hV,OF.ct,OF.nf,rfl,_,rfl,v,C,dx,_,_,rfl,hV,OF.ct,OF.ni,rfl,rfl,?_⟩;have e2:(!decide (V.str x=V.str y))=true:=by rw[decide_eq_false (λz=>hK.xy (V.str.inj z))];rfl
 rw[e2];refine⟨rfl,?_⟩;refine⟨_,rfl,pk,_,_,_,rfl,rfl,f9.of hK.at_,rfl,_,rfl,v,C,dx,_,_,rfl,hV,OF.ct,OF.nf,rfl,pb,x,_,gm zs,kx,rfl,hK.tu,kZ hK.z,aP,hK.gx,λu aT bz=>?_⟩;refine⟨_,rfl,u,kx,rfl,aT,λH1 s1=>?_⟩;rw[xm hK.px];refine⟨rfl,?_⟩;have aK:=s1 _ _ hV;have aw:=hK.mono (Tu.of s1);dsimp only;refine qd (A:=oy (BL _ _ _) _) (λaU H'=>aU=[some (.ref v),some (.ref pk),some u,some (.str (jb by_ x)),none]/\H'=H1) ?_ (λhB=>?_);rotate_left
 . refine⟨_,rfl,pk,_,_,_,rfl,rfl,f9.of aw.at_,rfl,_,rfl,v,C,dx,_,_,rfl,aK,OF.ct,OF.nf,rfl,rfl,_,rfl,h_ (λc=>?_) (λc=>?_)⟩
   . have c:by_=x:=by
      have:=of_decide_eq_true c;injection this
     refine hB _ _ ⟨?_,rfl⟩;unfold jb;rw[if_pos c];rfl
   . have c:¬by_=x:=λz=>c (decide_eq_true (by rw[z]));refine⟨_,rfl,pk,_,_,_,rfl,rfl,f9.of aw.at_,rfl,hB _ _ ⟨?_,rfl⟩⟩;unfold jb;rw[if_neg c];rfl
 rintro aU H2 ⟨rfl,rfl⟩;refine⟨_,rfl,pk,_,_,_,rfl,rfl,f9.of aw.at_,rfl,_,rfl,_,rfl,pk,_,_,_,rfl,rfl,f9.of aw.at_,rfl,_,rfl,v,C,dx,_,_,rfl,aK,OF.ct,OF.nf,rfl,jR,λl1 bb=>?_⟩;have s2:Same H2 (upd H2 l1 (.lst [.str x])):=Same.new bb;have g2:=gh (H:=H2) (a:=l1) (o:=.lst [.str x]);generalize upd H2 l1 (.lst [.str x])=H3 at s2 g2;have aV:=aw.mono (Tu.of s2);refine⟨pb,l1,x,zs,rfl,aV.tu,aV.z,by omega,g2,λl2 H4 s3 bA g4=>?_⟩;have az:Same H2 H4:=s2.trans s3;have aW:=aw.mono (Tu.of az);have aX:=az _ _ aK;have aY:=hT.same (s1.trans az);have aZ:(gT (jN x zs)).Nodup:=((Q25 (l:=zs)).map _).nodup a9;have bc:(gT (jN x zs)).Pairwise sle:=List.Pairwise.sublist ((Q25 (l:=zs)).map _) hK.l8;have bB:(jN x zs).length<=12:=Q0d (Q1 _ _) ba;have wi:=xg hK.W hK.ne;unfold Kd.W at wi
 have bd:jb by_ x≠key:=by
  unfold jb;split
  . intro z;obtain⟨k,hk,_⟩:=a5;exact absurd z.symm (qo aQ hk)
  . exact hK.nk
 refine⟨key,jb by_ x,l2,jN x zs,rfl,g4,rN aW.z,by omega,aY,aZ,by rw[rO];exact wi.2.2.2.1,by rw[rO];exact wi.2.2.2.2,bd,λrs it ik H5 aL be bf bg bC a1 bh=>?_⟩;rw[xo bf bg bc aZ] at a1;obtain⟨ps,hP⟩:=aY.tab;have a2:Tu H4 H5:=λc xs h=>aL c _ (gR h hP (by intro z;cases z)) h;have bi:=aW.mono a2;have aM:nZ H5 C v dx x y:=aL v _ (gR aX hP (by intro z;cases z)) aX;have bj:KA H5 u kx:=KA.mono a2 _ (KA.mono (Tu.of (s1.trans az)) _ aT);obtain⟨ta,rfl,bm⟩:=plain_at hK.px bj;refine⟨_,rfl,v,C,dx,_,_,rfl,aM,OF.ct,OF.nf,rfl,_,rfl,v,C,dx,_,_,rfl,aM,OF.ct,OF.nf,rfl,_,rfl,i3,λc0 bn=>?_⟩;have s6:Same H5 (upd H5 c0 (.tup [.str x,.ref ta])):=Same.new bn;have g6:=gh (H:=H5) (a:=c0) (o:=.tup [.str x,.ref ta]);generalize upd H5 c0 (.tup [.str x,.ref ta])=H6 at s6 g6;have bo:=s6 _ _ aM;refine⟨_,rfl,v,C,dx,_,_,rfl,bo,OF.ct,OF.ni,rfl,_,rfl,i3,λc1 bp=>?_⟩;have s7:Same H6 (upd H6 c1 (.tup [.str y,.ref ik])):=Same.new bp;have g7:=gh (H:=H6) (a:=c1) (o:=.tup [.str y,.ref ik]);generalize upd H6 c1 (.tup [.str y,.ref ik])=H7 at s7 g7;refine⟨i3,λl hl=>?_⟩;have s8:Same H7 (upd H7 l (.lst [.ref c0,.ref c1])):=Same.new hl;have g8:=gh (H:=H7) (a:=l) (o:=.lst [.ref c0,.ref c1]);generalize upd H7 l (.lst [.ref c0,.ref c1])=H8 at s8 g8;have ax:Same H5 H8:=(s6.trans s7).trans s8;have k0:=s8 _ _ (s7 _ _ g6);have k1:=s8 _ _ g7;have aE:=ax _ _ bm;have aH:=ax _ _ bh;have aJ:=ax _ _ a1;have bq:KA H8 (.ref ta) kx:=FG hK.px aE
 have br:KA H8 (.ref ik) (.rows key (jb by_ x) ((gm zs).del x)):=by
  unfold KA;refine⟨ik,it,_,rfl,aH,aJ,?_⟩;rw[<-rO];exact kZ (rN (bi.mono (Tu.of ax)).z)
 have n2:(gT [((.ref c0:V),x,kx),(.ref c1,y,.rows key (jb by_ x) ((gm zs).del x))]).Nodup:=List.nodup_cons.mpr ⟨λz=>hK.xy (List.mem_singleton.mp z),List.nodup_cons.mpr ⟨λz=>(nomatch z),Q0o⟩⟩;have a3:=be.same ax;refine⟨x,"",l,[(.ref c0,x,kx),(.ref c1,y,.rows key (jb by_ x) ((gm zs).del x))],rfl,g8,λz hz=>?_,by show 2<=13;decide,a3,n2,⟨kx,?_,hK.px⟩,.inl rfl,Ne.symm (qo aQ hK.gx),λrs t r H9 a4 bt a6 a7 bD ht bu=>?_⟩
 . rcases List.mem_cons.mp hz with e|e
   . rw[e];exact⟨c0,_,rfl,k0,bq⟩
   . rw[List.mem_singleton.mp e];exact⟨c1,_,rfl,k1,br⟩
 . exact rM n2 (z:=(.ref c0,x,kx)) Q02
 . obtain⟨bE,bv⟩:=a3.tab;have aA:Tu H8 H9:=λc xs h=>a4 c _ (gR h bv (by intro z;cases z)) h;rw[FI hK.xy a6 a7] at ht;exact q r H9 (((((Kp.of s1).trans (Kp.of az)).trans aL).trans (Kp.of ax)).trans a4) bt ⟨t,c0,c1,ta,ik,it,bu,ht,aA _ _ k0,aA _ _ aE,aA _ _ k1,aA _ _ aH,aA _ _ aJ⟩
end
noncomputable def Nl (st:Stmt):Pos:=match(iI st).getD 1 (.Pass ⟨0,0,0,0⟩) with
 | .Assign _ (.Call _ _ [⟨_,.Lambda _ _ _ I,_⟩] _) _=>I
 |_=>⟨0,0,0,0⟩
noncomputable abbrev qp:Pos:=Nl (top 55)
noncomputable abbrev qq:Str:=("_law_group_shown":Str)++".<locals>."++"<lambda>"
def FN:Sp:=λvs H Q _=>∃pk pb key by_ x zs,vs=[.ref pk,.str x]/\qg H pk pb key by_/\H pb=some (.tup (gG zs))/\ZL H zs/\zs.length<=12/\∀I it H',Same H H'->H' I=some (.tup [.str "rows",.str key,.str (jb by_ x),.ref it])->H' it=some (.tup (gG (jN x zs)))->Q (.ref I) H'
def FO (Pg:Addr):Sp:=λvs H Q _=>∃pk pb key by_ x y kx zs,vs=[.ref pk,.str x,.str y]/\lD H pk pb key by_ x y kx zs/\gy Pg qp qq H/\∀q H',lA Pg H H'->gy Pg qp qq H'->lE H' q key by_ x y kx zs->Q (.ref q) H'
noncomputable def rP (x:Str) (zs:List Zd):List Zd:=zs.filter λz=>decide (z.2.1=x)
theorem FP {x:Str}{kx:Kd}:∀{zs:List Zd},(gT zs).Nodup->(gm zs).get x=some kx->∃z,rP x zs=[z]/\z.2=(x,kx)/\z∈zs
 |[],_,h=>nomatch h
 |y::r,nd,h=>by
  have nd:(y.2.1::gT r).Nodup:=nd;obtain⟨I,J⟩:=List.nodup_cons.mp nd;have h:(if x=y.2.1 then some y.2.2 else(gm r).get x)=some kx:=h;unfold rP;rw[Q11];by_cases c:x=y.2.1
  . rw[if_pos c] at h
    cases h;rw[if_pos (decide_eq_true c.symm)];refine⟨y,?_,by rw[c],Q02⟩
    have:r.filter (λz=>decide (z.2.1=x))=[]:=List.filter_eq_nil_iff.mpr λz L e=>I (by
     rw[<-c,<-of_decide_eq_true e];exact Q0y (f:=λz:Zd=>z.2.1) L)
    rw[this]
  . rw[if_neg c] at h;rw[if_neg (by simp;exact λe=>c e.symm)];obtain⟨z,h1,h2,U⟩:=FP J h;exact⟨z,h1,h2,Q07 _ U⟩
theorem Nn:gQ Xr Xk (gp (top 54)):=g_
theorem Np (T:Tb mg)(I:Dn K mg "_law_group_inner" tT (top 54) J L):gc P w K mg base gf (1) J L tT (FN):=by
 refine I.F.ok Nn λvs H Q E h=>?_;obtain⟨pk,pb,key,by_,x,zs,rfl,Y,aa,hZ,af,q⟩:=h;refine⟨rfl,λag A outer s nd hr hu=>?_⟩
 refine⟨_,(e_ (gA 2 nd (gq (pv 0) c_))
  (e_ (gF (gE iu (pv 2) (pv 1) (gC _)) (gi (gA 2 nd gW)) gH)
  (gi (gw (iP (a_ gW (a_ (gq (pv 0) c_) (a_ (pv 2) (a_ (lW pH (by rfl) T.nJ boot_tuple (a_ (kT (g:=(iH 0)) (tt:=(jI (ie _ (ie (i9 K) (gJ 0) (tC (.int 0))) (gJ 2)))) (te:=(gJ 0)) (own:=["_law_pair"]) rfl (jE (N:=Xr) (sc:=gp (top 54))) (lb (gq (pv 0) c_)) (λ_ _ _ _ _=>(gY (i:=0) (show(["_law_pair","_law_kind_here","_law_field","_law_by"]:List Str).Nodup by decide +kernel) rfl (Or.inl rfl) (.inr rfl))) (λ_ _ _ _ _=>(lY (gE j1 (gq (pv 0) c_) (pv 2) (gC _)))) (λ_ _ _ _ _=>(pv 0))) b_)) b_))))))))),?_⟩
 ac_rfl
 refine⟨_,rfl,pk,_,_,_,rfl,rfl,f9.of Y,rfl,?_⟩;dsimp only[iH];refine qd (A:=lP _ _ _) (λab H'=>ab=[some (.ref pk),some (.str x),some (.str (jb by_ x))]/\H'=H) ?_ (λhB=>?_);rotate_left
 . refine⟨_,rfl,_,rfl,rfl,_,rfl,h_ (λc=>?_) (λc=>?_)⟩
   . have c:by_=x:=by
      have:=of_decide_eq_true c;injection this
     refine hB _ _ ⟨?_,rfl⟩;unfold jb;rw[if_pos c];rfl
   . have c:¬by_=x:=λz=>c (decide_eq_true (by rw[z]));refine hB _ _ ⟨?_,rfl⟩;unfold jb;rw[if_neg c];rfl
 rintro ab H1 ⟨rfl,rfl⟩;refine⟨_,rfl,pk,_,_,_,rfl,rfl,f9.of Y,rfl,_,rfl,_,rfl,pk,_,_,_,rfl,rfl,f9.of Y,rfl,pb,rfl,⟨_,f9.of aa⟩,mY (o5 (f9.of aa)) (λi=>gG (jN x (zs.take i))) (by rw[jM];omega) (λp hp=>?_) (λi v hv add skip=>?_)⟩
 . rw[jM,Q0p];have s1:Same H1 (upd H1 p (.lst (gG (jN x zs)))):=Same.new hp;refine⟨p,_,rfl,.inl ⟨f_.of gh,λit ae=>?_⟩⟩;have s2:=s1.trans (Same.new (o:=.tup (gG (jN x zs))) ae);refine⟨oV,λik ac=>?_⟩;exact q ik it _ (s2.trans (Same.new ac)) gh (by rw[d_ (gz gh ac),gh])
 . obtain⟨z,hz,rfl⟩:=Option.map_eq_some_iff.mp ((Q0h (f:=λz:Zd=>z.1)).symm.trans hv);obtain⟨cz,u,ec,hc,hk⟩:=hZ z (Q0j hz);rw[ec];refine⟨rfl,_,rfl,cz,_,_,_,rfl,rfl,f9.of hc,rfl,_,rfl,rfl,_,rfl,h_ (λU=>⟨_,rfl,add _ ?_⟩) (λU=>skip ?_)⟩
   . have U:decide (z.2.1≠x)=true:=decide_eq_true λe=>by
      rw[e] at U;simp at U
     unfold jN gG;rw[nV hz U,ec]
   . have U:¬decide (z.2.1≠x)=true:=λe=>U (by
      show(!decide (V.str z.2.1=V.str x))=true;rw[decide_eq_false λy=>of_decide_eq_true e (V.str.inj y)];rfl)
     unfold jN gG;rw[nW hz U]
theorem FQ:gQ XJ Xq (gp (top 55)):=g_
theorem Nq {Pg c:Addr}(T:Tb mg)(J:Dn K mg "_law_group_shown" rA (top 55) L I)(ak:I.code=.ref c)(au:W.CodeHd base c Pg)(av:BM mg base)(U:Dn K mg "_law_group_inner" tT (top 54) Y aa)(ab:gc P w K mg base gf (1) Y aa tT (FN)):gc P w K mg base gf (8) L I rA (FO Pg):=by
 refine J.F.oR ak FQ (λvs H Q E h=>?_) (λA outer s H vs Q E hr h=>?_)
 . obtain⟨pk,pb,key,by_,x,y,kx,zs,rfl,_⟩:=h;rfl
 obtain⟨pk,pb,key,by_,x,y,kx,zs,rfl,hK,hT,q⟩:=h;have nd:=FQ.nd;have hu:=qU hr
 refine⟨_,(e_ (qX (i:=3) nd rfl iG (g:=(iH 0)) (tt:=(jI (ie mG (ie (i9 K) (gJ 0) (tC (.int 0))) (gJ 2)))) (te:=(gJ 0)) (own:=["_law_pair"]) rfl (jE (N:=XJ) (sc:=gp (top 55))) (lb (gq (pv 0) c_)) (λ_ _ _ _ _=>(gY (i:=0) (show(["_law_pair","_law_kind_here","_law_field","_law_into","_law_own","_law_fields_here"]:List Str).Nodup by decide +kernel) rfl (Or.inl rfl) (.inr rfl))) (λ_ _ _ _ _=>(lY (gE iu (gq (pv 0) c_) (pv 2) (gC _)))) (λ_ _ _ _ _=>(pv 0)))
  (e_ (gA 4 nd (vJ (te:=(ie (i9 K) (gJ 0) (tC (.int 0)))) (x:="_law_pair") (N':=["","","","",""]) rfl T.mw boot_sorted hr rfl rfl au av (kU.of (N:=XJ) (sc:=gp (top 55)) rfl rfl rfl rfl rfl (by decide +kernel)) rfl (λ_ _ _ _ _=>rfl) (gn Cm (pv 3) (iV (a_ (iP (a_ (pv 2) (a_ (gv ab hr U (a_ (pv 0) (a_ (pv 1) b_))) b_))) b_))) (λ_ _ _ _ _=>(gq (pv 0) c_))))
  (gi (gw (iP (a_ gW (a_ (pv 1) (a_ gW (a_ (lW pH (by rfl) T.nJ boot_tuple (a_ (pv 4) b_)) b_))))))))),?_⟩
 ac_rfl
 obtain⟨aw,ax,aW,aV,aX⟩:=hK.w5;have ay:(gT zs).Nodup:=by rw[<-kJ];exact aw
 have az:zs.length<=12:=by rw[<-mz,<-kJ];exact ax
 obtain⟨zx,aA,aB,aC⟩:=FP ay hK.gx;obtain⟨vx,xx,kk⟩:=zx
 cases aB;refine⟨_,rfl,pk,_,_,_,rfl,rfl,f9.of hK.at_,rfl,pb,rfl,⟨_,f9.of hK.tu⟩,mY (o5 (f9.of hK.tu)) (λi=>gG (rP x (zs.take i))) (by rw[jM];omega) (λp hp=>?_) (λi v hv add skip=>?_)⟩
 case refine_2=>
  obtain⟨z,hz,rfl⟩:=Option.map_eq_some_iff.mp ((Q0h (f:=λz:Zd=>z.1)).symm.trans hv);obtain⟨cz,u,ec,hc,hk⟩:=hK.z z (Q0j hz);rw[ec];refine⟨rfl,_,rfl,cz,_,_,_,rfl,rfl,f9.of hc,rfl,_,rfl,rfl,_,rfl,h_ (λcc=>⟨_,rfl,add _ ?_⟩) (λcc=>skip ?_)⟩
  . have cc:decide (z.2.1=x)=true:=decide_eq_true (V.str.inj (of_decide_eq_true cc));unfold rP gG;rw[nV hz cc,ec]
  . have cc:¬decide (z.2.1=x)=true:=λe=>cc (decide_eq_true (by rw[of_decide_eq_true e]));unfold rP gG;rw[nW hz cc]
 rw[jM,Q0p,aA];have s1:Same H (upd H p (.lst (gG [(vx,x,kx)]))):=Same.new hp;have g1:=gh (H:=H) (a:=p) (o:=.lst (gG [(vx,x,kx)]));generalize upd H p (.lst (gG [(vx,x,kx)]))=H1 at s1 g1;have ah:=hK.mono (Tu.of s1);refine⟨_,rfl,_,rfl,_,rfl,_,rfl,pk,pb,key,by_,x,zs,rfl,ah.at_,ah.tu,ah.z,az,λik it H2 s2 aD aE=>?_⟩;refine⟨i3,λc1 aH=>?_⟩;have s3:Same H2 (upd H2 c1 (.tup [.str y,.ref ik])):=Same.new aH;have g3:=gh (H:=H2) (a:=c1) (o:=.tup [.str y,.ref ik]);generalize upd H2 c1 (.tup [.str y,.ref ik])=H3 at s3 g3;refine⟨jR,λl hl=>?_⟩;have s4:Same H3 (upd H3 l (.lst [.ref c1])):=Same.new hl;have g4:=gh (H:=H3) (a:=l) (o:=.lst [.ref c1]);generalize upd H3 l (.lst [.ref c1])=H4 at s4 g4;have al:=s3.trans s4;refine⟨p,l,_,_,rfl,rfl,al _ _ (s2 _ _ g1),g4,i3,λl3 aJ=>?_⟩;have s5:Same H4 (upd H4 l3 (.lst (gG [(vx,x,kx)]++[.ref c1]))):=Same.new aJ;have g5:upd H4 l3 (.lst (gG [(vx,x,kx)]++[.ref c1])) l3=some (.lst (gG [(vx,x,kx),(.ref c1,y,.rows key (jb by_ x) ((gm zs).del x))])):=gh;generalize upd H4 l3 (.lst (gG [(vx,x,kx)]++[.ref c1]))=H5 at s5 g5;have ai:=al.trans s5;have aj:Same H H5:=(s1.trans s2).trans ai;have am:=hK.mono (Tu.of aj);have an:=hT.same aj;have af:=ai _ _ aD;have ag:=ai _ _ aE;have ao:=s5 _ _ (s4 _ _ g3)
 have aK:KA H5 (.ref ik) (.rows key (jb by_ x) ((gm zs).del x)):=by
  unfold KA;refine⟨ik,it,_,rfl,af,ag,?_⟩;rw[<-rO];exact kZ (rN am.z)
 obtain⟨c0,u,ec,ae,ap⟩:=am.z _ aC;have ec:vx=.ref c0:=ec;subst ec;have ae:H5 c0=some (.tup [.str x,u]):=ae;obtain⟨ta,rfl,aL⟩:=plain_at hK.px ap
 have aM:ZL H5 [((.ref c0:V),x,kx),(.ref c1,y,.rows key (jb by_ x) ((gm zs).del x))]:=λz hz=>by
  rcases List.mem_cons.mp hz with e|e
  . rw[e];exact⟨c0,_,rfl,ae,ap⟩
  . rw[List.mem_singleton.mp e];exact⟨c1,_,rfl,ao,aK⟩
 refine wV (f_.of g5) aM (by show 2<=20;decide) an λrs D H6 aq aP aQ aT hD=>?_;obtain⟨ps,hP⟩:=an.tab;have aU:Tu H5 H6:=λc xs h=>aq c _ (gR h hP (by intro z;cases z)) h;refine⟨_,rfl,_,rfl,D,_,rfl,.inl ⟨f_.of hD,λt ht=>⟨oV,λr ar=>?_⟩⟩⟩;have s7:Same H6 (upd H6 t (.tup (gG rs))):=Same.new ht;have g7:=gh (H:=H6) (a:=t) (o:=.tup (gG rs));generalize upd H6 t (.tup (gG rs))=H7 at s7 g7 ar;have s8:Same H7 (upd H7 r (.tup [.str "rows",.str x,.str "",.ref t])):=Same.new ar;have g8:=gh (H:=H7) (a:=r) (o:=.tup [.str "rows",.str x,.str "",.ref t]);generalize upd H7 r (.tup [.str "rows",.str x,.str "",.ref t])=H8 at s8 g8;rw[FI hK.xy aQ aT] at g7;have ac:Tu H5 H8:=aU.trans (Tu.of (s7.trans s8));exact q r H8 (((Kp.of aj).trans aq).trans (Kp.of (s7.trans s8))) (aP.same (s7.trans s8)) ⟨t,c0,c1,ta,ik,it,g8,s8 _ _ g7,ac _ _ ae,ac _ _ aL,ac _ _ ao,ac _ _ af,ac _ _ ag⟩
theorem uC:∀{zs:List Zd},(gm zs).W↔∀z∈zs,z.2.2.W/\z.2.1≠""
 |[]=>⟨λ_ z h=>(nomatch h),λ_=>by show Fs.nil.W;unfold Fs.W;trivial⟩
 |y::r=>by
  constructor
  . intro h z I;have h:(Fs.cons y.2.1 y.2.2 (gm r)).W:=h;unfold Fs.W at h;rcases List.mem_cons.mp I with e|e
    . rw[e];exact⟨h.1,h.2.1⟩
    . exact uC.mp h.2.2 z e
  . intro h;show(Fs.cons y.2.1 y.2.2 (gm r)).W;unfold Fs.W;exact⟨(h y Q02).1,(h y Q02).2,uC.mpr λz I=>h z (Q07 _ I)⟩
theorem xq {d:Nat}:∀{zs:List Zd},(gm zs).dep<=d↔∀z∈zs,z.2.2.dep<=d
 |[]=>⟨λ_ z h=>(nomatch h),λ_=>Q0g _⟩
 |y::r=>by
  show max y.2.2.dep (gm r).dep<=d↔_;rw[Nat.max_le,xq (zs:=r)];constructor
  . rintro⟨h1,h2⟩ z I;rcases List.mem_cons.mp I with e|e
    . rw[e];exact h1
    . exact h2 z e
  . exact λh=>⟨h y Q02,λz I=>h z (Q07 _ I)⟩
theorem FR {zs I:List Zd}(nd:(gT I).Nodup)(J:∀z∈zs,z∈I){x:Str}(h:(gm zs).pl x):(gm I).pl x:=by
 obtain⟨k,h1,h2⟩:=h;obtain⟨⟨v,y,q⟩,L,e⟩:=xl h1
 cases e;exact⟨_,rM nd (J _ L),h2⟩
theorem Nr {k:Kd}(h:jC k=true):jQ k:=by
 cases k <;> first|exact trivial|cases h
theorem FT {fs:Fs}{i:Nat}{x:Str}(nd:fs.names.Nodup)(h:x∈js fs i):fs.pl x:=by
 unfold js at h;obtain⟨⟨y,k⟩,h1,rfl⟩:=List.mem_map.mp h;obtain⟨h2,I⟩:=List.mem_filter.mp h1;have J:=List.mem_of_mem_take h2;obtain⟨j,L,e⟩:=Q10 J;have:fs.at j=some (y,k):=by rw[<-Fs.uf,Q03 L,e]
 exact⟨k,Fs.oS nd this,Nr I⟩
theorem xr (fs:Fs)(i:Nat):(js fs i).length<=i:=by
 unfold js;rw[Q0];exact Q0d (Q1 _ _) (by rw[Q0l];omega)
noncomputable def Nt (st:Stmt):Pos:=match(iI st).getLast? with
 |some (.Return (some (.Tuple [_,_,_,.Call _ [.Call _ _ [⟨_,.Lambda _ _ _ I,_⟩] _] _ _] _ _)) _)=>I
 |_=>⟨0,0,0,0⟩
noncomputable abbrev o9:Pos:=Nt (top 53)
noncomputable abbrev o_:Str:=("_law_group_kind":Str)++".<locals>."++"<lambda>"
def xt (K:W.Frag):Sp:=λvs H Q E=>t9 K 0 vs H Q E\/t9 K 1 vs H Q E
def FU (K:W.Frag) (Pn:Addr):Sp:=λvs H Q _=>∃a b ns n,∃d:Nat,vs=[.ref a,.ref b,.int d]/\(d=0\/d=1)/\G0 K H a b ns n/\n<=200000000000/\gy Pn o9 o_ H/\
 ∀pk pb key by_ zs n' H',gP b Pn H H'->gy Pn o9 o_ H'->H' b=some (.lst [.int n'])->n<=n'->n'<=n+100->qg H' pk pb key by_->H' pb=some (.tup (gG zs))->ZL H' zs->(Kd.rows key by_ (gm zs)).W->(gm zs).dep<=2->(gT zs).Pairwise sle->by_≠key->(∃x,x≠key/\(gm zs).pl x)->Q (.ref pk) H'
theorem FV:gQ XA XS (gp (top 53)):=g_
theorem Nu {Pn c:Addr}(T:Tb mg)(J:Dn K mg "_law_group_kind" jF (top 53) L I)(ba:I.code=.ref c)(bB:W.CodeHd base c Pn)(bC:BM mg base)(ap:Dn K mg "_law_next" gL (top 32) aq ar)(au:gc P w K mg base gf (1) aq ar gL (my K))(U:Dn K mg "_law_rows_kind" kB (top 38) Y aa)(ab:gc P w K mg base gf (7) Y aa kB (xt K))(ac:Dn K mg "_law_stranger" pZ (top 45) ae af)(ag:gc P w K mg base gf (2) ae af pZ (wZ K))(al:Dn K mg "_law_plain" gL (top 36) am an)(ao:gc P w K mg base gf (2) am an gL (p6 K))(ah:Dn K mg "_law_plains" pY (top 51) ai aj)(ak:gc P w K mg base gf (1) ai aj pY (wX)):gc P w K mg base gf (8) L I jF (FU K Pn):=by
 refine J.F.oR ba FV (λvs H Q E h=>?_) (λA outer s H vs Q E hr h=>?_)
 . obtain⟨a,b,ns,n,d,rfl,_⟩:=h;rfl
 obtain⟨a,b,ns,n,d,rfl,hd,g,hn,hT,q⟩:=h;have nd:=FV.nd;have hu:=qU hr
 refine⟨_,(e_ (gA 3 nd (gv au hr ap (a_ (pv 0) (a_ (pv 1) b_))))
  (e_ (v8 4 nd (gv ab hr U (a_ (pv 0) (a_ (pv 1) (a_ (gn j0 c_ (gn ir (pv 3) c_)) (a_ (pv 2) b_))))))
  (e_ (gF (PW.pt (m_ (gE iu (gn ir (gn jc (pv 3) c_) c_) c_ (gC _)) (oq (gE nr (ij jr (by rfl) T.ja PySem.boot_len (a_ (kT (g:=(iH 0)) (tt:=(jI (ie _ (gJ 0) (ie (i9 K) (gJ 5) (tC (.int 1)))))) (te:=(gJ 0)) (own:=["_law_name"]) rfl (jE (N:=XA) (sc:=gp (top 53))) (kP (gv ak hr ah (a_ (pv 4) b_))) (λ_ _ _ _ _=>(gY (i:=0) (show(["_law_name","_law_script","_law_at","_law_deep","_law_m","_law_kind_here","_law_names_here","_law_fields_here"]:List Str).Nodup by decide +kernel) rfl (Or.inl rfl) (.inr rfl))) (λ_ _ _ _ _=>(lY (gE j1 (pv 0) (gq (pv 5) c_) (gC _)))) (λ_ _ _ _ _=>(pv 0))) b_)) c_ (gC _))))) (gi (gw (pv 4))) gH)
  (e_ (qX (i:=5) nd rfl iG (g:=(iH 0)) (tt:=mK) (te:=(ie (i9 K) (gJ 0) (tC (.int 0)))) (own:=["_law_pair"]) rfl (jE (N:=XA) (sc:=gp (top 53))) (lb (gq (pv 4) c_)) (λ_ _ _ _ _=>(gY (i:=0) (show(["_law_pair","_law_script","_law_at","_law_deep","_law_m","_law_kind_here","_law_names_here","_law_fields_here"]:List Str).Nodup by decide +kernel) rfl (Or.inl rfl) (.inr rfl))) (λ_ _ _ _ _=>oJ) (λ_ _ _ _ _=>(gq (pv 0) c_)))
  (e_ (gA 6 nd (gn Cm (lW IL (by rfl) T.pX boot_list (a_ (gq (pv 4) c_) b_)) (iV (a_ (iP (a_ (gv ag hr ac (a_ (pv 0) (a_ (pv 1) (a_ (pv 5) b_)))) (a_ (gv ao hr al (a_ (pv 0) (a_ (pv 1) b_))) b_))) b_))))
  (gi (gw (iP (a_ gW (a_ (gq (pv 4) c_) (a_ (gq (pv 4) c_) (a_ (lW pH (by rfl) T.nJ boot_tuple (a_ (vJ (te:=(ie (i9 K) (gJ 0) (tC (.int 0)))) (x:="_law_pair") (N':=["","","","","","",""]) rfl T.mw boot_sorted hr rfl rfl bB bC (kU.of (N:=XA) (sc:=gp (top 53)) rfl rfl rfl rfl rfl (by decide +kernel)) rfl (λ_ _ _ _ _=>rfl) (pv 6) (λ_ _ _ _ _=>(gq (pv 0) c_))) b_)) b_)))))))))))),?_⟩
 ac_rfl
 obtain⟨b2,hP⟩:=hT.tab;have bD:Pn≠b:=gR hP g.at_ (by intro z;cases z);have b3:=g.pos;refine⟨_,rfl,_,rfl,a,b,ns,n,rfl,g,by omega,λm H1 m0 m1 aY bb=>?_⟩;have g1:=g.go aY bb (by omega);obtain⟨wd,bE,bF,b4⟩:∃wd:Nat,1+m % 3=(wd:Int)/\1<=wd/\wd<=3:=⟨(1+m % 3).toNat,by omega,by omega,by omega⟩;refine⟨_,rfl,_,rfl,_,rfl,_,_,rfl,rfl,(by show(0:Int)<3;decide),_,_,rfl,rfl,_,rfl,?_⟩;dsimp only[j2];rw[bE]
 have rk:∀{Q':VK},(∀(pk pb:Addr) (xs:List V) (key by_:Str) (fs:Fs) (n2:Int) (H2:Hp),SB b H1 H2->H2 b=some (.lst [.int n2])->n+1<=n2->n2<=n+50->qg H2 pk pb key by_->H2 pb=some (.tup xs)->FA H2 xs fs->fs.dep<=2->(Kd.rows key by_ fs).W->fs.names.length<=3->fs.names.Pairwise sle/\by_≠key->Q' (.ref pk) H2)->xt K [.ref a,.ref b,.int wd,.int d] H1 Q' E0:=λ{Q'} q'=>by
  have b5:(ck d:Int)<=12:=by rcases hd with rfl|rfl <;> decide
  have bY:(wd:Int) * ((ck d:Int)+1)<=3 * 13:=Q3l (by omega) (by omega) (by omega) (by omega)
  have go:t9 K d [.ref a,.ref b,.int wd,.int d] H1 Q' E0:=by
   refine⟨a,b,ns,n+1,wd,rfl,bF,by omega,g1,by omega,λv key by_ fs n2 H3 sb bG l1 l2 hk bc aZ hl aA=>?_⟩;unfold KA at hk;obtain⟨pk,pb,xs,rfl,av,aw,aJ⟩:=hk;simp only[Kd.dep] at bc;exact q' pk pb xs key by_ fs n2 H3 sb bG l1 (by omega) av aw aJ (by omega) aZ (by omega) aA
  rcases hd with rfl|rfl
  . exact .inl go
  . exact .inr go
 refine rk λpk pb xs key by_ fs n2 H2 bd aB l1 l2 av aw aJ aQ hW h3 aA=>?_;have sb:=aY.trans bd;have g2:=g.go sb aB (by omega);have a1:=hT.sb g.at_ sb;clear rk aY bd bb g1;obtain⟨zs,bH,bI,hZ⟩:=E4 aJ;subst bH bI;rw[kJ,mz] at h3;rw[kJ] at aA;have be:(gG zs).length<=1000:=by rw[jM];omega
 have aC:=hW;unfold Kd.W at aC
 have bJ:key∈gT zs:=by
  obtain⟨k,hk,_⟩:=aC.2.2.2.1;rw[<-kJ];exact Fs.p9 hk
 dsimp only[iH];refine qd (A:=lP _ _ _) (λbf H'=>bf=[some (.ref a),some (.ref b),some (.int d),some (.int m),some (.ref pk),none,none]/\Same H2 H') ?_ (λhB=>?_);rotate_left
 . refine⟨_,rfl,_,_,rfl,rfl,⟨by decide,by decide⟩,_,_,rfl,rfl,(by show(0:Int)<2;decide),rfl,_,rfl,h_ (λc1=>?_) (λc1=>h9 (hB _ _ ⟨rfl,Same.refl _⟩))⟩;refine⟨_,rfl,pk,pb,key,by_,_,_,rfl,av,aw,aJ,aC.2.1,λD H3 s3 hD bg=>?_⟩;refine⟨D,rfl,⟨_,f_.of bg⟩,mY (wO (f_.of bg)) (λi=>(((js (gm zs) (gG zs).length).take i).filter λnm=>decide (nm≠key)).map V.str) (by rw[Q0];exact Q0d (xr _ _) be) (λp hp=>?_) (λi x hx add skip=>?_)⟩
   . rw[Q0,Q0p];refine⟨p,_,rfl,.inl (f_.of gh),_,_,rfl,rfl,_,rfl,h_ (λc2=>?_) (λc2=>hB _ _ ⟨rfl,s3.trans (Same.new hp)⟩)⟩
     have bu:0<((js (gm zs) (gG zs).length).filter λnm=>decide (nm≠key)).length:=by
      have:=of_decide_eq_true c2;rw[Q0] at this;omega
     obtain⟨h1,h2⟩:=List.mem_filter.mp (Q0r bu);have s4:=s3.trans (Same.new (o:=.lst (((js (gm zs) (gG zs).length).filter λnm=>decide (nm≠key)).map V.str)) hp);exact⟨_,rfl,q pk pb key by_ zs n2 _ ((SB.gX sb).trans (Kp.of s4)) (a1.same s4) (s4 _ _ aB) (by omega) (by omega) (s4 _ _ av) (s4 _ _ aw) (hZ.mono (Tu.of s4)) hW aQ aA.1 aA.2 ⟨_,of_decide_eq_true h2,FT aC.1 h1⟩⟩
   . obtain⟨nm,bh,rfl⟩:=Option.map_eq_some_iff.mp (List.getElem?_map.symm.trans hx);refine⟨rfl,_,rfl,_,rfl,pk,_,_,_,rfl,rfl,f9.of (s3 _ _ av),rfl,rfl,_,rfl,h_ (λcc=>⟨_,rfl,add _ ?_⟩) (λcc=>skip ?_)⟩
     . have cc:decide (nm≠key)=true:=decide_eq_true λe=>by
        rw[e] at cc;simp at cc
       rw[nV bh cc]
     . have cc:¬decide (nm≠key)=true:=λe=>cc (by
        show(!decide (V.str nm=V.str key))=true;rw[decide_eq_false λy=>of_decide_eq_true e (V.str.inj y)];rfl)
       rw[nW bh cc]
 rintro bf H3 ⟨rfl,s3⟩;refine⟨_,rfl,pk,_,_,_,rfl,rfl,f9.of (s3 _ _ av),rfl,pb,rfl,⟨_,f9.of (s3 _ _ aw)⟩,mY (o5 (f9.of (s3 _ _ aw))) (λi=>(gT (zs.take i)).map V.str) be (λnl bK=>?_) (λi x hx add skip=>?_)⟩
 case refine_2=>
  obtain⟨z,hz,rfl⟩:=Option.map_eq_some_iff.mp ((Q0h (f:=λz:Zd=>z.1)).symm.trans hx);obtain⟨cz,u,ec,hc,hk⟩:=hZ z (Q0j hz);rw[ec];refine⟨rfl,yes (i_ ⟨_,rfl,cz,_,_,_,rfl,rfl,f9.of (s3 _ _ hc),rfl,add _ ?_⟩)⟩;unfold gT;rw[Q0q,hz,Q0b,Q0b];rfl
 rw[jM,Q0p];have s4:=s3.trans (Same.new (o:=.lst ((gT zs).map V.str)) bK);have g4:=gh (H:=H3) (a:=nl) (o:=.lst ((gT zs).map V.str));generalize upd H3 nl (.lst ((gT zs).map V.str))=H4 at s4 g4;refine⟨_,rfl,pk,_,_,_,rfl,rfl,f9.of (s4 _ _ av),rfl,pb,_,rfl,.inr (f9.of (s4 _ _ aw)),λl1 a4=>?_⟩;have s5:=s4.trans (Same.new (o:=.lst (gG zs)) a4);have g5:=gh (H:=H4) (a:=l1) (o:=.lst (gG zs));have aT:upd H4 l1 (.lst (gG zs)) nl=some (.lst ((gT zs).map V.str)):=by rw[d_ (gz g4 a4)];exact g4
 generalize upd H4 l1 (.lst (gG zs))=H5 at s5 g5 aT;have aU:l1≠b:=λz=>by have:=s4 _ _ aB;rw[<-z,a4] at this;cases this
 refine⟨_,rfl,_,rfl,_,rfl,a,b,ns,n2,nl,gT zs,rfl,g2.go (SB.of s5) (s5 _ _ aB) (by omega),by omega,aT,by rw[mz];omega,λx H6 a5 bL a6 bM=>?_⟩;have bZ:=a5 _ _ aU g5;have bN:G0 K H6 a b ns (n2+1):=g2.go ((SB.of s5).trans a5) bL (by omega);refine⟨_,rfl,_,rfl,a,b,ns,n2+1,rfl,bN,by omega,λu ku H7 bO bP bQ bc bR aZ=>?_⟩;have aD:=a5.trans bO;have k6:gP b Pn H2 H7:=(Kp.of s5).trans (SB.gX aD);have bS:gy Pn o9 o_ H7:=(a1.same s5).sb (s5 _ _ aB) aD;have g6:=aD _ _ aU g5;refine⟨i3,λcx bT=>⟨jR,λl2 bi=>?_⟩⟩;have a2:=gh (H:=H7) (a:=cx) (o:=.tup [.str x,u]);have s8:Same H7 (upd H7 cx (.tup [.str x,u])):=Same.new bT;generalize upd H7 cx (.tup [.str x,u])=H8 at a2 s8 bi;have a3:=gh (H:=H8) (a:=l2) (o:=.lst [.ref cx]);have s9:Same H8 (upd H8 l2 (.lst [.ref cx])):=Same.new bi;generalize upd H8 l2 (.lst [.ref cx])=H9 at a3 s9;have bj:=s8.trans s9;have bU:=s9 _ _ a2;refine⟨l1,l2,_,_,rfl,rfl,bj _ _ g6,a3,Q0w (iF (by rw[jM];show zs.length+1<=1000;omega)),λl3 bV=>?_⟩;have a7:Same H9 (upd H9 l3 (.lst (gG zs++[.ref cx]))):=Same.new bV
 have bm:upd H9 l3 (.lst (gG zs++[.ref cx])) l3=some (.lst (gG (zs++[(.ref cx,x,ku)]))):=by
  rw[gh];unfold gG;rw[Q0b];rfl
 generalize upd H9 l3 (.lst (gG zs++[.ref cx]))=aK at a7 bm;have ay:=bj.trans a7;have bn:gP b Pn H2 aK:=k6.trans (Kp.of ay);have aV:Tu H2 aK:=bn.tu aB a1
 have aW:ZL aK (zs++[(.ref cx,x,ku)]):=λz hz=>by
  rcases List.mem_append.mp hz with e|e
  . exact hZ.mono aV z e
  . rw[List.mem_singleton.mp e];exact⟨cx,u,rfl,a7 _ _ bU,KA.mono (Tu.of ay) _ bQ⟩
 have aX:=bS.same ay;have bv:=ay _ _ bP;have aH:=aV _ _ av;obtain⟨b1,bw⟩:=aX.tab;refine⟨_,rfl,pk,_,_,_,rfl,rfl,f9.of aH,rfl,_,rfl,pk,_,_,_,rfl,rfl,f9.of aH,rfl,_,rfl,wV (f_.of bm) aW (by rw[Q09];show zs.length+1<=20;omega) aX λrs D aL aE bx ax bW hD=>⟨D,_,rfl,.inl ⟨f_.of hD,λt ht=>⟨oV,λr bo=>?_⟩⟩⟩⟩;have bp:Same aL (upd aL t (.tup (gG rs))):=Same.new ht;have bq:=gh (H:=aL) (a:=t) (o:=.tup (gG rs));generalize upd aL t (.tup (gG rs))=aM at bp bq bo;have a8:Same aM (upd aM r (.tup [.str "rows",.str key,.str by_,.ref t])):=Same.new bo;have br:=gh (H:=aM) (a:=r) (o:=.tup [.str "rows",.str key,.str by_,.ref t]);generalize upd aM r (.tup [.str "rows",.str key,.str by_,.ref t])=a9 at a8 br;have az:=bp.trans a8;have bz:Tu aK a9:=λc xs h=>az _ _ (aE c _ (gR h bw (by intro z;cases z)) h);have bA:ZL a9 rs:=λz hz=>aW.mono bz z (ax.mem_iff.mp hz)
 have bX:(gT (zs++[(.ref cx,x,ku)])).Nodup:=by
  have h1:=aC.1;rw[kJ] at h1;unfold gT at h1 a6 ⊢;rw[Q0b];refine List.nodup_append.mpr ⟨h1,List.nodup_cons.mpr ⟨λz=>(nomatch z),Q0o⟩,λy hy z hz e=>a6 ?_⟩;have ez:z=x:=List.mem_singleton.mp hz;rw[<-ez,<-e];exact hy
 have aP:(gT rs).Nodup:=(ax.map (λz:Zd=>z.2.1)).nodup_iff.mpr bX;have bt:∀z∈zs,z∈rs:=λz hz=>ax.mem_iff.mpr (Q0t _ hz);refine q r t key by_ rs (n2+2) a9 ?_ (bx.same az) (az _ _ (aE b _ (Ne.symm bD) (by rw[bv];congr 4;omega))) (by omega) (by omega) br (a8 _ _ bq) bA ?_ ?_ bW aA.2 ⟨x,λe=>a6 (by rw[e];exact bJ),ku,?_,bR⟩
 . exact((SB.gX sb).trans bn).trans (λc o hc e=>az _ _ (aE c o (λz=>hc (.inr z)) e))
 . unfold Kd.W at hW ⊢;refine⟨by rw[kJ];exact aP,?_,uC.mpr λz hz=>?_,FR aP bt hW.2.2.2.1,hW.2.2.2.2.imp id (FR aP bt)⟩
   . rw[kJ,mz,ax.length_eq,Q09];show zs.length+1<=12;omega
   . rcases List.mem_append.mp (ax.mem_iff.mp hz) with e|e
     . exact uC.mp hW.2.2.1 z e
     . rw[List.mem_singleton.mp e];exact⟨aZ,bM⟩
 . refine xq.mpr λz hz=>?_;rcases List.mem_append.mp (ax.mem_iff.mp hz) with e|e
   . exact xq.mp aQ z e
   . rw[List.mem_singleton.mp e];show ku.dep<=2;omega
 . exact rM aP (z:=(.ref cx,x,ku)) (ax.mem_iff.mpr (Q08 _ Q02))
structure lH (H:Hp) (x:Str) (ms:List Ds) (kl:List Key) (G:Addr) (LS:List (Key × Addr)) (H':Hp):Prop where
 same:Same H H'
 g:H' G=some (.dK (LS.map λq=>(q.1,V.ref q.2)))
 g0:H G=none
 ks:LS.map (·.1)=kl
 kn:kl.Nodup
 nd:(LS.map (·.2)).Nodup
 new:∀q∈LS,H q.2=none/\q.2≠G
 at_:∀q∈LS,∃ws fl,H' q.2=some (.lst ws)/\gu H' ws (iC x ms q.1) fl/\∀c∈fl.flatten,c ∉ LS.map (·.2)/\c≠G
theorem lH.sm {H H' H2:Hp}{x:Str}{ms:List Ds}{I:List Key}{G:Addr}{J:List (Key × Addr)}(h:lH H x ms I G J H')(s:Same H' H2):lH H x ms I G J H2:=
 ⟨h.same.trans s,s _ _ h.g,h.g0,h.ks,h.kn,h.nd,h.new,λq L=>let⟨U,Y,h1,h2,h3⟩:=h.at_ q L;⟨U,Y,s _ _ h1,h2.sm s,h3⟩⟩
theorem qr {k:Key}:∀{I:List (Key × Addr)},(I.map (·.1)).Nodup->∀{a:Addr},(k,a)∈I->iw (I.map λq=>(q.1,V.ref q.2)) k=some (.ref a)
 |[],_,_,h=>nomatch h
 |q::r,nd,a,h=>by
  have nd:(q.1::r.map (·.1)).Nodup:=nd;obtain⟨J,L⟩:=List.nodup_cons.mp nd;show iw ((q.1,V.ref q.2)::r.map λq=>(q.1,V.ref q.2)) k=_;rcases List.mem_cons.mp h with e|e
  . rw[<-e,nv rfl]
  . rw[oI λz=>J (by show q.1∈_;rw[show q.1=k from z];exact Q0y (f:=λq:Key × Addr=>q.1) e),qr L e]
theorem FW {x:Str}{ms:List Ds}{m:Ds}{v:Key}(h:keyOf m x=v):iC x (ms++[m]) v=iC x ms v++[m.del x]:=by
 unfold iC;rw[Q24,Q0b,Q11,if_pos (show jv x v m=true from decide_eq_true h)];rfl
theorem FX {x:Str}{ms:List Ds}{m:Ds}{v:Key}(h:keyOf m x≠v):iC x (ms++[m]) v=iC x ms v:=by
 unfold iC;rw[Q24,Q0b,Q11,if_neg (show ¬jv x v m=true from λz=>h (of_decide_eq_true z))];exact Q1a _
theorem lH.add {H H' H2:Hp}{x:Str}{ms:List Ds}{kl:List Key}{G L p:Addr}{LS:List (Key × Addr)}{m:Ds}{kvs:List (Key × V)}{fq:List Addr}{ws:List V}(h:lH H x ms kl G LS H')(hq:(keyOf m x,L)∈LS)(hO:gj H kvs m fq)(s:Same H' H2)(I:H' p=none)(hp:H2 p=some (.dK (jK kvs (Sum.inr x))))(hL:H2 L=some (.lst ws)):
 lH H x (ms++[m]) kl G LS (upd H2 L (.lst (ws++[.ref p]))):=by
 have hi:=h.sm s;have af:=(h.new _ hq).1;have ag:=(h.new _ hq).2
 have sH:Same H (upd H2 L (.lst (ws++[.ref p]))):=λc o e=>by
  rw[d_ λz=>by rw[z,af] at e;cases e];exact hi.same _ _ e
 have ah:p≠L:=λz=>by
  obtain⟨w1,f1,U,_⟩:=h.at_ _ hq;rw[z] at I;rw[U] at I;cases I
 have tu:Tu H2 (upd H2 L (.lst (ws++[.ref p]))):=λc xs e=>by rw[d_ (gR e hL (by intro z;cases z))];exact e
 refine⟨sH,by rw[d_ (Ne.symm ag)];exact hi.g,h.g0,h.ks,h.kn,h.nd,h.new,λY aa=>?_⟩
 . obtain⟨w1,f1,U,r1,n1⟩:=hi.at_ Y aa
   have ac:gu (upd H2 L (.lst (ws++[.ref p]))) w1 (iC x ms Y.1) f1:=gu.keep tu r1 λc hc o e=>by
    rw[d_ λz=>(n1 c hc).1 (by rw[z];exact Q0y (f:=λq:Key × Addr=>q.2) hq)];exact e
   by_cases c:Y.1=keyOf m x
   . have eq:Y=(keyOf m x,L):=by
      have hk:(LS.map (·.1)).Nodup:=by rw[h.ks];exact h.kn
      have v1:=qr hk (a:=Y.2) (k:=Y.1) aa;rw[c,qr hk hq] at v1;have:L=Y.2:=V.ref.inj (Option.some.inj v1);exact Prod.ext c this.symm
     subst eq;rw[hL] at U
     cases U;rw[FW rfl];obtain⟨J,ai,ae⟩:=gj.del (x:=x) hO
     have hn:Own (upd H2 L (.lst (ws++[.ref p]))) (.ref p) (.dct (m.del x)) (p::J):=by
      unfold Own;exact⟨p,_,J,rfl,by rw[d_ ah];exact hp,rfl,gj.same sH ai⟩
     refine⟨_,f1++[p::J],gh,gu.app (.cons hn .nil) ac,λd hd=>?_⟩;rw[Q14] at hd;rcases List.mem_append.mp hd with e|e
     . exact n1 d e
     . have e:d∈p::J:=by simpa using e
       rcases List.mem_cons.mp e with z|z
       . rw[z];refine⟨λy=>?_,λy=>?_⟩
         . obtain⟨q2,ab,e2⟩:=List.mem_map.mp y;obtain⟨w2,f2,e3,_⟩:=h.at_ q2 ab;rw[e2,I] at e3;cases e3
         . rw[y,h.g] at I;cases I
       . obtain⟨o,ho⟩:∃o,H d=some o:=by
          rcases gj.alive _ hO d (ae.subset z) with⟨_,q⟩|⟨_,q⟩ <;> exact⟨_,q⟩
         refine⟨λy=>?_,λy=>by rw[y,h.g0] at ho;cases ho⟩;obtain⟨q2,ab,e2⟩:=List.mem_map.mp y;rw[<-e2,(h.new q2 ab).1] at ho;cases ho
   . rw[FX λz=>c z.symm];refine⟨w1,f1,?_,ac,n1⟩;rw[d_ λz=>?_]
     . exact U
     . have:=List.pairwise_map.mp h.nd;obtain⟨i,aj,ei⟩:=Q10 aa;obtain⟨j,ak,ej⟩:=Q10 hq
       have al:i=j:=by
        have U:(LS.map (·.2))[i]'(by rw[Q0];exact aj)=(LS.map (·.2))[j]'(by rw[Q0];exact ak):=by
         rw[Q1z,Q1z,ei,ej];exact z
        exact(Q1k h.nd).mp U
       subst al;rw[ei] at ej;exact c (by rw[ej])
theorem lH.new1 {H H':Hp}{x:Str}{ms:List Ds}{kl:List Key}{G e:Addr}{L:List (Key × Addr)}{v:Key}(h:lH H x ms kl G L H')(hv:v ∉ kl)(aa:iC x ms v=[])(J:H' e=none):
 lH H x ms (kl++[v]) G (L++[(v,e)]) (upd (upd H' e (.lst [])) G (.dK ((L++[(v,e)]).map λq=>(q.1,V.ref q.2)))):=by
 have Y:e≠G:=λz=>by rw[z,h.g] at J;cases J
 have keep:∀c o,c≠G->H' c=some o->upd (upd H' e (.lst [])) G (.dK ((L++[(v,e)]).map λq=>(q.1,V.ref q.2))) c=some o:=λc o hc z=>by
  rw[d_ hc,d_ (gz z J)];exact z
 have ab:H e=none:=by
  cases z:H e with
  |none=>rfl
  |some o=>rw[h.same _ _ z] at J;cases J
 have ac:e ∉ L.map (·.2):=λz=>by
  obtain⟨q,U,eq⟩:=List.mem_map.mp z;obtain⟨ws,fl,h1,_⟩:=h.at_ q U;rw[eq,J] at h1;cases h1
 have tu:Tu H' (upd (upd H' e (.lst [])) G (.dK ((L++[(v,e)]).map λq=>(q.1,V.ref q.2)))):=λc xs z=>keep c _ (gR z h.g (by intro y;cases y)) z;have I:∀{α:Type} (a:α),[a].Nodup:=λa=>List.nodup_cons.mpr ⟨λz=>(nomatch z),Q0o⟩;refine⟨λc o z=>keep c o (λy=>by rw[y,h.g0] at z;cases z) (h.same _ _ z),gh,h.g0,by rw[Q0b,h.ks];rfl,?_,?_,λq U=>?_,λq U=>?_⟩
 . exact List.nodup_append.mpr ⟨h.kn,I v,λa ha b hb e=>hv (by rw[<-List.mem_singleton.mp hb,<-e];exact ha)⟩
 . rw[Q0b]
   exact List.nodup_append.mpr ⟨h.nd,I e,λa ha b hb z=>ac (by
    have eb:b=e:=List.mem_singleton.mp hb;rw[<-eb,<-z];exact ha)⟩
 . rcases List.mem_append.mp U with z|z
   . exact h.new q z
   . rw[List.mem_singleton.mp z];exact⟨ab,Y⟩
 . rcases List.mem_append.mp U with z|z
   . obtain⟨ws,fl,h1,h2,h3⟩:=h.at_ q z;refine⟨ws,fl,keep _ _ (h.new q z).2 h1,gu.keep tu h2 λc hc o y=>keep c o (h3 c hc).2 y,λc hc=>⟨?_,(h3 c hc).2⟩⟩;rw[Q0b];intro y;rcases List.mem_append.mp y with y|y
     . exact(h3 c hc).1 y
     . have ec:c=e:=List.mem_singleton.mp y;rcases gu.mu h2 c hc with⟨_,q⟩|⟨_,q⟩ <;> rw[ec,J] at q <;> cases q
   . rw[List.mem_singleton.mp z];exact⟨[],[],by rw[d_ Y];exact gh,by rw[aa];exact .nil,λc hc=>nomatch hc⟩
def FY (C:Addr):Sp:=λvs H Q _=>∃v dx x y Y D J ms fl fs,vs=[.ref v,Y,.ref D]/\nZ H C v dx x y/\x≠y/\H D=some (.lst J)/\gu H J ms fl/\J.length<=30/\(∀m∈ms,gU fs m)/\fs.names.Nodup/\fs.names.length<=12/\fs.pl x/\
 ∀ks L I U H',GV x ms ks->Same H H'->H L=none->H' L=some (.lst I)->gu H' I (iT x y ms ks) U->Q (.ref L) H'
theorem FZ {I:List Key}{k:Key}(h:k∈I):jh I k=I:=by unfold jh;rw[if_pos h]
theorem F0 {I:List Key}{k:Key}(h:k ∉ I):jh I k=I++[k]:=by unfold jh;rw[if_neg h]
theorem Nv {x:Str}{ms:List Ds}{v:Key}(h:v ∉ ms.map λm=>keyOf m x):iC x ms v=[]:=by
 unfold iC;rw[List.map_eq_nil_iff,List.filter_eq_nil_iff];exact λm I e=>h (by rw[<-xh e];exact Q0y (f:=λm=>keyOf m x) I)
theorem F1 {r t:Str}{a b:V}(h:r≠t):pK [] [(Sum.inr r,a),(Sum.inr t,b)]=[(Sum.inr r,a),(Sum.inr t,b)]:=by
 show putK (putK [] (Sum.inr r) a) (Sum.inr t) b=_;have I:putK ([]:List (Key × V)) (Sum.inr r) a=[(Sum.inr r,a)]:=rfl;rw[I];unfold putK;rw[if_neg]
 . rfl
 . simp[h]
section
variable {P:Program}{w:World}{K:W.Frag}{mg:Str->Option Value}{base:Heap}
variable {C:Addr}
theorem Nw:gQ ["self","kind","source","groups","row"] Xo (gp (h8 30 2)):=g_
theorem Ny (T:Tb mg)(OF:o8 K mg C ak am I au ar an)(ab:Dm K "see" "Group.see" tU (h8 30 2) I ac)(ag:Dn K mg "rest_of" nK (top 27) ah ai)(aj:gc P w K mg base gf (2) ah ai nK (Fl K)):gc P w K mg base gf (3) I ac tU (FY C):=by
 refine ab.F.ok Nw λvs H Q E h=>?_;obtain⟨v,dx,x,y,kv,D,ws,ms,fl,fs,rfl,hV,aW,hD,hR,a8,hF,aX,aY,aJ,q⟩:=h;refine⟨rfl,λa9 A outer s nd hr hu=>?_⟩
 refine⟨_,(e_ (v8 3 nd pJ)
  (e_ (jk PassesOwn.never rfl (kP (pv 2)) (gY (i:=4) nd rfl iG) (gi (kh (lg PySem.F.plainAttrs_list PySem.F.slot_list_append PySem.F.type_list_append mi (lg PySem.F.plainAttrs_dict PySem.F.slot_dict_setdefault PySem.F.type_dict_setdefault Mg (pv 3) (a_ (i6 hu (pv 4) (jJ (pv 0) rfl) (λ_ _=>rfl)) (a_ (iV b_) b_))) (a_ (gv aj hr ag (a_ (pv 4) (a_ (iV (a_ (jJ (pv 0) rfl) b_)) b_))) b_)))))
  (gi (gw (kT (g:=(iH 0)) (tt:=mK) (te:=(Cv [((uZ K (gJ 1) "field"),(gJ 0)),((uZ K (gJ 1) "into"),(vh (gJ 4) (gJ 0)))])) (own:=["value"]) rfl (jE (N:=["self","kind","source","groups","row"]) (sc:=gp (h8 30 2))) (kP (ij (Mn rfl) (by rfl) T.mw boot_sorted (a_ (pv 3) b_))) (λ_ _ _ _ _=>(gY (i:=0) (show(["value","self","kind","source","groups","row"]:List Str).Nodup by decide +kernel) rfl (Or.inl rfl) (.inr rfl))) (λ_ _ _ _ _=>oJ) (λ_ _ _ _ _=>(Cw (sP (jJ (pv 1) rfl) (pv 0) (sP (jJ (pv 1) rfl) (i6 hu (pv 4) (pv 0) (λ_ _=>rfl)) Cs)) rfl rfl (by simp) (by decide)))))))),?_⟩
 ac_rfl
 obtain⟨aQ,a7⟩:=A3.len hR;intro G hG;have s0:Same H (upd H G (.dK [])):=Same.new hG;refine⟨_,rfl,D,rfl,⟨_,f_.of (s0 _ _ hD)⟩,oB (xs:=ws) (λi σ H'=>∃z LS,σ=[some (.ref v),some kv,some (.ref D),some (.ref G),z]/\lH H x (ms.take i) (iS ((ms.take i).map λm=>keyOf m x)) G LS H') ⟨_,[],rfl,s0,gh,hG,rfl,Q0o,Q0o,λq hq=>(nomatch hq),λq hq=>(nomatch hq)⟩ ?_ ?_ ?_⟩
 . rintro i σ H' _ ⟨z,LS,rfl,U⟩;exact f_.of (U.same _ _ hD)
 . rintro i xv σ H' hx ⟨z,LS,rfl,U⟩;have ho:=hR.row hx;obtain⟨m,f,hm,ho⟩:=ho;have aB:=Q0j hm;obtain⟨rr,aZ,gk⟩:=ua ho (hF m aB).p aJ;subst aZ;unfold Own at ho;obtain⟨ba,kvs,fq,e,aK,_,hO⟩:=ho
   cases e
   have av:(kvs.map (·.1)).Nodup:=by
    rw[gj.keys m hO,(hF m aB).names];exact Eu aX
   have a1:kvs.length<=12:=by rw[gj.len hO,(hF m aB).names];exact aY
   have aw:ms.take (i+1)=ms.take i++[m]:=take_add hm
   have aL:LS.length<=30:=by
    have e1:=congrArg List.length U.ks;have e2:=qi ((ms.take i).map λm=>keyOf m x);rw[Q0] at e1 e2;rw[Q0l] at e2;omega
   dsimp only[iH];refine⟨_,rfl,.inr (.inr (.inl ⟨rfl,.inl ⟨_,U.g⟩⟩)),_,rfl,_,rfl,v,C,dx,_,_,rfl,U.same _ _ hV,OF.ct,OF.nf,rfl,rr,_,rfl,gk _ U.same,mR,λe he=>?_⟩;have se:Same H' (upd H' e (.lst [])):=Same.new he;refine⟨G,_,keyOf m x,.ref e,rfl,rfl,se _ _ U.g,by rw[Q0];exact iF (by omega),λu aC=>?_,λhn=>?_⟩
   . have ax:keyOf m x∈LS.map (·.1):=by
      have:=qV aC;rw[Q0z] at this;exact this
     obtain⟨q1,Y,aa⟩:=List.mem_map.mp ax;obtain⟨k1,L⟩:=q1;have aa:k1=keyOf m x:=aa;subst aa;have ek:jh (iS ((ms.take i).map λm=>keyOf m x)) (keyOf m x)=iS ((ms.take i).map λm=>keyOf m x):=FZ (by rw[<-U.ks];exact ax);rw[qr (by rw[U.ks];exact U.kn) Y] at aC
     cases aC;have J:=U.sm se;have hex:=J.at_ _ Y;generalize upd H' e (.lst [])=H1 at J hex se;obtain⟨w1,f1,ae,al,_⟩:=hex;generalize a2:LS=ao at *;refine⟨.inl ⟨rfl,_,f_.of ae⟩,_,rfl,_,rfl,v,C,dx,_,_,rfl,J.same _ _ hV,OF.ct,OF.nf,rfl,jR,λl hl=>?_⟩;have s2:=Same.new (o:=.lst [.str x]) hl;have g2:=gh (H:=H1) (a:=l) (o:=.lst [.str x]);generalize upd H1 l (.lst [.str x])=H2 at s2 g2;refine⟨rr,l,x,kvs,rfl,(J.same.trans s2) _ _ aK,av,by omega,g2,λp H3 s3 ap hp=>?_⟩;have af:=s2.trans s3
     have aD:H1 p=none:=by
      cases z:H1 p with
      |none=>rfl
      |some o=>rw[s2 _ _ z] at ap;cases ap
     refine⟨L,_,_,rfl,rfl,af _ _ ae,?_,?_⟩
     . have a3:_=(iC x (ms.take i) (keyOf m x)).length:=(A3.len al).1
       have:(iC x (ms.take i) (keyOf m x)).length<=i:=by
        unfold iC;rw[Q0];exact Q0d (Q1 _ _) (by rw[Q0l];omega)
       have aT:i<ws.length:=(List.getElem?_eq_some_iff.mp hx).1;exact iF (by omega)
     . refine⟨_,ao,rfl,?_⟩;rw[aw,Q0b];show lH H x (ms.take i++[m]) (iS (_++[keyOf m x])) G ao _;rw[w6,ek];exact J.add Y hO af aD hp (af _ _ ae)
   . have aU:keyOf m x ∉ LS.map (·.1):=λz=>by
      obtain⟨q1,Y,aa⟩:=List.mem_map.mp z;obtain⟨k1,L⟩:=q1;have aa:k1=keyOf m x:=aa;subst aa;rw[qr (by rw[U.ks];exact U.kn) Y] at hn
      cases hn
     have aq:keyOf m x ∉ iS ((ms.take i).map λm=>keyOf m x):=by rw[<-U.ks];exact aU
     have ek:jh (iS ((ms.take i).map λm=>keyOf m x)) (keyOf m x)=iS ((ms.take i).map λm=>keyOf m x)++[keyOf m x]:=F0 aq;have J:=U.new1 aq (Nv λz=>aq (uz.mpr z)) he;rw[nH hn];have ep:(LS.map λq=>(q.1,V.ref q.2))++[(keyOf m x,V.ref e)]=(LS++[(keyOf m x,e)]).map λq=>(q.1,V.ref q.2):=by rw[Q0b];rfl
     rw[ep];have Y:(keyOf m x,e)∈LS++[(keyOf m x,e)]:=Q08 _ Q02;have hex:=J.at_ _ Y;generalize upd (upd H' e (.lst [])) G (.dK ((LS++[(keyOf m x,e)]).map λq=>(q.1,V.ref q.2)))=H1 at J hex;obtain⟨w1,f1,ae,al,_⟩:=hex;generalize a2:LS++[(keyOf m x,e)]=ao at *;generalize hL:e=L at *;refine⟨.inl ⟨rfl,_,f_.of ae⟩,_,rfl,_,rfl,v,C,dx,_,_,rfl,J.same _ _ hV,OF.ct,OF.nf,rfl,jR,λl hl=>?_⟩;have s2:=Same.new (o:=.lst [.str x]) hl;have g2:=gh (H:=H1) (a:=l) (o:=.lst [.str x]);generalize upd H1 l (.lst [.str x])=H2 at s2 g2;refine⟨rr,l,x,kvs,rfl,(J.same.trans s2) _ _ aK,av,by omega,g2,λp H3 s3 ap hp=>?_⟩;have af:=s2.trans s3
     have aD:H1 p=none:=by
      cases z:H1 p with
      |none=>rfl
      |some o=>rw[s2 _ _ z] at ap;cases ap
     refine⟨L,_,_,rfl,rfl,af _ _ ae,?_,?_⟩
     . have a3:_=(iC x (ms.take i) (keyOf m x)).length:=(A3.len al).1
       have:(iC x (ms.take i) (keyOf m x)).length<=i:=by
        unfold iC;rw[Q0];exact Q0d (Q1 _ _) (by rw[Q0l];omega)
       have aT:i<ws.length:=(List.getElem?_eq_some_iff.mp hx).1;exact iF (by omega)
     . refine⟨_,ao,rfl,?_⟩;rw[aw,Q0b];show lH H x (ms.take i++[m]) (iS (_++[keyOf m x])) G ao _;rw[w6,ek];exact J.add Y hO af aD hp (af _ _ ae)
 . rintro σ H' ⟨z,LS,rfl,U⟩;rw[aQ,Q0p] at U
   have aM:(LS.map λq=>(q.1,V.ref q.2)).map (·.1)=iS (ms.map λm=>keyOf m x):=by
    rw[Q0z,<-U.ks];rfl
   have aL:LS.length<=30:=by
    have e1:=congrArg List.length U.ks;have e2:=qi (ms.map λm=>keyOf m x);rw[Q0] at e1 e2;omega
   have a4:∀k∈iS (ms.map λm=>keyOf m x),jo (fs.get x) k:=λk hk=>by
    obtain⟨m,hm,rfl⟩:=List.mem_map.mp (uz.mp hk);exact jo.of (hF m hm) aJ
   refine⟨_,rfl,G,_,rfl,U.g,by rw[aM];exact w_ a4,by rw[Q0];omega,λS ks hS ay a5=>?_⟩;rw[aM] at ay;have hg:GV x ms ks:=⟨ay,a5⟩;have s1:Same H' (upd H' S (.lst (ks.map kV))):=Same.new hS;have gS:=gh (H:=H') (a:=S) (o:=.lst (ks.map kV));have J:=U.sm s1;generalize upd H' S (.lst (ks.map kV))=H1 at s1 gS J
   have a1:ks.length<=30:=by
    rw[ay.length_eq,<-U.ks,Q0];exact aL
   refine⟨S,rfl,⟨_,f_.of gS⟩,λi n zs H2=>n=ks.length - i/\i<=ks.length/\Same H1 H2/\∃az,gu H2 zs (iT x y ms (ks.take i)) az,⟨ks.length,rfl,Q0g _,Same.refl _,[],.nil⟩,?_⟩;rintro i n zs H2 ⟨rfl,bb,s2,az,aA⟩
   have bc:zs.length<=i:=by
    have:=(A3.len aA).1;unfold iT at this;rw[Q0,Q0l] at this;omega
   by_cases hi:i<ks.length
   . have hk:ks[i]? =some ks[i]:=Q03 hi;refine .inr ⟨⟨_,kV ks[i],f_.of (s2 _ _ gS),by rw[Q0h,hk];rfl⟩,iF (by omega),λxv H3 yy=>?_⟩;obtain⟨rfl,yy⟩:=yy;have yy:=yy _ (f_.of (s2 _ _ gS));rw[Q0h,hk] at yy
     cases yy;have aP:=J.sm s2;have ax:ks[i]∈LS.map (·.1):=by rw[U.ks,<-ay.mem_iff];exact Q0r hi
     obtain⟨q1,Y,aa⟩:=List.mem_map.mp ax;refine⟨rfl,yes (i_ ?_)⟩;intro p hp;have s3:Same H3 (upd H3 p (.dK [])):=Same.new hp;have g3:=gh (H:=H3) (a:=p) (o:=.dK []);have a6:∀c o,H3 c=some o->c≠p:=λc o e=>gz e hp;have aE:=aP.sm s3;have av:(LS.map (·.1)).Nodup:=by rw[U.ks];exact U.kn
     have gd:il (upd H3 p (.dK [])) G (kV ks[i]) (some (.ref q1.2)):=by
      have:=il.k (k:=ks[i]) aE.g;rw[<-aa,qr av (a:=q1.2) (k:=q1.1) Y] at this;rw[<-aa];exact this
     refine⟨_,rfl,v,C,dx,_,_,rfl,aE.same _ _ hV,OF.ct,OF.nf,rfl,_,rfl,_,rfl,v,C,dx,_,_,rfl,aE.same _ _ hV,OF.ct,OF.ni,rfl,_,rfl,_,rfl,G,_,rfl,gd,g3,[(Sum.inr x,kV ks[i]),(Sum.inr y,.ref q1.2)],rfl,by show 2<=15;decide,?_⟩;rw[F1 aW]
     have s4:Same H3 (upd (upd H3 p (.dK [])) p (.dK [(Sum.inr x,kV ks[i]),(Sum.inr y,.ref q1.2)])):=λc o e=>by
      rw[d_ (a6 c o e)];exact s3 _ _ e
     have g4:=gh (H:=upd H3 p (.dK [])) (a:=p) (o:=.dK [(Sum.inr x,kV ks[i]),(Sum.inr y,.ref q1.2)]);generalize upd (upd H3 p (.dK [])) p (.dK [(Sum.inr x,kV ks[i]),(Sum.inr y,.ref q1.2)])=H4 at s4 g4;obtain⟨w1,f1,ae,al,_⟩:=(aP.sm s4).at_ q1 Y;rw[aa] at al
     have aV:Own H4 (.ref p) (.dct (j_ x y ms ks[i])) (p::([]++((q1.2::f1.flatten)++[]))):=by
      unfold j_ Own;refine⟨p,_,_,rfl,g4,rfl,?_⟩;unfold gj;refine⟨_,_,[],_,rfl,rfl,qc,?_⟩;unfold gj;refine⟨_,_,_,[],rfl,rfl,k8 ae al,?_⟩;unfold gj;exact⟨rfl,rfl⟩
     refine⟨ks.length - (i+1),by omega,rfl,hi,s2.trans s4,az++[p::([]++((q1.2::f1.flatten)++[]))],?_⟩
     have ea:iT x y ms (ks.take (i+1))=iT x y ms (ks.take i)++[j_ x y ms ks[i]]:=by
      unfold iT;rw[Q0q,hk,Q0b];rfl
     rw[ea];exact gu.app (.cons aV .nil) (aA.sm s4)
   . refine .inl ⟨⟨_,f_.of (s2 _ _ gS),by rw[Q0];omega⟩,λD' aH=>?_⟩;have aw:ks.take i=ks:=Q15 (by omega);rw[aw] at aA;have s3:=Same.new (o:=.lst zs) aH;have sf:=(J.same.trans s2);refine q ks D' zs az _ hg (sf.trans s3) ?_ gh (aA.sm s3)
     cases z:H D' with
     |none=>rfl
     |some o=>rw[sf _ _ z] at aH;cases aH
end
structure n0 (H:Hp) (key:Str) (bs:List Ds) (F:Addr) (fk:List (Key × V)) (H':Hp):Prop where
 same:Same H H'
 f0:H F=none
 f:H' F=some (.dK fk)
 ks:fk.map (·.1)=bs.map λm=>keyOf m key
 at_:∃fl,gu H' (fk.map (·.2)) bs fl/\∀c∈fl.flatten,c≠F
theorem n0.sm {H H' H2:Hp}{key:Str}{bs:List Ds}{F:Addr}{I:List (Key × V)}(h:n0 H key bs F I H')(s:Same H' H2):n0 H key bs F I H2:=
 ⟨h.same.trans s,h.f0,s _ _ h.f,h.ks,let⟨J,h1,h2⟩:=h.at_;⟨J,h1.sm s,h2⟩⟩
theorem n0.add {H H' H2:Hp}{key:Str}{bs:List Ds}{F p:Addr}{J kn:List (Key × V)}{I:Ds}{L:List Addr}(h:n0 H key bs F J H')(s:Same H' H2)(U:H' p=none)(hp:H2 p=some (.dK kn))(hO:gj H kn I L):
 n0 H key (bs++[I]) F (J++[(keyOf I key,.ref p)]) (upd H2 F (.dK (J++[(keyOf I key,.ref p)]))):=by
 have hi:=h.sm s;have Y:p≠F:=λz=>by rw[z,h.f] at U;cases U
 have sH:Same H (upd H2 F (.dK (J++[(keyOf I key,.ref p)]))):=λc o e=>by
  rw[d_ λz=>by rw[z,h.f0] at e;cases e];exact hi.same _ _ e
 have tu:Tu H2 (upd H2 F (.dK (J++[(keyOf I key,.ref p)]))):=λc xs e=>by rw[d_ (gR e hi.f (by intro z;cases z))];exact e
 obtain⟨fl,r1,n1⟩:=hi.at_;refine⟨sH,h.f0,gh,by rw[Q0b,Q0b,h.ks];rfl,fl++[p::L],?_,λc hc=>?_⟩
 . rw[Q0b]
   have hn:Own (upd H2 F (.dK (J++[(keyOf I key,.ref p)]))) (.ref p) (.dct I) (p::L):=by
    unfold Own;exact⟨p,_,L,rfl,by rw[d_ Y];exact hp,rfl,gj.same sH hO⟩
   exact gu.app (.cons hn .nil) (gu.keep tu r1 λc hc o e=>by rw[d_ (n1 c hc)];exact e)
 . rw[Q14] at hc;rcases List.mem_append.mp hc with e|e
   . exact n1 c e
   . have e:c∈p::L:=by simpa using e
     rcases List.mem_cons.mp e with z|z
     . rw[z];exact Y
     . intro y;rcases gj.alive _ hO c z with⟨_,q⟩|⟨_,q⟩ <;> rw[y,h.f0] at q <;> cases q
theorem Nz {H:Hp}{u:V}{v:Key}{f:List Addr}(h:Own H u (kD v) f):u=kV v:=by
 cases v <;> (unfold kD Own at h;exact h.1)
theorem NA {H:Hp}{u:V}{x y:Str}{ms:List Ds}{v:Key}{f:List Addr}(h:Own H u (.dct (j_ x y ms v)) f):∃I L J U,u=.ref I/\H I=some (.dK [(Sum.inr x,kV v),(Sum.inr y,.ref L)])/\H L=some (.lst J)/\gD H J (ic (iC x ms v)) U:=by
 unfold j_ Own at h;obtain⟨I,kvs,U,rfl,Y,_,h⟩:=h;unfold gj at h;obtain⟨u1,q1,f1,f2,rfl,_,h1,h⟩:=h;unfold gj at h;obtain⟨u2,q2,f3,f4,rfl,_,h2,h⟩:=h;unfold gj at h;obtain⟨rfl,_⟩:=h;unfold Own at h2;obtain⟨L,J,U,rfl,hL,_,h2⟩:=h2;exact⟨I,L,J,U,rfl,by rw[Y,Nz h1],hL,h2⟩
theorem NB {x:Str}{ms:List Ds}{ks:List Key}{v:Key}:jw x ms (ks++[v])=jw x ms ks++jD x ms v:=by
 unfold jw;rw[Q2r];show _++(jD x ms v++[])=_;rw[Q1a]
theorem NC {x:Str}{ms:List Ds}{ks:List Key}{j:Nat}{v:Key}(h:ks[j]? =some v):∃r,jw x ms ks=jw x ms (ks.take j)++jD x ms v++r:=by
 have e:ks=ks.take j++[v]++ks.drop (j+1):=by
  have:=Q2s (j+1) ks;rw[Q0q,h] at this;exact this.symm
 refine⟨jw x ms (ks.drop (j+1)),?_⟩
 conv=>lhs;rw[e]
 unfold jw;rw[Q2r,Q2r];show _++(jD x ms v++[])++_=_;rw[Q1a]
theorem F3 {x key by_:Str}{ms:List Ds}{ks:List Key}(I:GV x ms ks)(nd:(ms.map λm=>keyOf m key).Nodup):((jw x ms ks).map λm=>keyOf m key).Nodup:=by
 have p:=uA x I.nd (ms:=ms) λm J=>I.mem.mpr ⟨m,J,rfl⟩;rw[rK,Q0z];have e:(ks.flatMap λv=>ms.filter (jv x v)).map ((λm=>keyOf m key) ∘ phi x)=(ks.flatMap λv=>ms.filter (jv x v)).map λm=>keyOf m key:=Q1i λm _=>xa;rw[e];exact(p.map _).nodup_iff.mpr nd
theorem ND {x:Str}{ms:List Ds}{ks:List Key}{b:Ds}(h:b∈jw x ms ks):∃m∈ms,b=phi x m:=by
 rw[rK] at h;obtain⟨m,I,rfl⟩:=List.mem_map.mp h;obtain⟨v,_,h2⟩:=List.mem_flatMap.mp I;exact⟨m,(List.mem_filter.mp h2).1,rfl⟩
theorem NF {x:Str}{ms:List Ds}{ks:List Key}(I:GV x ms ks):(jw x ms ks).length=ms.length:=by
 have p:=uA x I.nd (ms:=ms) λm J=>I.mem.mpr ⟨m,J,rfl⟩;rw[rK,Q0,p.length_eq]
def F4 (n:Nat):Sp:=λvs H Q E=>nU n vs H Q E
structure uD (n:Nat) (C:Addr) (H:Hp) (v dx pk pb:Addr) (key by_ x y:Str) (kx:Kd) (zs:List Zd) (D:Addr) (ws:List V) (ms:List Ds) (ks:List Key) (fl:List (List Addr)):Prop where
 v:nZ H C v dx x y
 k:lD H pk pb key by_ x y kx zs
 a:H D=some (.lst ws)
 r:gu H ws (iT x y ms ks) fl
 g:GV x ms ks
 fit:∀m∈ms,gU (gm zs) m
 l8:ms.Pairwise (kr key by_)
 kn:(ms.map λm=>keyOf m key).Nodup
 len:ms.length<=30
 dep:(Pb.D.lst (ic (iT x y ms ks))).dep<=n
 sm:(Pb.D.lst (ic (iT x y ms ks))).Sm
def F5 (n:Nat) (Pf Pi C:Addr):Sp:=λvs H Q _=>∃v dx pk pb key by_ x y kx zs src D U ms ks Y,vs=[.ref v,.ref pk,src,.ref D]/\uD n C H v dx pk pb key by_ x y kx zs D U ms ks Y/\gy Pf jT jU H/\gy Pi lB lC H/\Pf≠Pi/\
 ∀L I J H',gP Pf Pi H H'->gy Pf jT jU H'->gy Pi lB lC H'->H' L=some (.lst I)->gu H' I (ms.map (phi x)) J->Q (.ref L) H'
section
variable {P:Program}{w:World}{K:W.Frag}{mg:Str->Option Value}{base:Heap}
variable {C Pf Pi:Addr}
theorem NG:gQ ["kind","seen","place"] ["kind","seen"] (gp (top 21)):=g_
theorem NH (n j:Nat)(T:Tb mg)(I:Dn K mg "ask_fit" tV (top 21) J L)(U:Dn K mg "misfit" kE (top 11) Y aa)(ab:gc P w K mg base gf (j) Y aa kE (nU n)):gc P w K mg base gf (j+1) J L tV (F4 n):=by
 refine I.F.ok NG λvs H Q E h=>?_;obtain⟨kv,v,k,d,fp,rfl,hk,hW,hO,hR,hd,ac,q⟩:=h;refine⟨rfl,λae A outer s nd hr hu=>?_⟩
 refine⟨_,(e_ (gA 2 nd (gv ab hr U (a_ (pv 0) (a_ (pv 1) b_))))
  (gi (gF (gE pC (pv 2) jH (gC _)) (gi me) gH))),?_⟩
 ac_rfl
 refine⟨_,rfl,_,rfl,kv,v,k,d,fp,rfl,hk,hW,hO,hR,hd,ac,λH1 s1=>?_⟩;refine⟨_,rfl,rfl,_,rfl,?_⟩;rw[decide_eq_true rfl];exact h9 (q _ s1)
theorem NI:gQ ["self","kind","source","seen","found","number","group","place","row"] Xl (gp (h8 30 3)):=g_
theorem NJ (n j:Nat)(T:Tb mg)(OF:o8 K mg C aw I aA J az ay)(ae:Dm K "put" "Group.put" tW (h8 30 3) J af)(ap:Dn K mg "ask_fit" tV (top 21) aq ar)(au:gc P w K mg base gf (j) aq ar tV (F4 n))(Y:Dm K "behind" "Group.behind" p0 (h8 30 1) I aa)(ab:gc P w K mg base gf (10) I aa p0 (xp Pf C))(ag:Dn K mg "with_field" tL (top 28) ah ai)(aj:gc P w K mg base gf (1) ah ai tL (Fm))(al:Dn K mg "in_order" mx (top 19) am an)(ao:gc P w K mg base gf (8) am an mx (uh Pi lB lC))(hj:10<=j):gc P w K mg base gf (j+1) J af tW (F5 n Pf Pi C):=by
 have CT:=OF.ct;have av:=OF.b;refine ae.F.ok NI λvs H Q E h=>?_;obtain⟨v,dx,pk,pb,key,by_,x,y,kx,zs,src,D,ws,ms,ks,fl,rfl,X,aP,bw,a1,q⟩:=h;refine⟨rfl,λbZ A outer s nd hr hu=>?_⟩
 refine⟨_,(e_ (kh (gv au hr ap (a_ (qM (pv 0) CT av ab (hr.mono (by omega)) Y.b .nil lh (a_ (pv 1) b_)) (a_ (pv 3) b_))))
  (e_ (gA 4 nd pJ)
  (e_ (jk PassesOwn.never rfl (sR rfl T.tJ (a_ (pv 3) b_)) (lU rfl (ji (gY (i:=5) nd rfl iG) (ji (gY (i:=6) nd rfl iG) lQ))) (e_ (gF (gE iu (ij jr (by rfl) T.ja PySem.boot_len (a_ (i6 hu (pv 6) (jJ (pv 0) rfl) (λ_ _=>rfl)) b_)) c_ (gC _)) (gi me) gH)
  (gi (jk PassesOwn.never rfl (sR rfl T.tJ (a_ (i6 hu (pv 6) (jJ (pv 0) rfl) (λ_ _=>rfl)) b_)) (lU rfl (ji (gY (i:=7) nd rfl iG) (ji (gY (i:=8) nd rfl iG) lQ))) (e_ (gF (r8 (vi hu (i6 hu (pv 8) (gq (pv 1) c_) (λ_ _=>rfl)) (pv 4)) (by with_unfolding_all rfl)) (gi me) gH)
  (gi (mJ hu (pv 4) (i6 hu (pv 8) (gq (pv 1) c_) (λ_ _=>rfl)) (gv aj hr ag (a_ (pv 8) (a_ (jJ (pv 0) rfl) (a_ (i6 hu (pv 6) (jJ (pv 0) rfl) (λ_ _=>rfl)) b_)))) rfl)))))))
  (gi (gw (gv ao hr al (a_ (pv 1) (a_ (lW (Mj rfl) (by rfl) T.pX boot_list (a_ (IS PySem.F.plainAttrs_dict PySem.F.slot_dict_values PySem.F.type_dict_values Mi (pv 4)) b_)) b_)))))))),?_⟩
 ac_rfl
 obtain⟨bx,bz,bA,aH,bB⟩:=X.k.w5;have bC:(gm zs).pl x:=⟨kx,X.k.gx,X.k.px⟩;refine⟨_,rfl,v,dx,_,rfl,X.v,rfl,_,rfl,v,dx,pk,pb,key,by_,x,y,kx,zs,rfl,X.v,X.k,aP,λqk H1 aB a2 a3=>?_⟩;have ax:Kn H H1:=Kn.o4 aB aP;have a4:=ax _ _ (by intro ps z;cases z) X.v;have aQ:=X.k.mono ax.tu;have aT:=ax.lst X.a;have hX:=X.r.kn ax;obtain⟨pf,bD⟩:=aP.tab;have aJ:gy Pi lB lC H1:=bw.o4 aB bD a1;have aZ:kx.W:=by have:=X.k.px;cases kx <;> first|(unfold Kd.W;trivial)|exact this.elim
 have wi:(xn key by_ x y kx (gm zs)).W:=FC X.k.xy (qo bA X.k.gx) X.k.y0 aZ (xg X.k.W X.k.ne) X.k.px;refine⟨_,rfl,.ref qk,.ref D,_,_,_,rfl,a3.ka X.k.px aQ.z,wi,k8 aT hX,xj X.k.ne X.k.xy X.k.gx X.k.px X.g X.fit X.l8 X.kn,X.dep,X.sm,λH2 s2=>?_⟩;have b1:Kn H H2:=ax.trans (Kn.of s2);have aC:=s2 _ _ a4;have aU:=aQ.mono (Tu.of s2);have a5:=s2 _ _ aT;have a6:=hX.sm s2;have br:=a2.same s2;have aK:=aJ.same s2;have bE:lA Pf H H2:=aB.trans (Kp.of s2);clear a4 aQ aT hX a3 ax a2 aJ s2 aB;intro F hF;have s0:Same H2 (upd H2 F (.dK [])):=Same.new hF
 have aL:ws.length=ks.length:=by
  have:=(A3.len a6).1;unfold iT at this;rw[Q0] at this;exact this
 have b2:ks.length<=30:=by
  have e2:=qi (ms.map λm=>keyOf m x);rw[Q0] at e2;have:=X.len;rw[X.g.1.length_eq];omega
 have bF:=NF X.g;have b3:=X.len;refine⟨_,rfl,D,rfl,⟨_,f_.of (s0 _ _ a5)⟩,uk (xs:=ws) (λj σ H'=>∃a b c d fk,σ=[some (.ref v),some (.ref pk),some src,some (.ref D),some (.ref F),a,b,c,d]/\n0 H2 key (jw x ms (ks.take j)) F fk H') ⟨_,_,_,_,[],rfl,s0,hF,gh,rfl,[],.nil,λc hc=>(nomatch hc)⟩ ?_ ?_ ?_⟩
 . intro j' σ H' _ zq;obtain⟨a,b,c,d,fk,rfl,fi⟩:=zq;exact f_.of (fi.same _ _ a5)
 . rintro jj xv σ H' t hx ⟨_,_,_,_,fk,rfl,fi⟩ ht;have bG:jj<ks.length:=by rw[<-aL];exact(List.getElem?_eq_some_iff.mp hx).1
   have aD:ks[jj]? =some ks[jj]:=Q03 bG;obtain⟨bH,f',aV,bI⟩:=a6.row hx
   have bJ:bH=j_ x y ms ks[jj]:=by
    unfold iT at aV;rw[Q0h,aD] at aV;exact(Option.some.inj aV).symm
   subst bJ;generalize b4:ks[jj]=vv at *;obtain⟨gg,L,wl,fq,rfl,a7,hL,a8⟩:=NA bI;have st:=Same.new (o:=.tup [.int jj,.ref gg]) ht;have ak:=fi.sm st;refine⟨t,_,rfl,f9.of gh,rfl,_,_,rfl,_,_,rfl,rfl,?_⟩;generalize upd H' t (.tup [.int jj,.ref gg])=H3 at st ak
   have a9:∀H4,Same H2 H4->il H4 gg (.str y) (some (.ref L)):=λH4 s4=>by
    have:=il.k (k:=Sum.inr y) (s4 _ _ a7);rw[oI (λz=>X.k.xy (Sum.inr.inj z)),nv rfl] at this;exact this
   have bK:∀H4,Same H2 H4->il H4 gg (.str x) (some (kV vv)):=λH4 s4=>by
    have:=il.k (k:=Sum.inr x) (s4 _ _ a7);rw[nv rfl] at this;exact this
   have ba:wl.length=(iC x ms vv).length:=by rw[gD.len _ a8,l4]
   have bL:(jD x ms vv).length=(iC x ms vv).length:=Q0 _
   have b5:(iC x ms vv).length<=ms.length:=by
    unfold iC;rw[Q0];exact Q1 _ _
   have bX:0<wl.length:=by
    rw[ba];obtain⟨m,hm,e⟩:=X.g.mem.mp (Q0j aD);unfold iC;rw[Q0];exact Q2q (List.mem_filter.mpr ⟨hm,decide_eq_true e⟩)
   refine⟨_,rfl,_,rfl,v,C,dx,_,_,rfl,ak.same _ _ aC,OF.ct,OF.ni,rfl,gg,_,rfl,a9 _ ak.same,L,_,rfl,.inl (f_.of (ak.same _ _ hL)),rfl,_,rfl,?_⟩;rw[decide_eq_false λz=>by injection z with z;omega];refine h9 ?_;obtain⟨b6,aM⟩:=NC (x:=x) (ms:=ms) aD;have aW:=F3 (key:=key) (by_:=by_) X.g X.kn;refine⟨_,rfl,_,rfl,v,C,dx,_,_,rfl,ak.same _ _ aC,OF.ct,OF.ni,rfl,gg,_,rfl,a9 _ ak.same,L,rfl,⟨_,f_.of (ak.same _ _ hL)⟩,uk (xs:=wl) (λi σ H'=>∃c d fk,σ=[some (.ref v),some (.ref pk),some src,some (.ref D),some (.ref F),some (.int jj),some (.ref gg),c,d]/\n0 H2 key (jw x ms (ks.take jj)++(jD x ms vv).take i) F fk H') ⟨_,_,fk,rfl,by rw[Q2n,Q1a];exact ak⟩ ?_ ?_ ?_⟩
   . rintro i σ H' _ ⟨c,d,fk,rfl,fi⟩;exact f_.of (fi.same _ _ hL)
   . rintro i rv σ H4 t2 bb ⟨_,_,fk,rfl,U⟩ jS;have hi:i<wl.length:=(List.getElem?_eq_some_iff.mp bb).1;obtain⟨d',f2,bc,bd,_⟩:=gD.get _ a8 bb;rw[ug (by omega)] at bc
     cases bc
     have bM:(iC x ms vv).getD i .nil∈iC x ms vv:=by
      rw[Q05,Q03 (by omega)];exact Q0r _
     have be:(jD x ms vv)[i]? =some (((iC x ms vv).getD i .nil).snoc x (kD vv)):=by
      unfold jD;rw[Q0h,Q05,Q03 (by omega)];rfl
     generalize (iC x ms vv).getD i .nil=m' at *;obtain⟨m,bN,em⟩:=List.mem_map.mp bM;have bf:gU ((gm zs).del x) m':=by rw[<-em];exact(X.fit m (List.mem_filter.mp bN).1).del x
     unfold Own at bd;obtain⟨rr,kvs,b7,rfl,bg,_,hO⟩:=bd;have bt:((gm zs).del x).pl key:=Fs.xc aH X.k.ne
     have gk:∀H5,Same H2 H5->il H5 rr (.str key) (some (kV (keyOf m' key))):=λH5 s5=>by
      have:=il.k (k:=Sum.inr key) (s5 _ _ bg);rw[hO.nO bf.p bt] at this;exact this
     have bO:iw kvs (Sum.inr x)=none:=by
      cases z:iw kvs (Sum.inr x) with
      |none=>rfl
      |some o=>
       have:=qV z;rw[gj.keys m' hO] at this;obtain⟨y',bh,e'⟩:=List.mem_map.mp this
       cases e';rw[<-em] at bh;exact absurd bh (Ds.ue m x)
     have bY:kvs.length<=12:=by
      rw[gj.len hO,bf.names];exact Q0d (Fs.rL x _).length_le bz
     have bi:keyOf (m'.snoc x (kD vv)) key=keyOf m' key:=by
      unfold keyOf;rw[Ds.uB]
      cases m'.get key with
      |some _=>rfl
      |none=>rw[if_neg X.k.ne]
     have bj:fk.length<=60:=by
      have e1:=congrArg List.length U.ks;rw[Q0,Q0,Q09,Q0l] at e1;have e2:=congrArg List.length aM;rw[Q09,Q09] at e2;omega
     have bm:iw fk (keyOf m' key)=none:=by
      cases z:iw fk (keyOf m' key) with
      |none=>rfl
      |some o=>
       have bn:=qV z;rw[U.ks] at bn;rw[aM] at aW
       have eb:jD x ms vv=(jD x ms vv).take i++(m'.snoc x (kD vv)::(jD x ms vv).drop (i+1)):=by
        have:=Q2s (i+1) (jD x ms vv);rw[Q0q,be,Q13] at this;exact this.symm
       rw[eb,<-Q13,Q13,Q0b] at aW;exact absurd bi.symm ((List.nodup_append.mp aW).2.2 _ bn _ (Q0y (f:=λm=>keyOf m key) (Q0t _ Q02)))
     have bo:=Same.new (o:=.tup [.int i,.ref rr]) jS;have ac:=U.sm bo;refine⟨t2,_,rfl,f9.of gh,rfl,_,_,rfl,_,_,rfl,rfl,?_⟩;generalize upd H4 t2 (.tup [.int i,.ref rr])=H5 at bo ac;have bu:=(aU.mono (Tu.of ac.same)).at_;refine⟨_,rfl,_,rfl,pk,_,_,_,rfl,rfl,f9.of bu,rfl,rr,_,rfl,gk _ ac.same,_,rfl,F,_,rfl,il.k ac.f,_,rfl,?_⟩;rw[bm];refine h9 ?_;refine⟨_,rfl,_,rfl,v,C,dx,_,_,rfl,ac.same _ _ aC,OF.ct,OF.nf,rfl,_,rfl,_,rfl,v,C,dx,_,_,rfl,ac.same _ _ aC,OF.ct,OF.nf,rfl,gg,_,rfl,bK _ ac.same,rr,x,kV vv,kvs,rfl,ac.same _ _ bg,by omega,bO,λp H6 s6 bP hp=>?_⟩;have aX:=ac.sm s6;have bv:=(aU.mono (Tu.of aX.same)).at_;refine⟨_,rfl,_,rfl,_,rfl,pk,_,_,_,rfl,rfl,f9.of bv,rfl,rr,_,rfl,gk _ aX.same,F,_,rfl,km.k aX.f (iF (by omega)),?_⟩;rw[nH bm,<-bi];refine⟨_,_,fk++[(keyOf (m'.snoc x (kD vv)) key,.ref p)],rfl,?_⟩
     have et:jw x ms (ks.take jj)++(jD x ms vv).take (i+1)=(jw x ms (ks.take jj)++(jD x ms vv).take i)++[m'.snoc x (kD vv)]:=by
      rw[Q0q,be,Q13];rfl
     rw[et];exact ac.add s6 bP hp (gj.snoc qc _ hO)
   . rintro σ H4 ⟨c,d,fk,rfl,U⟩;refine⟨_,_,_,_,fk,rfl,?_⟩;rw[ba,<-bL,Q0p] at U
     have:jw x ms (ks.take (jj+1))=jw x ms (ks.take jj)++jD x ms vv:=by
      rw[Q0q,aD];exact NB
     rw[this];exact U
 . intro σ H' zq;obtain⟨a,b,c,d,fk,rfl,fi⟩:=zq;rw[aL,Q0p] at fi;refine⟨_,rfl,_,rfl,.inr (.inr (.inl ⟨rfl,.inl ⟨_,fi.f⟩⟩)),F,fk,rfl,rfl,fi.f,λr aE=>?_⟩;have s3:Same H' (upd H' r (rH r F)):=Same.new aE;have g3:=gh (H:=H') (a:=r) (o:=rH r F);have aY:=fi.sm s3;generalize upd H' r (rH r F)=H3 at s3 g3 aY;refine⟨r,F,fk,rfl,g3,aY.f,λl hl=>?_⟩;have s4:Same H3 (upd H3 l (.lst (fk.map (·.2)))):=Same.new hl;have g4:=gh (H:=H3) (a:=l) (o:=.lst (fk.map (·.2)));have U:=aY.sm s4;generalize upd H3 l (.lst (fk.map (·.2)))=H4 at s4 g4 U;obtain⟨bQ,bp,_⟩:=U.at_;have bR:ms.Pairwise (mQ key by_):=X.l8.imp λh=>Dk h
   have bj:(fk.map (·.2)).length<64:=by
    rw[(A3.len bp).1,bF];omega
   refine⟨pk,l,pb,key,by_,gm zs,_,jw x ms ks,bQ,rfl,(aU.mono (Tu.of U.same)).at_,g4,bp,bj,aK.same U.same,λb hb=>?_,aH,bB,F3 (by_:=by_) X.g X.kn,λD' bS bT H5 bq bU _ bV aE _=>?_⟩
   . obtain⟨m,hm,rfl⟩:=ND hb;intro z k hz;obtain⟨e,h1,_,h3⟩:=(FD bx (X.fit m hm) bC).2 z k hz;exact⟨e,h1,h3⟩
   . rw[back_eq X.g bR X.kn] at aE;obtain⟨pi,bW⟩:=(aK.same U.same).tab;refine q D' bS bT H5 (λc o hc e=>bq c o (λz=>hc (.inr z)) (U.same _ _ (bE c o (λz=>hc (.inl z)) e))) ((br.same U.same).o4 bq bW (Ne.symm a1)) bU bV aE
end
def F6:Sp:=λvs H Q _=>∃x y D J ms Y fs,vs=[.str x,.str y,.ref D]/\x≠y/\H D=some (.lst J)/\gu H J ms Y/\J.length<=30/\(∀m∈ms,gU fs m)/\fs.names.Nodup/\fs.names.length<=12/\fs.pl x/\
 ∀ks L I U H',GV x ms ks->Same H H'->H L=none->H' L=some (.lst I)->gu H' I (iT x y ms ks) U->Q (.ref L) H'
theorem NK:gQ XZ Xc (gp (top 57)):=g_
theorem NL (T:Tb mg)(I:Dn K mg "_law_groups" tX (top 57) J U)(Y:Dn K mg "_law_less" tM (top 56) aa ab)(ac:gc P w K mg base gf (1) aa ab tM (Fn)):gc P w K mg base gf (2) J U tX (F6):=by
 refine I.F.ok NK λvs H Q E h=>?_;obtain⟨x,y,D,ws,ms,fl,fs,rfl,aY,hD,hR,bg,hF,bh,bi,an,q⟩:=h;refine⟨rfl,λbj A outer s nd hr hu=>?_⟩
 refine⟨_,(e_ (gA 3 nd (iV b_))
  (e_ (jk PassesOwn.never rfl (kP (pv 2)) (gY (i:=4) nd rfl iG) (gi (gF (gE qO (i6 hu (pv 4) (pv 0) (λ_ _=>rfl)) (pv 3) (by with_unfolding_all rfl)) (gi (kh (lg PySem.F.plainAttrs_list PySem.F.slot_list_append PySem.F.type_list_append mi (pv 3) (a_ (i6 hu (pv 4) (pv 0) (λ_ _=>rfl)) b_)))) gH)))
  (e_ (gA 5 nd (iV b_))
  (e_ (jk PassesOwn.never rfl (kP (ij Mm (by rfl) T.mw boot_sorted (a_ (pv 3) b_))) (gY (i:=6) nd rfl (Or.inr rfl)) (gi (Mo (k:=4) (Md (N':=["_law_field","_law_into","_law_rows_here","_law_values","~4","_law_made","_law_one"]) (qf.of (N:=XZ) (sc:=gp (top 57)) rfl rfl rfl (by decide +kernel)) (kh (lg PySem.F.plainAttrs_list PySem.F.slot_list_append PySem.F.type_list_append mi (pv 5) (a_ (Cw (sP (pv 0) (pv 6) (sP (pv 1) (kT (g:=(iH 0)) (tt:=(jI (ie mG (vh (gJ 0) (gJ 1)) (gJ 7)))) (te:=(nu _ _ _ (i5 (gJ 0) (i5 (gJ 1) j2)))) (own:=["_law_row"]) rfl (jE (N:=["_law_field","_law_into","_law_rows_here","_law_values","~4","_law_made","_law_one"]) (sc:=gp (top 57))) (kP (pv 2)) (λ_ _ _ _ _=>(gY (i:=0) (show(["_law_row","_law_field","_law_into","_law_rows_here","_law_values","~4","_law_made","_law_one"]:List Str).Nodup by decide +kernel) rfl (Or.inl rfl) (.inr rfl))) (λ_ _ _ _ _=>(lY (gE iu (i6 hu (pv 0) (pv 1) (λ_ _=>rfl)) (pv 7) (gC _)))) (λ_ _ _ _ _=>(gv ac hr Y (a_ (pv 0) (a_ (pv 1) b_))))) Cs)) rfl rfl (by simp) (by decide)) b_)))))))
  (gi (gw (pv 5))))))),?_⟩
 ac_rfl
 obtain⟨aV,bf⟩:=A3.len hR;refine⟨mR,λV0 ay=>?_⟩;have s0:Same H (upd H V0 (.lst [])):=Same.new ay;refine⟨_,rfl,D,rfl,⟨_,f_.of (s0 _ _ hD)⟩,oB (xs:=ws) (λi σ H'=>∃a,σ=[some (.str x),some (.str y),some (.ref D),some (.ref V0),a,none,none]/\Same H H'/\H' V0=some (.lst ((iS ((ms.take i).map λm=>keyOf m x)).map kV))) ⟨_,rfl,s0,gh⟩ ?_ ?_ ?_⟩
 . rintro i σ H' _ ⟨a,rfl,s1,_⟩;exact f_.of (s1 _ _ hD)
 . rintro i xv σ H' hx ⟨a,rfl,s1,hv⟩;obtain⟨m,f,hm,ho⟩:=hR.row hx;obtain⟨rr,rfl,gk⟩:=ua ho (hF m (Q0j hm)).p an;have af:ms.take (i+1)=ms.take i++[m]:=take_add hm;have hi:i<ws.length:=(List.getElem?_eq_some_iff.mp hx).1
   have az:(iS ((ms.take i).map λm=>keyOf m x)).length<=30:=by
    have e2:=qi ((ms.take i).map λm=>keyOf m x);rw[Q0,Q0l] at e2;omega
   have e1:iS ((ms.take (i+1)).map λm=>keyOf m x)=jh (iS ((ms.take i).map λm=>keyOf m x)) (keyOf m x):=by
    rw[af,Q0b];exact w6 _ _
   refine⟨_,rfl,_,rfl,rr,_,rfl,gk _ s1,_,rfl,V0,_,rfl,.inl (f_.of hv),uu _,flat_keys,_,rfl,h_ (λc=>?_) (λc=>?_)⟩
   . have aZ:keyOf m x ∉ iS ((ms.take i).map λm=>keyOf m x):=λz=>by
      have c:(!inV (kV (keyOf m x)) ((iS ((ms.take i).map λm=>keyOf m x)).map kV))=true:=c;rw[rG.mpr z] at c
      cases c
     refine⟨_,rfl,.inl ⟨rfl,_,f_.of hv⟩,_,rfl,_,rfl,rr,_,rfl,gk _ s1,V0,_,_,rfl,rfl,hv,iF (by rw[Q0];omega),?_⟩;refine⟨_,rfl,λc o e=>by rw[d_ (gz e ay)];exact s1 _ _ e,?_⟩;rw[gh,e1,F0 aZ,Q0b];rfl
   . have a1:keyOf m x∈iS ((ms.take i).map λm=>keyOf m x):=Classical.byContradiction λz=>c (by
      show(!inV (kV (keyOf m x)) ((iS ((ms.take i).map λm=>keyOf m x)).map kV))=true
      cases y:inV (kV (keyOf m x)) ((iS ((ms.take i).map λm=>keyOf m x)).map kV) with
      |false=>rfl
      |true=>exact absurd (rG.mp y) z)
     refine⟨_,rfl,s1,?_⟩;rw[e1,FZ a1];exact hv
 . rintro σ H' ⟨a,rfl,s1,hv⟩;rw[aV,Q0p] at hv;refine⟨mR,λM hM=>?_⟩;have s2:Same H' (upd H' M (.lst [])):=Same.new hM;have gM:=gh (H:=H') (a:=M) (o:=.lst []);have aA:=s2 _ _ hv;generalize upd H' M (.lst [])=H2 at s2 gM aA;have a2:=s1.trans s2
   have ai:H M=none:=by
    cases z:H M with
    |none=>rfl
    |some o=>rw[s1 _ _ z] at hM;cases hM
   have a3:∀k∈iS (ms.map λm=>keyOf m x),jo (fs.get x) k:=λk hk=>by
    obtain⟨m,hm,rfl⟩:=List.mem_map.mp (uz.mp hk);exact jo.of (hF m hm) an
   have az:(iS (ms.map λm=>keyOf m x)).length<=30:=by
    have e2:=qi (ms.map λm=>keyOf m x);rw[Q0] at e2;omega
   refine⟨_,rfl,V0,_,rfl,f_.of aA,w_ a3,by omega,λS ks hS aB a4=>?_⟩;have hg:GV x ms ks:=⟨aB,a4⟩;have s3:Same H2 (upd H2 S (.lst (ks.map kV))):=Same.new hS;have gS:=gh (H:=H2) (a:=S) (o:=.lst (ks.map kV));have aC:=s3 _ _ gM;have a5:S≠M:=λz=>by rw[z,gM] at hS;cases hS
   generalize upd H2 S (.lst (ks.map kV))=H3 at s3 gS aC;have aD:=a2.trans s3;have bm:ks.length<=30:=by rw[aB.length_eq];exact az
   have bn:D≠M:=λz=>by rw[z,ai] at hD;cases hD
   refine⟨S,rfl,⟨_,f_.of gS⟩,oB (xs:=ks.map kV) (λi σ H'=>∃a one wm fm,σ=[some (.str x),some (.str y),some (.ref D),some (.ref V0),a,some (.ref M),one]/\(∀c o,c≠M->H3 c=some o->H' c=some o)/\H' M=some (.lst wm)/\gu H' wm (iT x y ms (ks.take i)) fm/\∀c∈fm.flatten,c≠M) ⟨_,_,[],[],rfl,λc o _ e=>e,aC,.nil,λc hc=>(nomatch hc)⟩ ?_ ?_ ?_⟩
   . intro i σ H' _ zq;obtain⟨a,one,wm,fm,rfl,k1,_⟩:=zq;exact f_.of (k1 _ _ a5 gS)
   . intro i v0 σ H4 a6 zq;obtain⟨a,one,wm,fm,rfl,k4,aj,ak,av⟩:=zq;obtain⟨v,hk,rfl⟩:=Option.map_eq_some_iff.mp (List.getElem?_map.symm.trans a6);have hi:i<ks.length:=(List.getElem?_eq_some_iff.mp hk).1;have aE:Same H H4:=λc o e=>k4 c o (λz=>by rw[z,ai] at e;cases e) (aD _ _ e)
     have bo:wm.length<=30:=by
      have:=(A3.len ak).1;unfold iT at this;rw[Q0,Q0l] at this;omega
     dsimp only[iH,E_];refine⟨_,rfl,.inl ⟨rfl,_,f_.of aj⟩,?_⟩;intro p hp;have s5:Same H4 (upd H4 p (.dK [])):=Same.new hp;have g5:=gh (H:=H4) (a:=p) (o:=.dK []);have aw:p≠M:=λz=>by rw[z,aj] at hp;cases hp
     have ao:=s5 _ _ aj;generalize bp:upd H4 p (.dK [])=H5 at s5 g5 ao;have aH:=aE.trans s5;refine⟨_,rfl,_,rfl,_,rfl,_,rfl,D,rfl,⟨_,f_.of (aH _ _ hD)⟩,λi2 n zs H6=>n=ws.length - i2/\i2<=ws.length/\Same H5 H6/\zs.length<=i2/\∃f6,gu H6 zs (iC x (ms.take i2) v) f6/\∀c∈f6.flatten,c≠M/\c≠p,⟨ws.length,rfl,Q0g _,Same.refl _,Q00 _,[],.nil,λc hc=>(nomatch hc)⟩,?_⟩;intro i2 n zs H6 zq;obtain⟨rfl,bq,s6,a7,f6,ap,al⟩:=zq;have ag:=aH.trans s6;by_cases aq:i2<ws.length
     . refine .inr ⟨⟨ws,ws[i2],f_.of (ag _ _ hD),Q03 aq⟩,iF (by omega),λxv H7 yy=>?_⟩;obtain⟨e7,yy⟩:=yy;have hx:=yy ws (f_.of (ag _ _ hD));subst e7;obtain⟨m,f,hm,ho⟩:=hR.row hx;have aJ:=Q0j hm;obtain⟨rr,rfl,gk⟩:=ua ho (hF m aJ).p an;unfold Own at ho;obtain⟨br,kvs,fq,e',a8,_,hO⟩:=ho
       cases e';have af:ms.take (i2+1)=ms.take i2++[m]:=take_add hm;refine⟨rfl,_,rfl,_,rfl,rr,_,rfl,gk _ ag,_,rfl,by cases keyOf m x <;> cases v <;> rfl,_,rfl,h_ (λcc=>?_) (λcc=>?_)⟩
       . have ev:keyOf m x=v:=by
          have:=of_decide_eq_true cc;revert this
          cases keyOf m x <;> cases v <;> intro this <;> first|(injection this with this;rw[this])|cases this
         refine⟨_,rfl,_,rfl,rr,x,_,kvs,rfl,ag _ _ a8,hO.nO (hF m aJ).p an,λp2 H8 s8 ae a9=>?_⟩;obtain⟨ar,ba,aW⟩:=gj.del (x:=x) hO;have bb:=ag.trans s8
         have hn:Own H8 (.ref p2) (.dct (m.del x)) (p2::ar):=by
          unfold Own;exact⟨p2,_,ar,rfl,a9,rfl,gj.same bb ba⟩
         refine⟨ws.length - (i2+1),by omega,rfl,aq,s6.trans s8,by rw[Q09];exact Q2p a7,f6++[p2::ar],?_,λc hc=>?_⟩
         . rw[af,FW ev];exact gu.app (.cons hn .nil) (ap.sm s8)
         . rw[Q14] at hc;rcases List.mem_append.mp hc with e|e
           . exact al c e
           . have e:c∈p2::ar:=by simpa using e
             rcases List.mem_cons.mp e with z|z
             . rw[z];refine⟨λy=>?_,λy=>?_⟩
               . rw[y,s6 _ _ ao] at ae;cases ae
               . rw[y,s6 _ _ g5] at ae;cases ae
             . obtain⟨o,au⟩:∃o,H c=some o:=by
                rcases gj.alive _ hO c (aW.subset z) with⟨_,q⟩|⟨_,q⟩ <;> exact⟨_,q⟩
               refine⟨λy=>(by rw[y,ai] at au;cases au),λy=>?_⟩;rw[y] at au;rw[aE _ _ au] at hp;cases hp
       . refine⟨ws.length - (i2+1),by omega,rfl,aq,s6,by omega,f6,?_,al⟩;rw[af,FX λz=>cc (decide_eq_true (by rw[z]))];exact ap
     . refine .inl ⟨⟨ws,f_.of (ag _ _ hD),Q16 aq⟩,λL hL=>?_⟩;have af:ms.take i2=ms:=Q15 (by omega);rw[af] at ap;have s7:Same H6 (upd H6 L (.lst zs)):=Same.new hL;have g7:=gh (H:=H6) (a:=L) (o:=.lst zs);have aK:L≠M:=λz=>by rw[z,s6 _ _ ao] at hL;cases hL
       have bc:L≠p:=λz=>by rw[z,s6 _ _ g5] at hL;cases hL
       have ax:=s7 _ _ (s6 _ _ g5);have aL:=s7 _ _ (s6 _ _ ao);have aM:=ap.sm s7;have aP:Same H4 (upd H6 L (.lst zs)):=s5.trans (s6.trans s7);generalize upd H6 L (.lst zs)=H7 at s7 g7 ax aL aM aP;refine⟨ax,[(Sum.inr x,kV v),(Sum.inr y,.ref L)],rfl,by show 2<=15;decide,?_⟩;rw[F1 aY];have ah:∀c o,c≠p->H7 c=some o->upd H7 p (.dK [(Sum.inr x,kV v),(Sum.inr y,.ref L)]) c=some o:=λc o hc e=>by rw[d_ hc];exact e
       have g8:=gh (H:=H7) (a:=p) (o:=.dK [(Sum.inr x,kV v),(Sum.inr y,.ref L)]);have aQ:Tu H7 (upd H7 p (.dK [(Sum.inr x,kV v),(Sum.inr y,.ref L)])):=λc xs e=>ah c _ (gR e ax (by intro z;cases z)) e;generalize upd H7 p (.dK [(Sum.inr x,kV v),(Sum.inr y,.ref L)])=H8 at ah g8 aQ;have aT:=ah _ _ (Ne.symm aw) aL;have bd:gu H8 zs (iC x ms v) f6:=gu.keep aQ aM λc hc o e=>ah c o (al c hc).2 e;have be:=ah _ _ bc g7;have am:∀c o,H4 c=some o->H8 c=some o:=λc o e=>ah c o (gz e hp) (aP _ _ e);refine⟨M,_,_,rfl,rfl,aT,iF (by omega),⟨Me (k:=4) (z:="~4") rfl rfl,?_⟩⟩;have aU:Tu H8 (upd H8 M (.lst (wm++[.ref p]))):=λc xs e=>by rw[d_ (gR e aT (by intro z;cases z))];exact e
       have aX:Own (upd H8 M (.lst (wm++[.ref p]))) (.ref p) (.dct (j_ x y ms v)) (p::([]++((L::f6.flatten)++[]))):=by
        unfold j_ Own;refine⟨p,_,_,rfl,by rw[d_ aw];exact g8,rfl,?_⟩;unfold gj;refine⟨_,_,[],_,rfl,rfl,qc,?_⟩;unfold gj;refine⟨_,_,_,[],rfl,rfl,k8 (by rw[d_ aK];exact be) (gu.keep aU bd λc hc o e=>by rw[d_ (al c hc).1];exact e),?_⟩;unfold gj;exact⟨rfl,rfl⟩
       refine⟨_,_,wm++[.ref p],fm++[p::([]++((L::f6.flatten)++[]))],rfl,λc o hc e=>by rw[d_ hc];exact am _ _ (k4 c o hc e),gh,?_,λc hc=>?_⟩
       . have ea:iT x y ms (ks.take (i+1))=iT x y ms (ks.take i)++[j_ x y ms v]:=by
          unfold iT;rw[Q0q,hk,Q0b];rfl
         rw[ea];exact gu.app (.cons aX .nil) (gu.keep (λc xs e=>aU c xs (am _ _ e)) ak λc hc o e=>by rw[d_ (av c hc)];exact am _ _ e)
       . rw[Q14] at hc;rcases List.mem_append.mp hc with e|e
         . exact av c e
         . have e:c=p\/c=L\/c∈f6.flatten:=by simpa using e
           rcases e with z|z|z
           . rw[z];exact aw
           . rw[z];exact aK
           . exact(al c z).1
   . intro σ H4 zq;obtain⟨a,one,wm,fm,rfl,k4,aj,ak,av⟩:=zq;rw[Q0,Q0p] at ak;exact⟨_,rfl,q ks M wm fm H4 hg (λc o e=>k4 c o (λz=>by rw[z,ai] at e;cases e) (aD _ _ e)) ai aj ak⟩
noncomputable def qt (ns:List Int) (x:Str) (I:List Ds × Int) (m:Ds):List Ds × Int:=
 (I.1++[if 0<I.1.length/\0<nx ns (I.2+1) % 3 then m.upd x (kD (keyOf (I.1.getD (nx ns (I.2+1) / 3 % (I.1.length:Int)).toNat .nil) x)) else m],I.2+1)
noncomputable def jO (ns:List Int) (x:Str) (ms:List Ds) (n:Int):List Ds × Int:=ms.foldl (qt ns x) ([],n)
theorem F7 (ns:List Int)(x:Str)(ms:List Ds)(m:Ds)(n:Int):jO ns x (ms++[m]) n=qt ns x (jO ns x ms n) m:=by
 unfold jO;rw[Q2m];rfl
structure pd (fs:Fs) (x:Str) (ms:List Ds) (n:Int) (q:List Ds × Int):Prop where
 len:q.1.length=ms.length
 cnt:q.2=n+ms.length
 ok:∀m∈q.1,j9 fs m
 ks:∀key,key≠x->q.1.map (λm=>keyOf m key)=ms.map λm=>keyOf m key
theorem pd.nil (fs:Fs)(x:Str)(n:Int):pd fs x [] n ([],n):=⟨rfl,by simp,λm I=>(nomatch I),λ_ _=>rfl⟩
theorem pd.add {fs:Fs}{x:Str}{ms:List Ds}{m:Ds}{n:Int}{q:List Ds × Int}{ns:List Int}(nd:fs.names.Nodup)(Y:fs.pl x)(h:pd fs x ms n q)(U:j9 fs m):pd fs x (ms++[m]) n (qt ns x q m):=by
 have J:∀k,k≠x->keyOf (if 0<q.1.length/\0<nx ns (q.2+1) % 3 then m.upd x (kD (keyOf (q.1.getD (nx ns (q.2+1) / 3 % (q.1.length:Int)).toNat .nil) x)) else m) k=keyOf m k:=λk L=>by
  split
  . exact La L
  . rfl
 refine⟨?_,?_,λb hb=>?_,λkey L=>?_⟩
 . show(q.1++[_]).length=_;rw[Q09,Q09,h.len];rfl
 . show q.2+1=_;rw[h.cnt,Q09];show n+(ms.length:Int)+1=n+((ms.length+1:Nat):Int);omega
 . rcases List.mem_append.mp (show b∈q.1++[_] from hb) with e|e
   . exact h.ok b e
   . rw[List.mem_singleton.mp e];split
     . rename_i c;refine U.upd nd ?_
       have I:(nx ns (q.2+1) / 3 % (q.1.length:Int)).toNat<q.1.length:=by
        have h0:=Q0m (nx ns (q.2+1) / 3) (show(q.1.length:Int)≠0 by omega);have h1:=Q0n (nx ns (q.2+1) / 3) (show(0:Int)<(q.1.length:Int) by omega);omega
       rw[Q05,Q03 I];exact jo.of (h.ok _ (Q0r I)).1 Y
     . exact U
 . show(q.1++[_]).map _=_;rw[Q0b,Q0b,h.ks key L];show _++[keyOf _ key]=_++[keyOf m key];rw[J key L]
theorem uE {fs:Fs}{x:Str}{ns:List Int}{n:Int}(nd:fs.names.Nodup)(I:fs.pl x){ms:List Ds}(h:∀m∈ms,j9 fs m):∀i,pd fs x (ms.take i) n (jO ns x (ms.take i) n)
 |0=>pd.nil fs x n
 |i+1=>by
  by_cases hi:i<ms.length
  . have e:ms.take (i+1)=ms.take i++[ms[i]]:=take_add (Q03 hi);rw[e,F7];exact(uE nd I h i).add nd I (h _ (Q0r hi))
  . have e:ms.take (i+1)=ms.take i:=by rw[Q15 (by omega),Q15 (by omega)]
    rw[e];exact uE nd I h i
def F8 (K:W.Frag) (Po:Addr):Sp:=λvs H Q _=>∃a b ns n pk pb key by_ fs x D L ms U,vs=[.ref a,.ref b,.ref pk,.str x,.ref D]/\G0 K H a b ns n/\n+30<=1000000000000/\qg H pk pb key by_/\H D=some (.lst L)/\gu H L ms U/\(∀c∈D::U.flatten,c≠b)/\L.length<=30/\(∀m∈ms,j9 fs m)/\
 fs.names.Nodup/\fs.names.length<=12/\fs.pl key/\(by_=""\/fs.pl by_)/\fs.pl x/\key≠x/\(ms.map λm=>keyOf m key).Nodup/\gy Po l5 l6 H/\
 ∀Y I J H',gP b Po H H'->H' b=some (.lst [.int (jO ns x ms n).2])->gy Po l5 l6 H'->H' Y=some (.lst I)->gu H' I (iL key by_ (jO ns x ms n).1) J->(∀c∈Y::J.flatten,c≠b/\(H c=none\/c∈U.flatten))->Q (.ref Y) H'
theorem NM:gQ ["_law_script","_law_at","_law_kind_here","_law_field","_law_rows_here","_law_made","_law_row","_law_new","_law_m"] XM (gp (top 52)):=g_
theorem NN {Po:Addr}(T:Tb mg)(ab:Dn K mg "_law_ties" tY (top 52) ac ae)(af:Dn K mg "_law_next" gL (top 32) ag ah)(ai:gc P w K mg base gf (1) ag ah gL (nL K))(L:Dn K mg "_law_sorted" rn (top 50) U Y)(aa:gc P w K mg base gf (8) U Y rn (uh Po l5 l6)):gc P w K mg base gf (9) ac ae tY (F8 K Po):=by
 refine ab.F.ok NM λvs H Q E h=>?_;obtain⟨a,b,ns,n,pk,pb,key,by_,fs,x,D,ws,ms,fl,rfl,g,hn,a6,hD,hR,aD,bx,aE,a7,bz,a1,a8,au,a9,ba,hT,q⟩:=h;refine⟨rfl,λbA A outer s nd hr hu=>?_⟩
 refine⟨_,(e_ (gA 5 nd (iV b_))
  (e_ (jk PassesOwn.never rfl (kP (pv 4)) (gY (i:=6) nd rfl iG) (e_ (gA 7 nd (lW wW (by rfl) T.rm boot_dict (a_ (pv 6) b_)))
  (e_ (gA 8 nd (gv ai hr af (a_ (pv 0) (a_ (pv 1) b_))))
  (e_ (gF (PW.pt (m_ (gE nr (ij jr (by rfl) T.ja PySem.boot_len (a_ (pv 5) b_)) c_ (gC _)) (oq (gE nr (gn ir (pv 8) c_) c_ (gC _))))) (gi (mJ hu (pv 7) (pv 3) (i6 hu (ju (pv 5) (gn ir (gn jc (pv 8) c_) (ij jr (by rfl) T.ja PySem.boot_len (a_ (pv 5) b_)))) (pv 3) (λ_ _=>rfl)) rfl)) gH)
  (gi (kh (lg PySem.F.plainAttrs_list PySem.F.slot_list_append PySem.F.type_list_append mi (pv 5) (a_ (pv 7) b_))))))))
  (gi (gw (gv aa hr L (a_ (pv 2) (a_ (pv 5) b_))))))),?_⟩
 ac_rfl
 have a2:=(A3.len hR).1;have hb:=g.at_;obtain⟨bB,hP⟩:=hT.tab;have aH:=uE (ns:=ns) (n:=n) a7 au aE;refine⟨mR,λM hM=>?_⟩;have s0:Same H (upd H M (.lst [])):=Same.new hM;have aJ:M≠b:=λz=>by rw[z,hb] at hM;cases hM
 refine⟨_,rfl,D,rfl,⟨_,f_.of (s0 _ _ hD)⟩,oB (xs:=ws) (λi σ H'=>∃u1 u2 u3 wm fm,σ=[some (.ref a),some (.ref b),some (.ref pk),some (.str x),some (.ref D),some (.ref M),u1,u2,u3]/\(∀c o,c≠b->H c=some o->H' c=some o)/\H' b=some (.lst [.int (jO ns x (ms.take i) n).2])/\H' M=some (.lst wm)/\gu H' wm (jO ns x (ms.take i) n).1 fm/\(∀c∈fm.flatten,c≠M/\c≠b)/\∀c∈fm.flatten,H c=none\/c∈fl.flatten) ⟨_,_,_,[],[],rfl,λc o _ e=>s0 _ _ e,s0 _ _ hb,gh,.nil,λc hc=>(nomatch hc),λc hc=>(nomatch hc)⟩ ?_ ?_ ?_⟩
 . intro i σ H' _ zq;obtain⟨u1,u2,u3,wm,fm,rfl,k1,_⟩:=zq;exact f_.of (k1 _ _ (aD D Q02) hD)
 . intro i xv σ H' hx zq;obtain⟨u1,u2,u3,wm,fm,rfl,k1,ak,am,aj,al,av⟩:=zq;have hi:i<ws.length:=(List.getElem?_eq_some_iff.mp hx).1;have ho:=A3.at (a0:=V.non) (b0:=Ds.nil) (c0:=[]) hR i hi;have ex:ws.getD i .non=xv:=by rw[Q05,hx];rfl
   rw[ex] at ho;have aK:ms[i]? =some (ms.getD i .nil):=by rw[Q05,Q03 (by omega)];rfl
   have an:∀c∈fl.getD i [],c≠b:=λc hc=>aD c (Q07 _ (List.mem_flatten.mpr ⟨_,by
    rw[Q05,Q03 (by have:=(A3.len hR).2;omega)];exact Q0r _,hc⟩))
   have bb:∀c∈fl.getD i [],c∈fl.flatten:=λc hc=>List.mem_flatten.mpr ⟨_,by
    rw[Q05,Q03 (by have:=(A3.len hR).2;omega)];exact Q0r _,hc⟩
   generalize ms.getD i .nil=m at *;generalize fl.getD i []=f at *;have aL:=aE m (Q0j aK);have tk:ms.take (i+1)=ms.take i++[m]:=take_add aK;have ti:=aH i;have aM:(jO ns x (ms.take i) n).1.length=i:=by rw[ti.len,Q0l];omega
   have bC:(jO ns x (ms.take i) n).2=n+i:=by rw[ti.cnt,Q0l];congr 2;omega
   rw[tk,F7];generalize jO ns x (ms.take i) n=I at *;unfold Own at ho;obtain⟨rr,kvs,fq,rfl,bc,rfl,hO⟩:=ho;have aw:Tu H H':=λc xs e=>k1 c _ (gR e hb (by intro z;cases z)) e;have ax:gj H' kvs m fq:=gj.keep aw _ (λc hc o e=>k1 c o (an c (Q07 _ hc)) e) hO;have aP:=(A3.len aj).1;rw[aM] at aP;refine⟨_,rfl,rr,kvs,rfl,k1 _ _ (an rr Q02) bc,λp hp=>?_⟩;have s1:Same H' (upd H' p (.dK kvs)):=Same.new hp;have g1:=gh (H:=H') (a:=p) (o:=.dK kvs);have ay:p≠M:=λz=>by rw[z,am] at hp;cases hp
   have ao:p≠b:=λz=>by rw[z,ak] at hp;cases hp
   have az:=s1 _ _ ak;have aQ:=s1 _ _ am;have ap:=aj.sm s1;have aT:gj _ kvs m fq:=gj.same s1 ax;have aA:∀c o,H' c=some o->c≠p:=λc o e=>gz e hp;generalize upd H' p (.dK kvs)=H2 at s1 g1 az aQ ap aT;have bd:G0 K H2 a b ns I.2:=g.go (λc o hc e=>s1 _ _ (k1 c o hc e)) az (by omega);refine⟨_,rfl,_,rfl,a,b,ns,I.2,rfl,bd,by omega,λH3 s3 h3=>?_⟩;have k3:∀c o,c≠b->H' c=some o->H3 c=some o:=λc o hc e=>s3 c o hc (s1 _ _ e);have aq:=s3 _ _ aJ aQ;have g3:=s3 _ _ ao g1;have aU:Tu H2 H3:=s3.tu az;have aV:gu H3 wm I.1 fm:=gu.keep aU ap λc hc o e=>s3 c o (al c hc).2 e;have aB:gj H3 kvs m fq:=gj.keep aU _ (λc hc o e=>s3 c o (an c (Q07 _ hc)) e) aT;dsimp only[iH];refine qd (A:=lP _ _ _) (λaW H4=>aW=[some (.ref a),some (.ref b),some (.ref pk),some (.str x),some (.ref D),some (.ref M),some (.ref rr),some (.ref p),some (.int (nx ns (I.2+1)))]/\(∀c o,c≠p->H3 c=some o->H4 c=some o)/\∃kn fn,H4 p=some (.dK kn)/\gj H4 kn (if 0<I.1.length/\0<nx ns (I.2+1) % 3 then m.upd x (kD (keyOf (I.1.getD (nx ns (I.2+1) / 3 % (I.1.length:Int)).toNat .nil) x)) else m) fn/\fn.Sublist fq) ?_ (λhB=>?_);rotate_left
   . refine⟨_,rfl,M,_,rfl,.inl (f_.of aq),_,_,rfl,rfl,_,rfl,h_ (λc1=>?_) (λc1=>h9 (hB _ _ ⟨rfl,λc o _ e=>e,kvs,fq,g3,?_,List.Sublist.refl _⟩))⟩
     . have c1:(0:Int)<(wm.length:Int):=of_decide_eq_true c1;refine⟨_,rfl,_,_,rfl,rfl,(by show(0:Int)<3;decide),_,_,rfl,rfl,_,rfl,h_ (λc2=>?_) (λc2=>hB _ _ ⟨rfl,λc o _ e=>e,kvs,fq,g3,?_,List.Sublist.refl _⟩)⟩
       . have c2:0<nx ns (I.2+1) % 3:=of_decide_eq_true c2;have w0:=Q0m (nx ns (I.2+1) / 3) (show(wm.length:Int)≠0 by omega);have w1:=Q0n (nx ns (I.2+1) / 3) c1;have be:=A3.at (a0:=V.non) (b0:=Ds.nil) (c0:=[]) aV (nx ns (I.2+1) / 3 % (wm.length:Int)).toNat (by omega)
         have a3:I.1.getD (nx ns (I.2+1) / 3 % (wm.length:Int)).toNat .nil∈I.1:=by
          rw[Q05,Q03 (by omega)];exact Q0r _
         obtain⟨r2,bf,bg⟩:=ua be (ti.ok _ a3).1.p au
         have bh:i8 wm (nx ns (I.2+1) / 3 % (wm.length:Int))=some (.ref r2):=by
          have hg:wm[(nx ns (I.2+1) / 3 % (wm.length:Int)).toNat]? =some (.ref r2):=by
           rw[<-bf,Q05,Q03 (by omega)];rfl
          have:=ki hg;rw[Q3f w0] at this;exact this
         refine⟨_,rfl,_,rfl,_,_,rfl,rfl,⟨by decide,by decide⟩,_,rfl,M,_,rfl,.inl (f_.of aq),_,_,rfl,rfl,c1,M,_,_,_,rfl,rfl,f_.of aq,bh,_,rfl,r2,_,rfl,bg _ (Same.refl _),_,rfl,_,rfl,p,_,rfl,km.k (k:=Sum.inr x) g3 (iF (by rw[gj.len hO,aL.1.names];omega)),?_⟩
         have bi:x∈m.names:=by
          obtain⟨k,hk,_⟩:=au;rw[aL.1.names];exact Fs.p9 hk
         obtain⟨fn,a4,J⟩:=aB.ui (x:=x) (v:=kV (keyOf (I.1.getD (nx ns (I.2+1) / 3 % (wm.length:Int)).toNat .nil) x)) qc bi;refine hB _ _ ⟨rfl,λc o hc e=>by rw[d_ hc];exact e,_,fn,gh,?_,J⟩;have bj:(wm.length:Int)=(I.1.length:Int):=by rw[aP,aM]
         rw[if_pos ⟨by omega,c2⟩,<-bj];refine gj.keep (λc xs e=>by rw[d_ (gR e g3 (by intro z;cases z))];exact e) _ (λc hc o e=>?_) a4;rw[d_ λz=>?_]
         . exact e
         . rcases gj.alive _ ax c (J.subset hc) with⟨_,q⟩|⟨_,q⟩ <;> exact aA c _ q z
       . rw[if_neg λz=>c2 (decide_eq_true z.2)];exact aB
     . rw[if_neg λz=>c1 (decide_eq_true (by show(0:Int)<(wm.length:Int);omega))];exact aB
   intro aW H4 zq;obtain⟨rfl,k4,kn,fn,g4,bm,J⟩:=zq;have aC:=k4 _ _ (Ne.symm ay) aq
   have a5:∀c∈fm.flatten,c≠p:=λc hc=>by
    rcases gu.mu aj c hc with⟨_,q⟩|⟨_,q⟩ <;> exact aA c _ q
   have bn:Tu H3 H4:=λc xs e=>k4 c _ (gR e g3 (by intro z;cases z)) e;have bo:gu H4 wm I.1 fm:=gu.keep bn aV λc hc o e=>k4 c o (a5 c hc) e
   have bD:∀c∈fq,∃o,H' c=some o:=λc hc=>by
    rcases gj.alive _ ax c hc with⟨_,q⟩|⟨_,q⟩ <;> exact⟨_,q⟩
   have aX:∀c∈fq,c≠M:=λc hc z=>by
    rcases gj.alive _ hO c hc with⟨_,q⟩|⟨_,q⟩ <;> rw[z,hM] at q <;> cases q
   refine⟨_,rfl,.inl ⟨rfl,_,f_.of aC⟩,_,rfl,M,_,_,rfl,rfl,aC,iF (by omega),?_⟩;have aY:Tu H4 (upd H4 M (.lst (wm++[.ref p]))):=λc xs e=>by rw[d_ (gR e aC (by intro z;cases z))];exact e
   refine⟨_,_,_,wm++[.ref p],fm++[p::fn],rfl,λc o hc e=>?_,?_,gh,?_,λc hc=>?_,λc hc=>?_⟩
   . rw[d_ λz=>by rw[z,hM] at e;cases e];exact k4 c o (aA c o (k1 c o hc e)) (k3 c o hc (k1 c o hc e))
   . rw[d_ (Ne.symm aJ)];exact k4 _ _ (Ne.symm ao) h3
   . have hn:Own (upd H4 M (.lst (wm++[.ref p]))) (.ref p) (.dct (if 0<I.1.length/\0<nx ns (I.2+1) % 3 then m.upd x (kD (keyOf (I.1.getD (nx ns (I.2+1) / 3 % (I.1.length:Int)).toNat .nil) x)) else m)) (p::fn):=by
      unfold Own;exact⟨p,kn,fn,rfl,by rw[d_ ay];exact g4,rfl,gj.keep aY _ (λc hc o e=>by rw[d_ (aX c (J.subset hc))];exact e) bm⟩
     exact gu.app (.cons hn .nil) (gu.keep aY bo λc hc o e=>by rw[d_ (al c hc).1];exact e)
   . rw[Q14] at hc;rcases List.mem_append.mp hc with e|e
     . exact al c e
     . have e:c∈p::fn:=by simpa using e
       rcases List.mem_cons.mp e with z|z
       . rw[z];exact⟨ay,ao⟩
       . exact⟨aX c (J.subset z),an c (Q07 _ (J.subset z))⟩
   . rw[Q14] at hc;rcases List.mem_append.mp hc with e|e
     . exact av c e
     . have e:c∈p::fn:=by simpa using e
       rcases List.mem_cons.mp e with z|z
       . rw[z];refine .inl ?_
         cases y:H p with
         |none=>rfl
         |some o=>rw[k1 _ _ ao y] at hp;cases hp
       . exact .inr (bb c (Q07 _ (J.subset z)))
 . intro σ H' zq;obtain⟨u1,u2,u3,wm,fm,rfl,k1,ak,am,aj,al,av⟩:=zq;rw[a2,Q0p] at ak aj;have ti:=aH ms.length;rw[Q0p] at ti;have aw:Tu H H':=λc xs e=>k1 c _ (gR e hb (by intro z;cases z)) e;have bp:gy Po l5 l6 H':=hT.off λc o h1 h2 e=>k1 c o (gR e hb (h1 _)) e;have hl:=(A3.len aj).1;rw[ti.len] at hl;refine⟨_,rfl,_,rfl,pk,M,pb,key,by_,fs,wm,_,fm,rfl,aw _ _ a6,am,aj,by omega,bp,λm hm=>(ti.ok m hm).1.p,a1,a8,by rw[ti.ks key a9];exact ba,λD' bq br H2 gX bt ar bu ap bv=>?_⟩;have bw:b≠Po:=gR hb hP (by intro z;cases z);refine q D' bq br H2 (λc o hc e=>gX c o (λz=>hc (.inr z)) (k1 c o (λz=>hc (.inl z)) e)) (gX b _ bw ak) bt bu ap λc hc=>?_;rcases List.mem_cons.mp hc with z|z
   . rw[z];have aZ:D'≠b:=λy=>by rw[y,ak] at ar;cases ar
     refine⟨aZ,.inl ?_⟩
     cases y:H D' with
     |none=>rfl
     |some o=>rw[k1 _ _ aZ y] at ar;cases ar
   . have z:=(vV bv).mem_iff.mp z;exact⟨(al c z).2,av c z⟩
def F9 (n:Nat) (Pf Pi C:Addr):Sp:=λvs H Q _=>∃v dx pk pb key by_ x y kx zs src D Y ms ks fl,vs=[.ref v,.ref pk,src,.ref D]/\uD n C H v dx pk pb key by_ x y kx zs D Y ms ks fl/\gy Pf jT jU H/\gy Pi lB lC H/\Pf≠Pi/\
 ∀L I J U H',gP Pf Pi H H'->gy Pf jT jU H'->gy Pi lB lC H'->H' L=some (.lst I)->gu H' I (ms.map (phi x)) J->H' U=some (.tup [.str "done",.ref L])->Q (.ref U) H'
def F_ (n:Nat):Sp:=λvs H Q _=>∃I J L k U Y d d2 f1 f2,vs=[I,.ref J,.ref L]/\KA H I k/\k.W/\H J=some (.tup [.str "done",U])/\H L=some (.tup [.str "done",Y])/\Own H U d f1/\Own H Y d2 f2/\AL k d d2/\d.dep<=n/\d.Sm/\∀H',Same H H'->Q (.bl true) H'
section
variable {P:Program}{w:World}{K:W.Frag}{mg:Str->Option Value}{base:Heap}
variable {C Pf Pi NO:Addr}
theorem NP:gQ ["_law_view","_law_kind_here","_law_source","_law_seen","_law_way_here","_law_made","e"] XR (gp (top 48)):=g_
theorem NQ (n j:Nat)(T:Tb mg)(OF:o8 K mg C ac ae ah I ag af)(XC:Fb K mg NO)(Y:Dn K mg "_law_put" tZ (top 48) aa ab)(J:Dm K "put" "Group.put" tW (h8 30 3) I L)(U:gc P w K mg base gf (j) I L tW (F5 n Pf Pi C)):gc P w K mg base gf (j+1) aa ab tZ (F9 n Pf Pi C):=by
 have CT:=OF.ct;have ai:=OF.p;refine Y.F.ok NP λvs H Q E h=>?_;obtain⟨v,dx,pk,pb,key,by_,x,y,kx,zs,src,D,ws,ms,ks,fl,rfl,X,aj,ak,al,q⟩:=h;refine⟨rfl,λav A outer s nd hr hu=>?_⟩
 refine⟨_,(e_ (gA 4 nd jH)
  (e_ (gA 5 nd jH)
  (e_ (LM (Ek:=λ_ _ _=>False) (i:=6) rfl rfl (LJ (i:=5) nd rfl (.inl rfl) (LN (qM (pv 0) CT ai U (hr.mono (by omega)) J.b .nil lh (a_ (pv 1) (a_ (pv 2) (a_ (pv 3) b_)))))) rfl XC.m XC.ty XC.is XC.bx (λ_ _ _ z=>z.elim) nd rfl rfl (λa=>BP))
  (e_ (gF (gE B2 (pv 4) jH (gC _)) (gi (gw (iP (a_ gW (a_ (pv 5) b_))))) gH)
  (gi me))))),?_⟩
 ac_rfl
 refine⟨?_,λa C' dd H' na hE=>hE.elim⟩;refine⟨_,rfl,v,dx,_,rfl,X.v,rfl,_,rfl,_,rfl,_,rfl,v,dx,pk,pb,key,by_,x,y,kx,zs,src,D,ws,ms,ks,fl,rfl,X,aj,ak,al,λD' am an H' kp ao ap aq ar=>?_⟩;refine⟨_,rfl,rfl,_,rfl,i_ ⟨_,rfl,i3,λtq au=>?_⟩⟩;have s1:Same H' (upd H' tq (.tup [.str "done",.ref D'])):=Same.new au;exact q D' am an tq _ (kp.trans (Kp.of s1)) (ao.same s1) (ap.same s1) (s1 _ _ aq) (ar.sm s1) gh
theorem NR:gQ XF XF (gp (top 49)):=g_
theorem NS (n:Nat)(T:Tb mg)(I:Dn K mg "_law_same_end" kX (top 49) J L)(U:Dn K mg "_law_alike" kX (top 43) Y aa)(ab:gc P w K mg base gf (n+1) Y aa kX (qe n)):gc P w K mg base gf (n+2) J L kX (F_ n):=by
 refine I.F.ok NR λvs H Q E h=>?_;obtain⟨kv,t1,t2,k,u1,u2,d,d2,f1,f2,rfl,hk,hW,h1,h2,o1,o2,hF,hd,ac,q⟩:=h;refine⟨rfl,λae A outer s nd hr hu=>?_⟩
 refine⟨_,(e_ (gF (gE j1 (gq (pv 1) c_) (gq (pv 2) c_) (gC _)) (gi (gw jz)) gH)
  (e_ (gF (gE iu (gq (pv 2) c_) gW (gC _)) (gi me) gH)
  (gi (gw (gv ab hr U (a_ (pv 0) (a_ (gq (pv 1) c_) (a_ (gq (pv 2) c_) b_)))))))),?_⟩
 ac_rfl
 refine⟨_,rfl,t1,_,_,_,rfl,rfl,f9.of h1,rfl,_,rfl,t2,_,_,_,rfl,rfl,f9.of h2,rfl,rfl,_,rfl,nB rfl ?_⟩;refine⟨_,rfl,t2,_,_,_,rfl,rfl,f9.of h2,rfl,rfl,_,rfl,?_⟩;rw[show decide (V.str "done"=V.str "refused")=false by decide +kernel];refine h9 ?_;exact⟨_,rfl,_,rfl,t1,_,_,_,rfl,rfl,f9.of h1,rfl,_,rfl,t2,_,_,_,rfl,rfl,f9.of h2,rfl,kv,u1,u2,k,d,d2,f1,f2,rfl,hk,hW,o1,o2,hF,hd,ac,q⟩
end
end Pb
namespace L2
open Spec PyProof.Rows
theorem NT {X:Cx}:iZ X (compareOp .IsNot) (λx y H Q=>x=.bl false/\y=.bl false/\Q (.bl false) H):=by
 intro pins s σ H x y v u Q I J L h;obtain⟨rfl,rfl,q⟩:=h
 cases J
 cases L
 have e:compareOp .IsNot (.bool false) (.bool false)=(pure (.bool false):Sem Value):=by
  unfold compareOp isSame;rfl
 show wpAny _ _ (compareOp .IsNot (Value.bool false) (Value.bool false)) _ _ _;rw[e];exact Q0e ⟨.bl false,H,I,rfl,q⟩
end L2
namespace Pb
open L2 PyProof.Rows
def Kt (b:Addr) (H H':Hp):Prop:=∀c o,c≠b->(∀ps,o≠ .iJ ps)->H c=some o->H' c=some o
theorem Kn.kt {b:Addr}{H H':Hp}(k:Kn H H'):Kt b H H':=λc o _ I e=>k c o I e
theorem Kt.of {b:Addr}{H H':Hp}(s:Same H H'):Kt b H H':=λc o _ _ e=>s c o e
theorem Kt.sb {b:Addr}{H H':Hp}(s:SB b H H'):Kt b H H':=λc o hc _ e=>s c o hc e
theorem Kt.trans {b:Addr}{H H1 H2:Hp}(x:Kt b H H1)(y:Kt b H1 H2):Kt b H H2:=λc o hc I e=>y c o hc I (x c o hc I e)
theorem Kt.tu {b:Addr}{H H':Hp}{l:List V}(k:Kt b H H')(I:H b=some (.lst l)):Tu H H':=λc xs e=>k c _ (gR e I (by intro z;cases z)) (by intro ps z;cases z) e
theorem Kt.lst {b c:Addr}{H H':Hp}{xs:List V}(k:Kt b H H')(hc:c≠b)(e:H c=some (.lst xs)):H' c=some (.lst xs):=k c _ hc (by intro ps z;cases z) e
theorem gu.kt {b:Addr}{H H':Hp}{l vs:List V}{J:List Ds}{I:List (List Addr)}(h:gu H vs J I)(k:Kt b H H')(L:H b=some (.lst l))(U:b ∉ I.flatten):gu H' vs J I:=gu.keep (k.tu L) h λc hc o e=>k c o (λz=>U (by rw[<-z];exact hc)) (by
 intro ps z;rcases gu.mu h c hc with⟨_,q⟩|⟨_,q⟩ <;> rw[e] at q <;> rw[z] at q <;> cases q) e
structure RW (K:W.Frag) (Ts:List (Addr × Pos × Str)) (a b:Addr) (ns:List Int) (n:Int) (H:Hp):Prop where
 g:G0 K H a b ns n
 t:∀q∈Ts,gy q.1 q.2.1 q.2.2 H
theorem _root_.L2.gy.go {S:List Addr}{P:Addr}{I:Pos}{J:Str}{H H':Hp}(h:gy P I J H)(k:∀c o,c ∉ S->H c=some o->H' c=some o)(hl:∀p∈S,(∃l,H p=some (.lst l))\/∃ps,H p=some (.iJ ps))(L:P ∉ S):gy P I J H':=by
 rcases h with e|⟨c,e,f⟩
 . exact .inl (k _ _ L e)
 . refine .inr ⟨c,k _ _ L e,k _ _ (λz=>?_) f⟩;rcases hl c z with⟨l,q⟩|⟨l,q⟩ <;> rw[f] at q <;> cases q
section
variable {K:W.Frag}{Ts:List (Addr × Pos × Str)}{a b:Addr}{ns:List Int}{n n':Int}{H H':Hp}
theorem RW.go {S:List Addr}(h:RW K Ts a b ns n H)(k:∀c o,c ∉ S->H c=some o->H' c=some o)(hl:∀p∈S,(∃l,H p=some (.lst l))\/∃ps,H p=some (.iJ ps))(J:H' b=some (.lst [.int n']))(U:n<=n')(L:∀q∈Ts,q.1∈S->gy q.1 q.2.1 q.2.2 H'):RW K Ts a b ns n' H':=by
 refine⟨⟨?_,h.g.len,J,by have:=h.g.pos;omega⟩,λq I=>?_⟩
 . rcases h.g.kY with⟨o,e⟩|e
   . refine .inl ⟨o,k a _ (λz=>?_) e⟩;rcases hl a z with⟨l,q⟩|⟨l,q⟩ <;> rw[e] at q <;> cases q
   . exact .inr e
 . by_cases c:q.1∈S
   . exact L q I c
   . exact(h.t q I).go k hl c
theorem RW.same (h:RW K Ts a b ns n H)(s:Same H H'):RW K Ts a b ns n H':=h.go (S:=[]) (λc o _ e=>s c o e) (λp hp=>(nomatch hp)) (s _ _ h.g.at_) (Q1j _) λq _ I=>(nomatch I)
theorem RW.sb (h:RW K Ts a b ns n H)(s:SB b H H')(I:H' b=some (.lst [.int n']))(J:n<=n'):RW K Ts a b ns n' H':=h.go (S:=[b]) (λc o hc e=>s c o (λz=>hc (by rw[z];exact Q02)) e) (λp hp=>by rw[List.mem_singleton.mp hp];exact .inl ⟨_,h.g.at_⟩) I J λq L hc=>by
 have:=h.t q L;obtain⟨ps,e⟩:=this.tab;rw[List.mem_singleton.mp hc,h.g.at_] at e
 cases e
end
structure Rr (key by_:Str) (fs:Fs) (ms:List Ds):Prop where
 ok:∀m∈ms,j9 fs m
 kn:(ms.map λm=>keyOf m key).Nodup
 len:ms.length<=30
 l8:ms.Pairwise (kr key by_)
theorem Rr.of {key by_:Str}{fs:Fs}{room:Nat}{ps:List Key}{n:Int}{q:List Ds × Int}(h:qa fs key room ps n q)(L:ps.Nodup)(Y:ps.length<=30):Rr key by_ fs (iL key by_ q.1):=by
 have J:=lZ key by_ q.1;have kn:=h.keys.nodup L;have I:((iL key by_ q.1).map λm=>keyOf m key).Nodup:=(J.map _).nodup_iff.mpr kn;refine⟨λm U=>h.ok m (J.mem_iff.mp U),I,?_,rd (rb key by_ q.1) I⟩;have:=h.keys.length_le;rw[Q0] at this;rw[J.length_eq];omega
structure RV (b:Addr) (H:Hp) (D:Addr) (vs:List V) (ms:List Ds) (fl:List (List Addr)):Prop where
 at_:H D=some (.lst vs)
 r:gu H vs ms fl
 nb:∀c∈D::fl.flatten,c≠b
theorem RV.kt {b D:Addr}{H H':Hp}{l vs:List V}{ms:List Ds}{I:List (List Addr)}(h:RV b H D vs ms I)(k:Kt b H H')(J:H b=some (.lst l)):RV b H' D vs ms I:=
 ⟨k.lst (h.nb D Q02) h.at_,h.r.kt k J λz=>h.nb b (Q07 _ z) rfl,h.nb⟩
theorem Rr.tie {key by_ x:Str}{fs:Fs}{ns:List Int}{n:Int}{ms:List Ds}(nd:fs.names.Nodup)(Y:fs.pl x)(U:key≠x)(h:Rr key by_ fs ms):Rr key by_ fs (iL key by_ (jO ns x ms n).1):=by
 have J:=uE (ns:=ns) (n:=n) nd Y h.ok ms.length;rw[Q0p] at J;have L:=lZ key by_ (jO ns x ms n).1;have kn:((jO ns x ms n).1.map λm=>keyOf m key).Nodup:=by rw[J.ks key U];exact h.kn
 have I:=(L.map λm=>keyOf m key).nodup_iff.mpr kn;exact⟨λm hm=>J.ok m (L.mem_iff.mp hm),I,by rw[L.length_eq,J.len];exact h.len,rd (rb key by_ _) I⟩
theorem xu {x:Str}{ns:List Int}{n:Int}:∀{ms:List Ds},(jO ns x ms n).2=n+ms.length:=λ{ms}=>by
 have key:∀(ms:List Ds) (q:List Ds × Int),(ms.foldl (qt ns x) q).2=q.2+ms.length:=λms=>by
  induction ms with
  |nil=>intro q;simp
  |cons m r I=>
   intro q;show(r.foldl (qt ns x) (qt ns x q m)).2=_;rw[I];show q.2+1+(r.length:Int)=q.2+((r.length+1:Nat):Int);omega
 exact key ms ([],n)
theorem Ds.uF {x:Str}:∀{m:Ds},m.Sm->(m.del x).Sm
 | .nil,h=>h
 | .cons y d r,h=>by
   unfold Ds.Sm at h;unfold Ds.del;split
   . exact Ds.uF h.2
   . unfold Ds.Sm;exact⟨h.1,Ds.uF h.2⟩
theorem Ds.xw {x:Str}:∀m:Ds,(m.del x).len<=m.len
 | .nil=>Q00 _
 | .cons y d r=>by
   have:=Ds.xw (x:=x) r;unfold Ds.del;split
   . show _<=r.len+1;omega
   . show(r.del x).len+1<=r.len+1;omega
theorem Ga {x y:Str}{fs:Fs}{ms:List Ds}{ks:List Key}{N:Nat}(Y:fs.dB<=N)(h:∀m∈ms,j9 fs m):(D.lst (ic (iT x y ms ks))).dep<=N+6:=by
 have h1:∀g∈iT x y ms ks,g.dep<=N+4:=λg L=>by
  obtain⟨v,_,rfl⟩:=List.mem_map.mp L
  have h2:(ic (iC x ms v)).dep<=N+2:=pS λm U=>by
   obtain⟨J,I,rfl⟩:=List.mem_map.mp U;have:=(h J (List.mem_filter.mp I).1).2.1;exact Q0d (Ds.wD x J) (by omega)
  unfold j_;simp only[Ds.dep,D.dep,wF];omega
 have:=pS h1;simp only[D.dep];omega
theorem Gb {x y:Str}{fs:Fs}{ms:List Ds}{ks:List Key}(hl:ms.length<=30)(Y:ks.length<=30)(h:∀m∈ms,j9 fs m):(D.lst (ic (iT x y ms ks))).Sm:=by
 unfold D.Sm;refine⟨by rw[l4];unfold iT;rw[Q0];omega,p8 λg L=>?_⟩;obtain⟨v,_,rfl⟩:=List.mem_map.mp L;unfold j_ D.Sm;refine⟨by show 2<=100;decide,?_⟩;unfold Ds.Sm;refine⟨wG v,?_⟩;unfold Ds.Sm;refine⟨?_,by unfold Ds.Sm;trivial⟩;unfold D.Sm;refine⟨?_,p8 λm U=>?_⟩
 . rw[l4];unfold iC;rw[Q0];have:=Q1 (jv x v) ms;omega
 . obtain⟨J,I,rfl⟩:=List.mem_map.mp U;have:=(h J (List.mem_filter.mp I).1).2.2;unfold D.Sm at this ⊢;exact⟨Q0d (Ds.xw J) this.1,Ds.uF this.2⟩
theorem GV.len {x:Str}{ms:List Ds}{ks:List Key}(h:GV x ms ks):ks.length<=ms.length:=by
 have I:=qi (ms.map λm=>keyOf m x);rw[Q0] at I;rw[h.1.length_eq];exact I
theorem Gc {key by_ x:Str}{fs:Fs}{ms:List Ds}(I:fs.names.Nodup)(J:fs.pl x)(h:∀m∈ms,gU fs m):AL (.rows key by_ fs) (.lst (ic (ms.map (phi x)))) (.lst (ic ms)):=by
 refine⟨_,_,rfl,rfl,by rw[l4,l4,Q0],λi Y e2 h1 h2=>?_⟩
 have hi:i<ms.length:=by
  have:=Ds.Ey h2;rw[l4] at this;exact this
 rw[ug (by rw[Q0];exact hi)] at h1;rw[ug hi] at h2
 cases h1
 cases h2
 have L:(ms.map (phi x)).getD i .nil=phi x (ms.getD i .nil):=by
  rw[Q05,Q05,Q0h,Q03 hi];rfl
 have U:ms.getD i .nil∈ms:=by
  rw[Q05,Q03 hi];exact Q0r _
 exact⟨_,_,rfl,rfl,by rw[L];exact FD I (h _ U) J⟩
theorem Ds.Gd {x:Str}{e:D}(I:e.Sm):∀{m:Ds},m.Sm->(m.snoc x e).Sm
 | .nil,_=>by
   show Ds.Sm (.cons x e .nil);unfold Ds.Sm;exact⟨I,by unfold Ds.Sm;trivial⟩
 | .cons y d r,h=>by
   unfold Ds.Sm at h;show Ds.Sm (.cons y d (r.snoc x e));unfold Ds.Sm;exact⟨h.1,Ds.Gd I h.2⟩
theorem Ge {x:Str}{fs:Fs}{ms:List Ds}{N:Nat}(U:fs.dB<=N)(h:∀m∈ms,j9 fs m):(D.lst (ic (ms.map (phi x)))).dep<=N+6:=by
 have h1:∀g∈ms.map (phi x),g.dep<=N+4:=λg I=>by
  obtain⟨m,J,rfl⟩:=List.mem_map.mp I;have h2:=(h m J).2.1;have L:=Ds.EA x (kD (keyOf m x)) (m.del x);have Y:=Ds.wD x m;rw[wF] at L;unfold phi;omega
 have:=pS h1;simp only[D.dep];omega
theorem Gf {x:Str}{fs:Fs}{ms:List Ds}(hl:ms.length<=30)(Y:fs.names.length<=12)(h:∀m∈ms,j9 fs m):(D.lst (ic (ms.map (phi x)))).Sm:=by
 unfold D.Sm;refine⟨by rw[l4,Q0];omega,p8 λg L=>?_⟩;obtain⟨m,U,rfl⟩:=List.mem_map.mp L;have I:=h m U;have J:=I.2.2;unfold D.Sm at J ⊢;refine⟨?_,Ds.Gd (wG _) (Ds.uF J.2)⟩;unfold phi;rw[<-o3,Ds.wB,Q09,o3];have:=Ds.xw (x:=x) m;have e:m.len=fs.names.length:=by rw[<-o3,I.1.names]
 show(m.del x).len+1<=100;omega
theorem Rr.dep {key by_:Str}{fs:Fs}{ms:List Ds}{N:Nat}(h:Rr key by_ fs ms)(J:fs.dB<=N):(D.lst (ic ms)).dep<=N+6:=by
 have:=pS (l:=ms) (n:=N+1) λm I=>by have:=(h.ok m I).2.1;omega
 simp only[D.dep];omega
theorem Rr.sm {key by_:Str}{fs:Fs}{ms:List Ds}(h:Rr key by_ fs ms):(D.lst (ic ms)).Sm:=by
 unfold D.Sm;exact⟨by rw[l4];have:=h.len;omega,p8 λm I=>(h.ok m I).2.2⟩
section
variable {K:W.Frag}{Ts:List (Addr × Pos × Str)}{a b:Addr}{ns:List Int}{n n':Int}{H H':Hp}
theorem Gg:∀{Ts:List (Addr × Pos × Str)},(Ts.map (·.1)).Nodup->∀{q J:Addr × Pos × Str},q∈Ts->J∈Ts->q.1=J.1->q=J
 |[],_,_,_,h,_,_=>nomatch h
 |t::r,nd,q,J,h,h',e=>by
  have nd:(t.1::r.map (·.1)).Nodup:=nd;obtain⟨L,U⟩:=List.nodup_cons.mp nd;rcases List.mem_cons.mp h with z|z
  . rcases List.mem_cons.mp h' with I|I
    . rw[z,I]
    . exact absurd (by rw[<-z,e];exact Q0y (f:=λq:Addr × Pos × Str=>q.1) I) L
  . rcases List.mem_cons.mp h' with I|I
    . exact absurd (by rw[<-I,<-e];exact Q0y (f:=λq:Addr × Pos × Str=>q.1) z) L
    . exact Gg U z I e
theorem RW.gl (nd:(Ts.map (·.1)).Nodup)(h:RW K Ts a b ns n H)(bs:List Addr)(L:List (Addr × Pos × Str))(Y:∀q∈L,q∈Ts)(I:∀c∈bs,∃l,H c=some (.lst l))(k:∀c o,c ∉ bs->c ∉ L.map (·.1)->H c=some o->H' c=some o)(hT:∀q∈L,gy q.1 q.2.1 q.2.2 H')
 (hb:H' b=some (.lst [.int n'])) (hn:n<=n'):RW K Ts a b ns n' H':=by
 refine h.go (S:=bs++L.map (·.1)) (λc o hc e=>k c o (λz=>hc (Q0t _ z)) (λz=>hc (Q08 _ z)) e) (λp hp=>?_) hb hn λq U hc=>?_
 . rcases List.mem_append.mp hp with z|z
   . exact .inl (I p z)
   . obtain⟨q,U,rfl⟩:=List.mem_map.mp z;exact .inr (h.t q (Y q U)).tab
 . rcases List.mem_append.mp hc with z|z
   . obtain⟨l,e⟩:=I _ z;obtain⟨ps,e'⟩:=(h.t q U).tab;rw[e] at e';cases e'
   . obtain⟨q',J,e⟩:=List.mem_map.mp z;rw[Gg nd U (Y q' J) e.symm];exact hT q' J
end
noncomputable abbrev T7 (Pt Ps Pi Po Pf Pn Pg:Addr):List (Addr × Pos × Str):=[(Pt,jm,jn),(Ps,nR,nS),(Pi,lB,lC),(Po,l5,l6),(Pf,jT,jU),(Pn,o9,o_),(Pg,qp,qq)]
abbrev R7 (K:W.Frag) (Pt Ps Pi Po Pf Pn Pg a b:Addr) (ns:List Int) (n:Int) (H:Hp):Prop:=RW K (T7 Pt Ps Pi Po Pf Pn Pg) a b ns n H
section
variable {K:W.Frag}{Pt Ps Pi Po Pf Pn Pg a b:Addr}{ns:List Int}{n:Int}{H:Hp}
theorem RW.vo (h:R7 K Pt Ps Pi Po Pf Pn Pg a b ns n H):gy Pt jm jn H:=h.t (Pt,jm,jn) (by simp)
theorem RW.so (h:R7 K Pt Ps Pi Po Pf Pn Pg a b ns n H):gy Ps nR nS H:=h.t (Ps,nR,nS) (by simp)
theorem RW.io (h:R7 K Pt Ps Pi Po Pf Pn Pg a b ns n H):gy Pi lB lC H:=h.t (Pi,lB,lC) (by simp)
theorem RW.oo (h:R7 K Pt Ps Pi Po Pf Pn Pg a b ns n H):gy Po l5 l6 H:=h.t (Po,l5,l6) (by simp)
theorem RW.sf (h:R7 K Pt Ps Pi Po Pf Pn Pg a b ns n H):gy Pf jT jU H:=h.t (Pf,jT,jU) (by simp)
theorem RW.gk (h:R7 K Pt Ps Pi Po Pf Pn Pg a b ns n H):gy Pn o9 o_ H:=h.t (Pn,o9,o_) (by simp)
theorem RW.sh (h:R7 K Pt Ps Pi Po Pf Pn Pg a b ns n H):gy Pg qp qq H:=h.t (Pg,qp,qq) (by simp)
end
theorem Kn.gX {P L:Addr}{Y I:Pos}{ql J:Str}{H H':Hp}(k:gP P L H H')(h1:gy P Y ql H)(h2:gy L I J H):Kn H H':=λc o U e=>by
 obtain⟨p1,e1⟩:=h1.tab;obtain⟨p2,e2⟩:=h2.tab;exact k c o (λz=>z.elim (gR e e1 (U p1)) (gR e e2 (U p2))) e
structure RS (K:W.Frag) (Pt Ps Pi Po Pf Pn Pg a b:Addr) (ns:List Int) (n:Int) (C v dx pk pb qs:Addr) (key by_ x y:Str) (kx:Kd) (zs:List Zd) (D1:Addr) (v1:List V) (ms1:List Ds) (f1:List (List Addr)) (D2:Addr) (v2:List V) (f2:List (List Addr)) (D3:Addr) (v3:List V) (n6:List Ds) (f3:List (List Addr)) (H:Hp):Prop where
 w:R7 K Pt Ps Pi Po Pf Pn Pg a b ns n H
 v1:RV b H D1 v1 ms1 f1
 v2:RV b H D2 v2 ms1 f2
 v3:RV b H D3 v3 n6 f3
 v:nZ H C v dx x y
 k:lD H pk pb key by_ x y kx zs
 sh:lE H qs key by_ x y kx zs
section
variable {K:W.Frag}{Pt Ps Pi Po Pf Pn Pg a b:Addr}{ns:List Int}{n:Int}{C v dx pk pb qs:Addr}{key by_ x y:Str}{kx:Kd}{zs:List Zd}{D1:Addr}{v1:List V}{ms1:List Ds}{f1:List (List Addr)}{D2:Addr}{v2:List V}{f2:List (List Addr)}{D3:Addr}{v3:List V}{n6:List Ds}{f3:List (List Addr)}{H H':Hp}
theorem RS.kn (h:RS K Pt Ps Pi Po Pf Pn Pg a b ns n C v dx pk pb qs key by_ x y kx zs D1 v1 ms1 f1 D2 v2 f2 D3 v3 n6 f3 H)(k:Kn H H')(w:R7 K Pt Ps Pi Po Pf Pn Pg a b ns n H'):RS K Pt Ps Pi Po Pf Pn Pg a b ns n C v dx pk pb qs key by_ x y kx zs D1 v1 ms1 f1 D2 v2 f2 D3 v3 n6 f3 H':=
 have I:=h.w.g.at_
 ⟨w,h.v1.kt k.kt I,h.v2.kt k.kt I,h.v3.kt k.kt I,k _ _ (by intro ps z;cases z) h.v,h.k.mono k.tu,h.sh.mono k.tu⟩
theorem RS.same (h:RS K Pt Ps Pi Po Pf Pn Pg a b ns n C v dx pk pb qs key by_ x y kx zs D1 v1 ms1 f1 D2 v2 f2 D3 v3 n6 f3 H)(s:Same H H'):RS K Pt Ps Pi Po Pf Pn Pg a b ns n C v dx pk pb qs key by_ x y kx zs D1 v1 ms1 f1 D2 v2 f2 D3 v3 n6 f3 H':=h.kn (Kn.of s) (h.w.same s)
theorem RS.put (I:((T7 Pt Ps Pi Po Pf Pn Pg).map (·.1)).Nodup)(h:RS K Pt Ps Pi Po Pf Pn Pg a b ns n C v dx pk pb qs key by_ x y kx zs D1 v1 ms1 f1 D2 v2 f2 D3 v3 n6 f3 H)(kp:gP Pf Pi H H')(h1:gy Pf jT jU H')(h2:gy Pi lB lC H'):RS K Pt Ps Pi Po Pf Pn Pg a b ns n C v dx pk pb qs key by_ x y kx zs D1 v1 ms1 f1 D2 v2 f2 D3 v3 n6 f3 H':=
 have kn:=Kn.gX kp h.w.sf h.w.io
 h.kn kn (h.w.gl I [] [(Pf,jT,jU),(Pi,lB,lC)] (by simp) (λc hc=>(nomatch hc)) (λc o _ q e=>kp c o (λz=>q (by rcases z with z|z <;> rw[z] <;> simp)) e) (λq J=>by
   rcases List.mem_cons.mp J with z|z
   . rw[z];exact h1
   . rw[List.mem_singleton.mp z];exact h2) (kn.lst h.w.g.at_) (Q1j _))
end
theorem NU {A B:TS}{D:Ends}{σ:L2.St}{H:Hp}(Pv:L2.St->Hp->Prop)(J:∀I H',Pv I H'->B D I H')(L:∀N:L2.St->Hp->Prop,(∀I H',Pv I H'->N I H')->A { D with nx:=N } σ H):sg A B D σ H:=L _ J
theorem jx {A B:TS}{D:Ends}{σ:L2.St}{H:Hp}(k:∀N:L2.St->Hp->Prop,(∀σ H,B D σ H->N σ H)->A { D with nx:=N } σ H):sg A B D σ H:=k (B D) λ_ _ h=>h
def Gh (K:W.Frag) (Pt Ps Pi Po Pf Pn Pg:Addr):Sp:=λvs H Q _=>∃a b ns n,vs=[.ref a,.ref b]/\R7 K Pt Ps Pi Po Pf Pn Pg a b ns n H/\n<=100000000000/\∀n' H',R7 K Pt Ps Pi Po Pf Pn Pg a b ns n' H'->n'<=n+10000000->Q (.bl true) H'
section
variable {P:Program}{w:World}{K:W.Frag}{mg:Str->Option Value}{base:Heap}
variable {C Pt Ps Pi Po Pf Pn Pg:Addr}
theorem NV:gQ XE XB (gp (top 58)):=g_
theorem NW (az:((T7 Pt Ps Pi Po Pf Pn Pg).map (·.1)).Nodup)(T:Tb mg)(OF:o8 K mg C L aa ap cU ak aj)(bo:Dn K mg "_law_round" gL (top 58) bp bq)(bB:Dn K mg "_law_next" gL (top 32) bC bD)(bE:gc P w K mg base gf (1) bC bD gL (my K))(aq:Dn K mg "_law_group_kind" jF (top 53) ar au)(av:gc P w K mg base gf (8) ar au jF (FU K Pn))(bF:Dn K mg "_law_pool" tK (top 46) bG bH)(bI:gc P w K mg base gf (130) bG bH tK (EY K Pt 60))(a7:Dn K mg "_law_plains" pY (top 51) a8 a9)(ba:gc P w K mg base gf (1) a8 a9 pY (wX))(aB:Dn K mg "_law_stranger" pZ (top 45) aC aD)(aE:gc P w K mg base gf (2) aC aD pZ (wZ K))(af:Dn K mg "_law_some" rq (top 47) bJ bK)(ag:gc P w K mg base gf (130) bJ bK rq (EF K Pt Ps 60))(ah:Dn K mg "_law_ties" tY (top 52) bL bM)(ai:gc P w K mg base gf (9) bL bM tY (F8 K Po))(aw:Dm K "__init__" "Group.__init__" tQ (h8 30 0) L ax)(ay:gc P w K mg base gf (1) L ax tQ (FJ C))(al:Dn K mg "_law_group_shown" rA (top 55) am an)(ao:gc P w K mg base gf (8) am an rA (FO Pg))(aH:Dm K "behind" "Group.behind" p0 (h8 30 1) aa aJ)(aK:gc P w K mg base gf (10) aa aJ p0 (xp Pf C))(bb:Dm K "grade" "View.grade" ["self"] (h8 23 3) ak bc)(bd:gc P w K mg base gf (1) ak bc ["self"] (FL))(aY:Dm K "keeps" "Group.keeps" tR (h8 30 4) aj aZ)(a1:gc P w K mg base gf (1) aj aZ tR (FK))(br:Dm K "see" "Group.see" tU (h8 30 2) ap bt)(bu:gc P w K mg base gf (3) ap bt tU (FY C))(I:Dn K mg "_law_groups" tX (top 57) be bf)(J:gc P w K mg base gf (2) be bf tX (F6))(U:Dn K mg "_law_alike" kX (top 43) bv bw)(Y:gc P w K mg base gf (19) bv bw kX (qe 18))(ab:Dn K mg "_law_same_end" kX (top 49) aL aM)(ac:gc P w K mg base gf (20) aL aM kX (F_ 18))(aQ:Dn K mg "_law_put" tZ (top 48) bX bY)(aT:gc P w K mg base gf (130) bX bY tZ (F9 18 Pf Pi C)):gc P w K mg base gf (132) bp bq gL (Gh K Pt Ps Pi Po Pf Pn Pg):=by
 have cn:=OF.Nb;have cT:=OF.m;have CT:=OF.ct;have b6:=OF.b;have dj:=OF.s;have co:=OF.g;have cp:=OF.k;have a2:=bd;have a3:=bb;refine bo.F.ok NV λvs H Q E h=>?_;obtain⟨a,b,ns,n,rfl,W,hn,q⟩:=h;refine⟨rfl,λfN A outer s nd hr hu=>?_⟩;have fi:=Q1n (Q2f (by decide:6<=64) _) hr.units
 refine⟨_,(e_ (gA 2 nd (gv bE hr bB (a_ (pv 0) (a_ (pv 1) b_))))
  (e_ (gA 3 nd (gn j0 c_ (gn ir (pv 2) c_)))
  (e_ (gA 4 nd c_)
  (e_ (gF (gE iu (gn ir (gn jc (pv 2) c_) c_) c_ (gC _)) (e_ (gA 3 nd c_)
  (gi (gA 4 nd c_))) gH)
  (e_ (v8 5 nd (gv av hr aq (a_ (pv 0) (a_ (pv 1) (a_ (pv 4) b_)))))
  (e_ (gA 6 nd (gv bI hr bF (a_ (pv 0) (a_ (pv 1) (a_ (pv 5) (a_ (pv 3) b_))))))
  (e_ (qX (i:=7) nd rfl iG (g:=(iH 0)) (tt:=(jI (ie _ (gJ 0) (ie (i9 K) (gJ 6) (tC (.int 1)))))) (te:=(gJ 0)) (own:=["_law_name"]) rfl (jE (N:=XE) (sc:=gp (top 58))) (kP (gv ba hr a7 (a_ (pv 5) b_))) (λ_ _ _ _ _=>(gY (i:=0) (show(["_law_name","_law_script","_law_at","_law_m","_law_many","_law_deep","_law_kind_here","_law_pool_here","_law_plains_here","_law_field","_law_into","_law_begin","_law_source","_law_twin","_law_other","_law_view","_law_shown","_law_told","_law_seen","_law_old"]:List Str).Nodup by decide +kernel) rfl (Or.inl rfl) (.inr rfl))) (λ_ _ _ _ _=>(lY (gE j1 (pv 0) (gq (pv 6) c_) (gC _)))) (λ_ _ _ _ _=>(pv 0)))
  (e_ (gA 8 nd (ju (pv 7) (gn ir (gn jc (pv 2) c_) (ij jr (by rfl) T.ja PySem.boot_len (a_ (pv 7) b_)))))
  (e_ (gA 9 nd (ju (iV (a_ (gq (pv 5) c_) (a_ (gv aE hr aB (a_ (pv 0) (a_ (pv 1) (a_ (iV (a_ (pv 8) b_)) b_)))) b_))) (gn ir (gn jc (pv 2) c_) c_)))
  (e_ (gA 10 nd (iV (a_ (ju (pv 1) c_) b_)))
  (e_ (gA 11 nd (gv ai hr ah (a_ (pv 0) (a_ (pv 1) (a_ (pv 5) (a_ (pv 8) (a_ (gv ag hr af (a_ (pv 0) (a_ (pv 1) (a_ (pv 5) (a_ (pv 6) (a_ c_ b_)))))) b_)))))))
  (e_ (gA 12 nd (gv ai hr ah (a_ (pv 0) (a_ (pv 10) (a_ (pv 5) (a_ (pv 8) (a_ (gv ag hr af (a_ (pv 0) (a_ (pv 10) (a_ (pv 5) (a_ (pv 6) (a_ c_ b_)))))) b_)))))))
  (e_ (gA 13 nd (gv ai hr ah (a_ (pv 0) (a_ (pv 1) (a_ (pv 5) (a_ (pv 8) (a_ (gv ag hr af (a_ (pv 0) (a_ (pv 1) (a_ (pv 5) (a_ (pv 6) (a_ c_ b_)))))) b_)))))))
  (e_ (gA 14 nd (Iq cn ay (hr.mono (by decide)) rfl cT aw.b .nil lh (a_ (pv 8) (a_ (pv 9) b_))))
  (e_ (gA 15 nd (gv ao hr al (a_ (pv 5) (a_ (pv 8) (a_ (pv 9) b_)))))
  (e_ (gF (PW.pt (kg (gE (J4 (n:=5) fi) (qM (pv 14) CT b6 aK (hr.mono (by decide)) aH.b .nil lh (a_ (pv 5) b_)) (pv 15) (gC _)) (kg (gE j1 (Im (pv 14) CT co a2 (hr.mono (by decide)) a3.b .nil lh) gW (gC _)) (kM (gE NT (qM (pv 14) CT cp a1 (hr.mono (by decide)) aY.b .nil lh (a_ (gq (pv 5) c_) b_)) jz (gC _)))))) (gi (gw jz)) gH)
  (e_ (gA 16 nd (qM (pv 14) CT dj bu (hr.mono (by decide)) br.b .nil lh (a_ (pv 5) (a_ (pv 11) b_))))
  (e_ (gF (jq (jf (gv Y hr U (a_ (pv 15) (a_ (pv 16) (a_ (gv J hr I (a_ (pv 8) (a_ (pv 9) (a_ (pv 12) b_)))) b_)))))) (gi (gw jz)) gH)
  (e_ (gF (jq (jf (gv ac hr ab (a_ (pv 5) (a_ (gv aT hr aQ (a_ (pv 14) (a_ (pv 5) (a_ (pv 11) (a_ (pv 16) b_))))) (a_ (iP (a_ gW (a_ (pv 12) b_))) b_)))))) (gi (gw jz)) gH)
  (e_ (gA 17 nd (gv J hr I (a_ (pv 8) (a_ (pv 9) (a_ (pv 13) b_)))))
  (e_ (jk PassesOwn.never rfl (kP (iV (a_ (pv 11) (a_ (iV b_) b_)))) (gY (i:=18) nd rfl iG) (gi (gF (jq (jf (gv ac hr ab (a_ (pv 5) (a_ (gv aT hr aQ (a_ (pv 14) (a_ (pv 5) (a_ (pv 18) (a_ (pv 17) b_))))) (a_ (iP (a_ gW (a_ (pv 13) b_))) b_)))))) (gi (gw jz)) gH)))
  (gi (gw (ng (gv Y hr U (a_ (pv 15) (a_ (pv 17) (a_ (gv J hr I (a_ (pv 8) (a_ (pv 9) (a_ (pv 13) b_)))) b_)))) (ot (gv Y hr U (a_ (pv 5) (a_ (pv 11) (a_ (pv 12) b_))))))))))))))))))))))))))))),?_⟩
 ac_rfl
 refine jx λN hN=>?_;refine⟨_,rfl,_,rfl,a,b,ns,n,rfl,W.g,by omega,λm H1 m0 m1 ee cV=>hN _ _ (jx λN hN=>?_)⟩;have W1:=W.sb ee cV (by omega);clear ee cV W;refine⟨_,rfl,_,_,rfl,rfl,(by show(0:Int)<5;decide),_,_,rfl,rfl,hN _ _ (jx λN hN=>hN _ _ ?_)⟩;dsimp only[iH];refine NU (A:=lP _ _ _) (λbZ H'=>∃mn d:Nat,bZ=[some (.ref a),some (.ref b),some (.int m),some (.int mn),some (.int d),none,none,none,none,none,none,none,none,none,none,none,none,none,none]/\H'=H1/\mn<=30/\(d=0\/d=1)) ?_ (λN hB=>?_);rotate_left
 . refine⟨_,rfl,_,_,rfl,rfl,⟨by decide,by decide⟩,_,_,rfl,rfl,(by show(0:Int)<11;decide),rfl,_,rfl,h_ (λc=>?_) (λc=>?_)⟩
   . exact hB _ _ ⟨30,0,rfl,rfl,by decide,.inl rfl⟩
   . refine hB _ _ ⟨(1+m % 5).toNat,1,?_,rfl,by omega,.inr rfl⟩;have e:(((1+m % 5).toNat:Nat):Int)=1+m % 5:=by omega
     rw[e];rfl
 rintro bZ H2 h2;refine jx λN hN=>?_;obtain⟨mn,d,rfl,rfl,fO,hd⟩:=h2;have cV:=W1.g.at_;refine⟨_,rfl,_,rfl,_,rfl,a,b,ns,n+1,d,rfl,hd,W1.g,by omega,W1.gk,λpk pb key by_ zs n2 H3 ef eg eh l1 l2 aU bg hZ hW e9 fa fj fk=>hN _ _ (jx λN hN=>?_)⟩;have W3:R7 K Pt Ps Pi Po Pf Pn Pg a b ns n2 H3:=W1.gl az [b] [(Pn,o9,o_)] (by simp) (λc hc=>by rw[List.mem_singleton.mp hc];exact⟨_,cV⟩) (λc o h1 h2 e=>ef c o (λz=>z.elim (λz=>h1 (by rw[z];exact Q02)) λz=>h2 (by rw[z];exact Q02)) e) (λq hq=>by rw[List.mem_singleton.mp hq];exact eg) eh l1;clear ef eg eh W1;have ei:=hW;unfold Kd.W at ei;obtain⟨aV,aW,dJ,b7,dL⟩:=ei;have cq:(gm zs).dB<=12:=by have:=rg (gm zs);omega
 have fP:((gm zs).cB:Int)<=14400:=by
  have h1:=rf (gm zs) 1 dJ e9;have h2:CB 1=1200:=rfl;have h3:(gm zs).names.length * CB 1<=12 * CB 1:=Q18 _ aW;omega
 have dM:mu (.iD (gm zs)) 2<=60:=by have:=we (.iD (gm zs)) 2;simp only[Kd.dep] at this;omega
 refine⟨_,rfl,_,rfl,_,rfl,_,rfl,a,b,ns,n2,pk,pb,_,key,by_,gm zs,mn,rfl,W3.g,W3.vo,aU,bg,kZ hZ,hW,by omega,by omega,by decide,λDp ps n3 H4 dN ej w1 w2 ek fl cr ae cW fK cX=>hN _ _ (jx λN hN=>?_)⟩;have W4:R7 K Pt Ps Pi Po Pf Pn Pg a b ns n3 H4:=W3.gl az [b] [(Pt,jm,jn)] (by simp) (λc hc=>by rw[List.mem_singleton.mp hc];exact⟨_,W3.g.at_⟩) (λc o h1 h2 e=>dN c o (λz=>z.elim (λz=>h1 (by rw[z];exact Q02)) λz=>h2 (by rw[z];exact Q02)) e) (λq hq=>by rw[List.mem_singleton.mp hq];exact ek) ej w1;have cY:=dN.tu W3.g.at_ W3.vo;replace aU:=cY _ _ aU;replace bg:=cY _ _ bg;replace hZ:=hZ.mono cY;clear dN ej ek fl W3 cY;have fm:zs.length<=12:=by rw[<-mz,<-kJ];exact aW
 refine⟨_,rfl,pk,pb,key,by_,_,gm zs,rfl,aU,bg,kZ hZ,aW,λL1 H5 s5 fo dO=>?_⟩;refine⟨L1,rfl,⟨_,f_.of dO⟩,mY (wO (f_.of dO)) (λi=>(((js (gm zs) (gG zs).length).take i).filter λnm=>decide (nm≠key)).map V.str) (by rw[Q0];exact Q0d (xr _ _) (by rw[jM];omega)) (λL2 el=>hN _ _ ?_) (λi x hx add skip=>?_)⟩
 case refine_2=>
  obtain⟨nm,en,rfl⟩:=Option.map_eq_some_iff.mp (List.getElem?_map.symm.trans hx);refine⟨rfl,_,rfl,_,rfl,pk,_,_,_,rfl,rfl,f9.of (s5 _ _ aU),rfl,rfl,_,rfl,h_ (λcc=>⟨_,rfl,add _ ?_⟩) (λcc=>skip ?_)⟩
  . have cc:decide (nm≠key)=true:=decide_eq_true λe=>by
     rw[e] at cc;simp at cc
    rw[nV en cc]
  . have cc:¬decide (nm≠key)=true:=λe=>cc (by
     show(!decide (V.str nm=V.str key))=true;rw[decide_eq_false λy=>of_decide_eq_true e (V.str.inj y)];rfl)
    rw[nW en cc]
 rw[Q0,Q0p]
 have eo:∀nm∈(js (gm zs) (gG zs).length).filter (λnm=>decide (nm≠key)),nm≠key/\(gm zs).pl nm:=λnm h=>by
  obtain⟨h1,h2⟩:=List.mem_filter.mp h;exact⟨of_decide_eq_true h2,FT aV h1⟩
 have fb:0<((js (gm zs) (gG zs).length).filter λnm=>decide (nm≠key)).length:=by
  obtain⟨x,fp,k,fq,fr⟩:=fk;refine Q2q (a:=x) (List.mem_filter.mpr ⟨?_,decide_eq_true fp⟩);obtain⟨j,hj⟩:=Fs.uq fq
  have fv:j<zs.length:=by
   have:=Fs.mr (gm zs) j;rw[hj] at this;have:=(List.getElem?_eq_some_iff.mp this).1;rw[kJ,mz] at this;exact this
  unfold js;refine List.mem_map.mpr ⟨(x,k),List.mem_filter.mpr ⟨?_,xm fr⟩,rfl⟩;refine Q0j (i:=j) ?_;rw[Q2x (by rw[jM];exact fv),Fs.uf];exact hj
 have ec:((js (gm zs) (gG zs).length).filter λnm=>decide (nm≠key)).length<=12:=Q0d (Q1 _ _) (Q0d (xr _ _) (by rw[jM];exact fm));generalize (js (gm zs) (gG zs).length).filter (λnm=>decide (nm≠key))=bN at *;have s6:=s5.trans (Same.new (o:=.lst (bN.map V.str)) el);have g6:=gh (H:=H5) (a:=L2) (o:=.lst (bN.map V.str));generalize upd H5 L2 (.lst (bN.map V.str))=H6 at s6 g6;have W6:=W4.same s6;replace aU:=s6 _ _ aU;replace bg:=s6 _ _ bg;replace hZ:=hZ.mono (Tu.of s6);replace ae:=s6 _ _ ae;clear s5 fo dO el W4 s6;refine jx λN hN=>?_;have b1:((bN.map V.str).length:Int)=(bN.length:Int):=by rw[Q0]
 have f0:=Q0m (m / 55) (show(bN.length:Int)≠0 by omega);have f1:=Q0n (m / 55) (show(0:Int)<(bN.length:Int) by omega);obtain⟨x,er,et⟩:=rD (ss:=bN) f0 f1;obtain⟨bh,aA⟩:=eo x (Q0j et);refine⟨_,rfl,_,rfl,_,_,rfl,rfl,⟨by decide,by decide⟩,_,rfl,L2,_,rfl,.inl (f_.of g6),_,_,rfl,rfl,(by rw[b1];omega),L2,_,_,_,rfl,rfl,f_.of g6,(by rw[b1];exact er),hN _ _ (jx λN hN=>?_)⟩;clear er et eo fb ec g6 b1 f0 f1;obtain⟨kx,cs,bO⟩:=aA;have fw:x≠"":=qo dJ cs
 have fx:key≠"":=by
  obtain⟨k,hk,_⟩:=b7;exact qo dJ hk
 refine⟨_,rfl,pk,_,_,_,rfl,rfl,f9.of aU,rfl,_,rfl,_,rfl,_,rfl,jR,λl7 eu=>?_⟩;have s7:=Same.new (o:=.lst [.str x]) eu;have g7:=gh (H:=H6) (a:=l7) (o:=.lst [.str x]);generalize upd H6 l7 (.lst [.str x])=H7 at s7 g7;have W7:=W6.same s7;refine⟨a,b,ns,n3,l7,[x],rfl,W7.g,by omega,g7,by show 1<=12;decide,λsx H8 dP ev dk dm=>⟨i3,λl9 ew=>?_⟩⟩;have W8:=W7.sb dP ev (by omega);have s9:=Same.new (o:=.lst [.str key,.str sx]) ew;have g9:=gh (H:=H8) (a:=l9) (o:=.lst [.str key,.str sx]);generalize upd H8 l9 (.lst [.str key,.str sx])=H9 at s9 g9;have W9:=W8.same s9;have dQ:Kt b H6 H9:=(Kt.of s7).trans ((Kt.sb dP).trans (Kt.of s9));have cZ:=dQ.tu W6.g.at_;replace aU:=cZ _ _ aU;replace bg:=cZ _ _ bg;replace hZ:=hZ.mono cZ;replace ae:=dQ.lst cr ae;clear s7 g7 dP ev s9 dQ cZ W6 W7 W8 eu ew
 have fy:∃y,i8 [V.str key,V.str sx] (m / 330 % 2)=some (.str y)/\x≠y/\y≠"":=by
  have h0:=Q0m (m / 330) (show(2:Int)≠0 by decide);have h1:=Q0n (m / 330) (show(0:Int)<2 by decide);rcases(show m / 330 % 2=0\/m / 330 % 2=1 by omega) with e|e
  . exact⟨key,by rw[e];exact ki (j:=0) rfl,bh,fx⟩
  . exact⟨sx,by rw[e];exact ki (j:=1) rfl,λz=>dk (by rw[z];exact Q02),dm⟩
 obtain⟨y,ey,bP,ez⟩:=fy;refine⟨_,rfl,_,_,rfl,rfl,⟨by decide,by decide⟩,_,_,rfl,rfl,(by show(0:Int)<2;decide),l9,_,_,_,rfl,rfl,f_.of g9,ey,hN _ _ (jx λN hN=>?_)⟩;clear ey g9 dk dm;have hK:lD H9 pk pb key by_ x y kx zs:=⟨aU,bg,hZ,hW,fa,cs,bO,Ne.symm bh,fj,bP,ez⟩;refine⟨_,rfl,b,_,_,_,rfl,rfl,f_.of W9.g.at_,ki (j:=0) rfl,jR,λb2 cf=>hN _ _ (jx λN hN=>?_)⟩;have cu:=Same.new (o:=.lst [.int (n3+1)]) cf;have c3:=gh (H:=H9) (a:=b2) (o:=.lst [.int (n3+1)]);have c4:b≠b2:=λz=>by rw[<-z,W9.g.at_] at cf;cases cf
 have cF:Dp≠b2:=λz=>by rw[<-z,ae] at cf;cases cf
 generalize upd H9 b2 (.lst [.int (n3+1)])=dR at cu c3;have a4:=W9.same cu;replace hK:=hK.mono (Tu.of cu);replace ae:=cu _ _ ae;clear cu cf W9 aU bg hZ;have dS:ps.length<=30:=by omega
 have fL:(ps.length:Int) * (((gm zs).cB:Int)+1)<=30 * 14401:=Q3l (by omega) (by omega) (by omega) (by omega)
 have so:∀n,qa (gm zs) key 2 ps n (iE ns key by_ (gm zs) 2 ps n):=λn=>by
  have:=wH (ns:=ns) (n:=n) (room:=2) (by_:=by_) hW (by decide) cX ps.length
  rwa [Q0p] at this
 have rr:∀n,Rr key by_ (gm zs) (iL key by_ (iE ns key by_ (gm zs) 2 ps n).1):=λn=>Rr.of (so n) cW (by omega);have aA:(gm zs).pl x:=⟨kx,cs,bO⟩
 have dU:Pt≠Ps:=by
  have:=az;simp only[T7,Q0v,Q1f,Q3m,Q1d,not_or] at this;exact this.1.1
 refine⟨_,rfl,_,rfl,_,rfl,_,rfl,_,rfl,_,rfl,_,rfl,_,rfl,a,b,ns,n3+1,pk,pb,_,key,by_,gm zs,Dp,ps,2,rfl,a4.g,a4.vo,a4.so,dU,hK.at_,hK.tu,kZ hK.z,hW,ae,cr,dS,cX,cW,by decide,dM,by omega,λD1 v1 f1 c5 b8 dn cG cH eA dV dW=>?_⟩;have lo1:=(so (n3+1)).lo;have fz:=(so (n3+1)).hi
 have b9:Kt b dR c5:=λc o hc ho e=>by
  obtain⟨p1,e1⟩:=a4.vo.tab;obtain⟨p2,e2⟩:=a4.so.tab;exact b8 c o (λz=>z.elim hc λz=>z.elim (gR e e1 (ho p1)) (gR e e2 (ho p2))) e
 have b3:R7 K Pt Ps Pi Po Pf Pn Pg a b ns (iE ns key by_ (gm zs) 2 ps (n3+1)).2 c5:=a4.gl az [b] [(Pt,jm,jn),(Ps,nR,nS)] (by simp) (λc hc=>by rw[List.mem_singleton.mp hc];exact⟨_,a4.g.at_⟩) (λc o h1 h2 e=>b8 c o (λz=>z.elim (λz=>h1 (by rw[z];exact Q02)) λz=>h2 (by rcases z with z|z <;> rw[z] <;> simp)) e) (λq hq=>by
  rcases List.mem_cons.mp hq with z|z
  . rw[z];exact cG
  . rw[List.mem_singleton.mp z];exact cH) dn lo1
 have eB:∀c∈D1::f1.flatten,c≠b:=λc hc z=>by have:=dW c hc;rw[z,a4.g.at_] at this;cases this
 replace hK:=hK.mono (b9.tu a4.g.at_);replace ae:=b9.lst cr ae;have eC:=b9.lst (Ne.symm c4) c3;have R1:=rr (n3+1);have fA:=(A3.len dV).1;have fB:=R1.len;refine⟨a,b,ns,_,pk,pb,key,by_,gm zs,x,D1,v1,_,f1,rfl,b3.g,by omega,hK.at_,eA,dV,eB,by omega,R1.ok,aV,aW,b7,dL,aA,Ne.symm bh,R1.kn,b3.oo,λD2 v2 f2 cw cI cJ dp eD eE eF=>hN _ _ (jx λN hN=>?_)⟩
 have ca:Kt b c5 cw:=λc o hc ho e=>by
  obtain⟨p1,e1⟩:=b3.oo.tab;exact cI c o (λz=>z.elim hc (gR e e1 (ho p1))) e
 rw[xu] at cJ;have b4:R7 K Pt Ps Pi Po Pf Pn Pg a b ns ((iE ns key by_ (gm zs) 2 ps (n3+1)).2+((iL key by_ (iE ns key by_ (gm zs) 2 ps (n3+1)).1).length:Int)) cw:=b3.gl az [b] [(Po,l5,l6)] (by simp) (λc hc=>by rw[List.mem_singleton.mp hc];exact⟨_,b3.g.at_⟩) (λc o h1 h2 e=>cI c o (λz=>z.elim (λz=>h1 (by rw[z];exact Q02)) λz=>h2 (by rw[z];exact Q02)) e) (λq hq=>by rw[List.mem_singleton.mp hq];exact dp) cJ (by omega)
 have dX:∀c∈D2::f2.flatten,c≠b/\dR c=none:=λc hc=>by
  obtain⟨h1,h2⟩:=eF c hc;refine⟨h1,?_⟩;rcases h2 with z|z
  . cases y:dR c with
    |none=>rfl
    |some o=>
     have ex:∃o',c5 c=some o':=by
      by_cases c1:c=Pt
      . obtain⟨p1,e1⟩:=cG.tab;exact⟨_,by rw[c1];exact e1⟩
      . by_cases c2:c=Ps
        . obtain⟨p2,e2⟩:=cH.tab;exact⟨_,by rw[c2];exact e2⟩
        . exact⟨o,b8 c o (λz=>z.elim h1 λz=>z.elim c1 c2) y⟩
     obtain⟨o',e'⟩:=ex;rw[z] at e';cases e'
  . exact dW c (Q07 _ z)
 have V1:RV b2 cw D2 v2 _ f2:=⟨eD,eE,λc hc z=>by have:=(dX c hc).2;rw[z,c3] at this;cases this⟩;have N1:∀c∈D2::f2.flatten,c≠b:=λc hc=>(dX c hc).1;replace hK:=hK.mono (ca.tu b3.g.at_);replace ae:=ca.lst cr ae;have eG:=ca.lst (Ne.symm c4) eC;have S1:=R1.tie (ns:=ns) (n:=(iE ns key by_ (gm zs) 2 ps (n3+1)).2) aV aA (Ne.symm bh);have a5:R7 K Pt Ps Pi Po Pf Pn Pg a b2 ns (n3+1) cw:=⟨⟨b4.g.kY,b4.g.len,eG,by have:=a4.g.pos;exact this⟩,b4.t⟩;clear b8 dn cG cH eA dV dW b9 eB cI cJ dp eD eE eF dX ca eC c3 b3 a4;refine⟨_,rfl,_,rfl,_,rfl,_,rfl,_,rfl,_,rfl,_,rfl,_,rfl,a,b2,ns,n3+1,pk,pb,_,key,by_,gm zs,Dp,ps,2,rfl,a5.g,a5.vo,a5.so,dU,hK.at_,hK.tu,kZ hK.z,hW,ae,cF,dS,cX,cW,by decide,dM,by omega,λD3 v3 f3 dY cK dq dt du eH dZ d0=>?_⟩
 have bU:Kt b2 cw dY:=λc o hc ho e=>by
  obtain⟨p1,e1⟩:=a5.vo.tab;obtain⟨p2,e2⟩:=a5.so.tab;exact cK c o (λz=>z.elim hc λz=>z.elim (gR e e1 (ho p1)) (gR e e2 (ho p2))) e
 have bQ:R7 K Pt Ps Pi Po Pf Pn Pg a b2 ns (iE ns key by_ (gm zs) 2 ps (n3+1)).2 dY:=a5.gl az [b2] [(Pt,jm,jn),(Ps,nR,nS)] (by simp) (λc hc=>by rw[List.mem_singleton.mp hc];exact⟨_,a5.g.at_⟩) (λc o h1 h2 e=>cK c o (λz=>z.elim (λz=>h1 (by rw[z];exact Q02)) λz=>h2 (by rcases z with z|z <;> rw[z] <;> simp)) e) (λq hq=>by
  rcases List.mem_cons.mp hq with z|z
  . rw[z];exact dt
  . rw[List.mem_singleton.mp z];exact du) dq lo1
 have eI:∀c∈D3::f3.flatten,c≠b2:=λc hc z=>by have:=d0 c hc;rw[z,a5.g.at_] at this;cases this
 have cL:=bU.lst c4 b4.g.at_;replace hK:=hK.mono (bU.tu a5.g.at_);replace ae:=bU.lst cF ae;replace V1:=V1.kt bU a5.g.at_;have fC:=(A3.len dZ).1;refine⟨a,b2,ns,_,pk,pb,key,by_,gm zs,x,D3,v3,_,f3,rfl,bQ.g,by omega,hK.at_,eH,dZ,eI,by omega,R1.ok,aV,aW,b7,dL,aA,Ne.symm bh,R1.kn,bQ.oo,λD4 v4 f4 cg cM dv dw eJ eK eL=>hN _ _ (jx λN hN=>?_)⟩
 have bV:Kt b2 dY cg:=λc o hc ho e=>by
  obtain⟨p1,e1⟩:=bQ.oo.tab;exact cM c o (λz=>z.elim hc (gR e e1 (ho p1))) e
 have dy:=bV.lst c4 cL;have c6:R7 K Pt Ps Pi Po Pf Pn Pg a b2 ns _ cg:=bQ.gl az [b2] [(Po,l5,l6)] (by simp) (λc hc=>by rw[List.mem_singleton.mp hc];exact⟨_,bQ.g.at_⟩) (λc o h1 h2 e=>cM c o (λz=>z.elim (λz=>h1 (by rw[z];exact Q02)) λz=>h2 (by rw[z];exact Q02)) e) (λq hq=>by rw[List.mem_singleton.mp hq];exact dw) dv (by rw[xu];omega);have aX:R7 K Pt Ps Pi Po Pf Pn Pg a b ns ((iE ns key by_ (gm zs) 2 ps (n3+1)).2+((iL key by_ (iE ns key by_ (gm zs) 2 ps (n3+1)).1).length:Int)) cg:=⟨⟨c6.g.kY,c6.g.len,dy,b4.g.pos⟩,c6.t⟩;replace hK:=hK.mono (bV.tu bQ.g.at_);replace ae:=bV.lst cF ae;replace V1:=V1.kt bV bQ.g.at_
 have V4:RV b cg D4 v4 _ f4:=⟨eJ,eK,λc hc z=>by
  rcases(eL c hc).2 with y|y
  . rw[z,cL] at y;cases y
  . have:=d0 c (Q07 _ y);rw[z,b4.g.at_] at this;cases this⟩
 have V1:RV b cg D2 v2 _ f2:=⟨V1.at_,V1.r,N1⟩;clear cK dq dt du eH dZ d0 bU eI cL cM dv dw eJ eK eL bV dy a5 bQ c6 b4 N1 eG;generalize fc:iL key by_ (jO ns x (iL key by_ (iE ns key by_ (gm zs) 2 ps (n3+1)).1) (iE ns key by_ (gm zs) 2 ps (n3+1)).2).1=ms1 at V1 V4 S1;have fD:(iE ns key by_ (gm zs) 2 ps (n3+1)).2+((iL key by_ (iE ns key by_ (gm zs) 2 ps (n3+1)).1).length:Int)<=n+1000000:=by omega
 generalize (iE ns key by_ (gm zs) 2 ps (n3+1)).2+((iL key by_ (iE ns key by_ (gm zs) 2 ps (n3+1)).1).length:Int)=n5 at *;clear fc lo1 fz R1 fB fA fC;have d1:=so n5;have R5:=rr n5;have eM:=d1.lo;have fE:=d1.hi;have fF:=R5.len;refine⟨_,rfl,_,rfl,_,rfl,_,rfl,_,rfl,_,rfl,_,rfl,_,rfl,a,b,ns,n5,pk,pb,_,key,by_,gm zs,Dp,ps,2,rfl,aX.g,aX.vo,aX.so,dU,hK.at_,hK.tu,kZ hK.z,hW,ae,cr,dS,cX,cW,by decide,dM,by omega,λD5 v5 f5 d2 cN dz dA dC eN d3 eO=>?_⟩
 have cb:Kt b cg d2:=λc o hc ho e=>by
  obtain⟨p1,e1⟩:=aX.vo.tab;obtain⟨p2,e2⟩:=aX.so.tab;exact cN c o (λz=>z.elim hc λz=>z.elim (gR e e1 (ho p1)) (gR e e2 (ho p2))) e
 have bz:R7 K Pt Ps Pi Po Pf Pn Pg a b ns (iE ns key by_ (gm zs) 2 ps n5).2 d2:=aX.gl az [b] [(Pt,jm,jn),(Ps,nR,nS)] (by simp) (λc hc=>by rw[List.mem_singleton.mp hc];exact⟨_,aX.g.at_⟩) (λc o h1 h2 e=>cN c o (λz=>z.elim (λz=>h1 (by rw[z];exact Q02)) λz=>h2 (by rcases z with z|z <;> rw[z] <;> simp)) e) (λq hq=>by
  rcases List.mem_cons.mp hq with z|z
  . rw[z];exact dA
  . rw[List.mem_singleton.mp z];exact dC) dz eM
 have eP:∀c∈D5::f5.flatten,c≠b:=λc hc z=>by have:=eO c hc;rw[z,aX.g.at_] at this;cases this
 replace hK:=hK.mono (cb.tu aX.g.at_);replace V1:=V1.kt cb aX.g.at_;replace V4:=V4.kt cb aX.g.at_;have fG:=(A3.len d3).1;refine⟨a,b,ns,_,pk,pb,key,by_,gm zs,x,D5,v5,_,f5,rfl,bz.g,by omega,hK.at_,eN,d3,eP,by omega,R5.ok,aV,aW,b7,dL,aA,Ne.symm bh,R5.kn,bz.oo,λD6 v6 f6 c7 cO cP dD eQ eR eS=>hN _ _ (jx λN hN=>?_)⟩
 have cd:Kt b d2 c7:=λc o hc ho e=>by
  obtain⟨p1,e1⟩:=bz.oo.tab;exact cO c o (λz=>z.elim hc (gR e e1 (ho p1))) e
 rw[xu] at cP;have cx:R7 K Pt Ps Pi Po Pf Pn Pg a b ns ((iE ns key by_ (gm zs) 2 ps n5).2+((iL key by_ (iE ns key by_ (gm zs) 2 ps n5).1).length:Int)) c7:=bz.gl az [b] [(Po,l5,l6)] (by simp) (λc hc=>by rw[List.mem_singleton.mp hc];exact⟨_,bz.g.at_⟩) (λc o h1 h2 e=>cO c o (λz=>z.elim (λz=>h1 (by rw[z];exact Q02)) λz=>h2 (by rw[z];exact Q02)) e) (λq hq=>by rw[List.mem_singleton.mp hq];exact dD) cP (by omega);replace hK:=hK.mono (cd.tu bz.g.at_);replace V1:=V1.kt cd bz.g.at_;replace V4:=V4.kt cd bz.g.at_;have V6:RV b c7 D6 v6 _ f6:=⟨eQ,eR,λc hc=>(eS c hc).1⟩;have S6:=R5.tie (ns:=ns) (n:=(iE ns key by_ (gm zs) 2 ps n5).2) aV aA (Ne.symm bh);clear cN dz dA dC eN d3 eO cb eP cO cP dD eQ eR eS cd aX bz ae;generalize ff:iL key by_ (jO ns x (iL key by_ (iE ns key by_ (gm zs) 2 ps n5).1) (iE ns key by_ (gm zs) 2 ps n5).2).1=bA at V6 S6;have fQ:(iE ns key by_ (gm zs) 2 ps n5).2+((iL key by_ (iE ns key by_ (gm zs) 2 ps n5).1).length:Int)<=n+2000000:=by omega
 generalize (iE ns key by_ (gm zs) 2 ps n5).2+((iL key by_ (iE ns key by_ (gm zs) 2 ps n5).1).length:Int)=n7 at *;clear ff eM fE d1 R5 fF fG so rr fD;refine⟨_,rfl,_,rfl,?_⟩;intro v dx hv eT _;refine⟨v,dx,x,y,rfl,gh,λeU keep hV=>⟨rfl,hN _ _ (jx λN hN=>?_)⟩⟩;have ci:Same c7 eU:=λc o e=>keep c o (gz e hv) (by rw[d_ (gz e hv),d_ (gz e eT)];exact e);replace hK:=hK.mono (Tu.of ci);replace V1:=V1.kt (Kt.of ci) cx.g.at_;replace V4:=V4.kt (Kt.of ci) cx.g.at_;replace V6:=V6.kt (Kt.of ci) cx.g.at_;have bR:=cx.same ci;clear ci keep hv eT cx;refine⟨_,rfl,_,rfl,_,rfl,pk,pb,key,by_,x,y,kx,zs,rfl,hK,bR.sh,λqs c8 cQ dE bi=>hN _ _ (jx λN hN=>?_)⟩;have a6:Kn eU c8:=Kn.o4 cQ bR.sh;have bS:R7 K Pt Ps Pi Po Pf Pn Pg a b ns n7 c8:=bR.gl az [] [(Pg,qp,qq)] (by simp) (λc hc=>(nomatch hc)) (λc o h1 h2 e=>cQ c o (λz=>h2 (by rw[z];exact Q02)) e) (λq hq=>by rw[List.mem_singleton.mp hq];exact dE) (a6.lst bR.g.at_) (Q1j _);have ce:nZ c8 C v dx x y:=a6 _ _ (by intro ps z;cases z) hV;replace hK:=hK.mono a6.tu;replace V1:=V1.kt a6.kt bR.g.at_;replace V4:=V4.kt a6.kt bR.g.at_;replace V6:=V6.kt a6.kt bR.g.at_;clear cQ dE a6 hV bR;refine⟨_,rfl,v,dx,_,rfl,ce,rfl,_,rfl,v,dx,pk,pb,key,by_,x,y,kx,zs,rfl,ce,hK,bS.sf,λqb d4 cR dF eV=>?_⟩;have aP:Kn c8 d4:=Kn.o4 cR bS.sf;have cy:R7 K Pt Ps Pi Po Pf Pn Pg a b ns n7 d4:=bS.gl az [] [(Pf,jT,jU)] (by simp) (λc hc=>(nomatch hc)) (λc o h1 h2 e=>cR c o (λz=>h2 (by rw[z];exact Q02)) e) (λq hq=>by rw[List.mem_singleton.mp hq];exact dF) (aP.lst bS.g.at_) (Q1j _);have hV:nZ d4 C v dx x y:=aP _ _ (by intro ps z;cases z) ce;replace hK:=hK.mono aP.tu;replace bi:=bi.mono aP.tu;replace V1:=V1.kt aP.kt bS.g.at_;replace V4:=V4.kt aP.kt bS.g.at_;replace V6:=V6.kt aP.kt bS.g.at_;refine⟨_,rfl,lE.ne eV bi hK.z ⟨_,rfl,h9 ?_⟩⟩;refine⟨_,rfl,v,dx,_,rfl,hV,rfl,.ref v,rfl,rfl,_,rfl,nB rfl ?_⟩;refine⟨_,rfl,v,dx,_,rfl,hV,rfl,_,rfl,pk,_,_,_,rfl,rfl,f9.of hK.at_,rfl,.ref v,.str key,rfl,rfl,rfl,_,rfl,h9 (hN _ _ (jx λN hN=>?_))⟩;clear cR dF aP eV ce bS;have bx:=λm hm=>(S1.ok m hm).1;have bW:=λm hm=>(S6.ok m hm).1;have d5:=S1.len;have d6:=S6.len;have fR:=(A3.len V1.r).1;have fS:=(A3.len V4.r).1;have fT:=(A3.len V6.r).1;have ed:kx.W:=by cases kx <;> first|(unfold Kd.W;trivial)|exact bO.elim
 have wi:(xn key by_ x y kx (gm zs)).W:=FC bP fw ez ed (xg hW (Ne.symm bh)) bO;refine⟨_,rfl,v,dx,_,rfl,hV,rfl,_,rfl,_,rfl,v,dx,x,y,.ref pk,D2,v2,ms1,f2,gm zs,rfl,hV,bP,V1.at_,V1.r,by omega,bx,aV,aW,aA,λc9 Dt vt ft fU cz bT _ cA cC=>hN _ _ (jx λN hN=>?_)⟩;replace hK:=hK.mono (Tu.of bT);replace bi:=bi.mono (Tu.of bT);replace V1:=V1.kt (Kt.of bT) cy.g.at_;replace V4:=V4.kt (Kt.of bT) cy.g.at_;replace V6:=V6.kt (Kt.of bT) cy.g.at_;replace hV:=bT _ _ hV;have cD:=cy.same bT;clear bT cy;refine⟨_,rfl,_,rfl,_,rfl,_,rfl,_,rfl,x,y,D4,v4,ms1,f4,gm zs,rfl,bP,V4.at_,V4.r,by omega,bx,aV,aW,aA,λfV Dg vg fg fW eW cj _ da db=>?_⟩
 cases cz.eq eW;have eX:=xj (Ne.symm bh) bP cs bO cz bx S1.l8 S1.kn;have d7:(D.lst (ic (iT x y ms1 c9))).dep<=18:=Ga (N:=12) cq S1.ok;have fh:=cz.len;have d8:(D.lst (ic (iT x y ms1 c9))).Sm:=Gb d5 (by omega) S1.ok;refine⟨.ref qs,.ref Dt,.ref Dg,_,_,_,_,_,rfl,(bi.mono (Tu.of cj)).ka bO (hK.mono (Tu.of cj)).z,wi,k8 (cj _ _ cA) (cC.sm cj),k8 da db,AL.wQ eX,d7,d8,λeY eZ=>⟨true,rfl,h9 (hN _ _ (jx λN hN=>?_))⟩⟩;have bj:=cj.trans eZ;replace hK:=hK.mono (Tu.of bj);replace bi:=bi.mono (Tu.of bj);replace V1:=V1.kt (Kt.of bj) cD.g.at_;replace V4:=V4.kt (Kt.of bj) cD.g.at_;replace V6:=V6.kt (Kt.of bj) cD.g.at_;replace hV:=bj _ _ hV;replace cA:=bj _ _ cA;replace cC:=cC.sm bj;have dc:=cD.same bj;clear cj eZ bj cD da db eW
 have e0:Pf≠Pi:=by
  have:=az;simp only[T7,Q0v,Q1f,Q3m,Q1d,not_or] at this;exact λz=>this.2.2.1.2.1 z.symm
 have X1:uD 18 C eY v dx pk pb key by_ x y kx zs Dt vt ms1 c9 ft:=⟨hV,hK,cA,cC,cz,bx,S1.l8,S1.kn,d5,d7,d8⟩;refine⟨_,rfl,_,rfl,_,rfl,_,rfl,_,rfl,v,dx,pk,pb,key,by_,x,y,kx,zs,.ref D2,Dt,vt,ms1,c9,ft,rfl,X1,dc.sf,dc.io,e0,λD7 v7 f7 tq dd dG dH dI de df dg=>⟨_,rfl,i3,λt2 jS=>?_⟩⟩;have X:RS K Pt Ps Pi Po Pf Pn Pg a b ns n7 C v dx pk pb qs key by_ x y kx zs D2 v2 ms1 f2 D4 v4 f4 D6 v6 bA f6 eY:=⟨dc,V1,V4,V6,hV,hK,bi⟩;replace X:=X.put az dG dH dI;clear dG dH dI dc V1 V4 V6 hV hK bi cA cC X1;have cm:Same dd (upd dd t2 (.tup [.str "done",.ref D4])):=Same.new jS;have d9:=gh (H:=dd) (a:=t2) (o:=.tup [.str "done",.ref D4]);generalize upd dd t2 (.tup [.str "done",.ref D4])=fX at cm d9;replace X:=X.same cm;refine⟨.ref pk,tq,t2,.rows key by_ (gm zs),.ref D7,.ref D4,_,_,_,_,rfl,X.k.ka,hW,cm _ _ dg,d9,k8 (cm _ _ de) (df.sm cm),k8 X.v2.at_ X.v2.r,Gc aV aA bx,Ge cq S1.ok,Gf d5 aW S1.ok,λfY e4=>⟨true,rfl,h9 (hN _ _ (jx λN hN=>?_))⟩⟩;replace X:=X.same e4;clear cm d9 e4 dg de df jS eX d7 d8 fh cz;refine⟨_,rfl,_,rfl,_,rfl,x,y,D6,v6,bA,f6,gm zs,rfl,bP,X.v3.at_,X.v3.r,by omega,bW,aV,aW,aA,λcE De ve fe ea dh e5 _ bm bn=>hN _ _ (jx λN hN=>?_)⟩;replace X:=X.same e5;have fH:=xj (Ne.symm bh) bP cs bO dh bW S6.l8 S6.kn;have e6:(D.lst (ic (iT x y bA cE))).dep<=18:=Ga (N:=12) cq S6.ok;have fM:=dh.len;have e7:(D.lst (ic (iT x y bA cE))).Sm:=Gb d6 (by omega) S6.ok;refine⟨_,rfl,Q0g _,λl0 e8=>⟨i3,λll b1=>?_⟩⟩;have eb:Same ea (upd ea l0 (.lst [])):=Same.new e8;generalize upd ea l0 (.lst [])=di at eb b1;have b5:Same di (upd di ll (.lst [.ref D2,.ref l0])):=Same.new b1;have cS:=gh (H:=di) (a:=ll) (o:=.lst [.ref D2,.ref l0]);generalize upd di ll (.lst [.ref D2,.ref l0])=fZ at b5 cS;replace b5:=eb.trans b5;replace X:=X.same b5;replace bm:=b5 _ _ bm;replace bn:=bn.sm b5;clear e5 eb b5 e8 b1;refine⟨ll,rfl,⟨_,f_.of cS⟩,oB (xs:=[.ref D2,.ref l0]) (λi bZ H'=>∃z,bZ=[some (.ref a),some (.ref b),some (.int m),some (.int mn),some (.int d),some (.ref pk),some (.ref Dp),some (.ref L2),some (.str x),some (.str y),some (.ref b2),some (.ref D2),some (.ref D4),some (.ref D6),some (.ref v),some (.ref qs),some (.ref Dt),some (.ref De),z]/\RS K Pt Ps Pi Po Pf Pn Pg a b ns n7 C v dx pk pb qs key by_ x y kx zs D2 v2 ms1 f2 D4 v4 f4 D6 v6 bA f6 H'/\H' De=some (.lst ve)/\gu H' ve (iT x y bA cE) fe/\H' ll=some (.lst [.ref D2,.ref l0])) ⟨_,rfl,X,bm,bn,cS⟩ ?_ ?_ ?_⟩
 . intro i bZ H' _ zq;obtain⟨z,rfl,_,_,_,hl⟩:=zq;exact f_.of hl
 . intro i u bZ H' hu zq;obtain⟨z,rfl,X,bm,bn,hl⟩:=zq;have X1:uD 18 C H' v dx pk pb key by_ x y kx zs De ve bA cE fe:=⟨X.v,X.k,bm,bn,dh,bW,S6.l8,S6.kn,d6,e6,e7⟩;refine⟨_,rfl,_,rfl,_,rfl,_,rfl,_,rfl,v,dx,pk,pb,key,by_,x,y,kx,zs,u,De,ve,bA,cE,fe,rfl,X1,X.w.sf,X.w.io,e0,λD7 v7 f7 tq H2 kp hT hI de df dg=>⟨_,rfl,i3,λt2 jS=>?_⟩⟩;have kn:=Kn.gX kp X.w.sf X.w.io;replace X:=X.put az kp hT hI;have s3:Same H2 (upd H2 t2 (.tup [.str "done",.ref D6])):=Same.new jS;have e3:=gh (H:=H2) (a:=t2) (o:=.tup [.str "done",.ref D6]);generalize upd H2 t2 (.tup [.str "done",.ref D6])=H3 at s3 e3;replace X:=X.same s3;replace bm:=s3 _ _ (kn.lst bm);replace bn:=(bn.kn kn).sm s3;replace hl:=s3 _ _ (kn.lst hl);exact⟨.ref pk,tq,t2,.rows key by_ (gm zs),.ref D7,.ref D6,_,_,_,_,rfl,X.k.ka,hW,s3 _ _ dg,e3,k8 (s3 _ _ de) (df.sm s3),k8 X.v3.at_ X.v3.r,Gc aV aA bW,Ge cq S6.ok,Gf d6 aW S6.ok,λH4 s4=>⟨true,rfl,h9 ⟨_,rfl,X.same s4,s4 _ _ bm,bn.sm s4,s4 _ _ hl⟩⟩⟩
 . intro bZ H' zq;obtain⟨z,rfl,X,bm,bn,_⟩:=zq;refine hN _ _ ?_;refine⟨_,rfl,_,rfl,_,rfl,_,rfl,_,rfl,x,y,D6,v6,bA,f6,gm zs,rfl,bP,X.v3.at_,X.v3.r,by omega,bW,aV,aW,aA,λf8 Dg vg fg H2 fJ s2 _ da db=>?_⟩
   cases dh.eq fJ;replace X:=X.same s2;refine⟨.ref qs,.ref De,.ref Dg,_,_,_,_,_,rfl,X.sh.ka bO X.k.z,wi,k8 (s2 _ _ bm) (bn.sm s2),k8 da db,AL.wQ fH,e6,e7,λH3 s3=>?_⟩;replace X:=X.same s3;refine⟨true,rfl,i_ ?_⟩;exact⟨_,rfl,_,rfl,_,rfl,.ref pk,.ref D2,.ref D4,.rows key by_ (gm zs),_,_,_,_,rfl,X.k.ka,hW,k8 X.v1.at_ X.v1.r,k8 X.v2.at_ X.v2.r,AL.of (by unfold ia;exact⟨ms1,rfl,bx,S1.l8,S1.kn⟩),Rr.dep S1 cq,Rr.sm S1,λH4 s4=>q _ H4 (X.same s4).w (by omega)⟩
end
end Pb
theorem L2.gc.or {P:PySem.Program}{w:PySem.World}{K:PySem.W.Frag}{mg:PySem.Str->Option PySem.Value}{base:PySem.Heap}{CX:L2.j3}{k:Nat}{f:PySem.Addr}{fd:PySem.FuncData}{ps:List PySem.Str}{sp I:L2.Sp}(F:L2.gc P w K mg base CX k f fd ps sp)(G:L2.gc P w K mg base CX k f fd ps I):
 L2.gc P w K mg base CX k f fd ps (λvs H Q E=>sp vs H Q E\/I vs H Q E):=
 ⟨λvs H Q E q=>q.elim (F.len vs H Q E) (G.len vs H Q E),λA outer s H args us vs Q E J L U Y hs=>hs.elim (F.run A outer s H args us vs Q E J L U Y) (G.run A outer s H args us vs Q E J L U Y)⟩
namespace Pb
open L2 PyProof.Rows
theorem kH.NX {K:W.Frag}{H H':Hp}{a:Addr}{ns:List Int}(h:kH K H a ns)(s:Same H H'):kH K H' a ns:=by
 rcases h with⟨o,h⟩|h
 . exact .inl ⟨o,s _ _ h⟩
 . exact .inr h
def xA (K:W.Frag) (Pt Ps Pi Po Pf Pn Pg:Addr):Sp:=λvs H Q _=>∃(a:Addr) (ns:List Int),vs=[.ref a]/\kH K H a ns/\ns.length<=63/\(∀q∈T7 Pt Ps Pi Po Pf Pn Pg,gy q.1 q.2.1 q.2.2 H)/\∀H',Q (.bl true) H'
section
variable {P:Program}{w:World}{K:W.Frag}{mg:Str->Option Value}{base:Heap}
variable {Pt Ps Pi Po Pf Pn Pg:Addr}
theorem NY:gQ ["_law_script","_law_at","_law_k"] ["_law_script"] (gp (top 59)):=g_
theorem NZ (T:Tb mg)(Y:Dn K mg "law" ["_law_script"] (top 59) aa ab)(I:Dn K mg "_law_round" gL (top 58) J L)(U:gc P w K mg base gf (132) J L gL (Gh K Pt Ps Pi Po Pf Pn Pg)):gc P w K mg base gf (133) aa ab ["_law_script"] (xA K Pt Ps Pi Po Pf Pn Pg):=by
 refine Y.F.ok NY λvs H Q E h=>?_;obtain⟨a,ns,rfl,hS,ae,h1,q⟩:=h;refine⟨rfl,λag A outer s nd hr hu=>?_⟩
 refine⟨_,(e_ (gA 1 nd (iV (a_ c_ b_)))
  (e_ (jk PassesOwn.never rfl (oA rfl T.nI (a_ (gn j0 c_ (gn jc (ij jr (by rfl) T.ja PySem.boot_len (a_ (u7 II (pv 0) u4 (u5 c_)) b_)) c_)) b_)) (gY (i:=2) nd rfl iG) (gi (gF (jq (jf (gv U hr I (a_ (pv 0) (a_ (pv 1) b_))))) (gi (gw jz)) gH)))
  (gi (gw jz)))),?_⟩
 ac_rfl
 refine⟨jR,λb hb=>?_⟩;have s0:Same H (upd H b (.lst [.int 0])):=Same.new hb;have W0:R7 K Pt Ps Pi Po Pf Pn Pg a b ns 0 (upd H b (.lst [.int 0])):=⟨⟨kH.NX hS s0,ae,gh,by decide⟩,λq hq=>(h1 q hq).same s0⟩;refine⟨_,rfl,_,rfl,a,_,rfl,W0.g.kY.sq,λp hp=>?_⟩;have ac:=Cf (ns.map V.int) none (some 60);rw[Q0] at ac;refine⟨p,_,rfl,.inl (f_.of gh),_,_,rfl,rfl,⟨by decide,by decide⟩,_,_,rfl,rfl,_,rfl,?_,?_,?_⟩
 . omega
 . omega
 have W1:=W0.same (Same.new hp (o:=.lst (pF (ns.map V.int) none (some 60))));generalize hc:(1+((pF (ns.map V.int) none (some 60)).length:Int) / 40).toNat=cnt;have af:cnt<=3:=by omega
 refine nj (n:=cnt) (λi σ H'=>∃(x:Option V) (n:Int),σ=[some (.ref a),some (.ref b),x]/\R7 K Pt Ps Pi Po Pf Pn Pg a b ns n H'/\n<=10000000 * i) ?_ ?_ ?_
 . exact⟨_,0,rfl,W1,by omega⟩
 . rintro i σ H' hi ⟨x,n,rfl,W,hn⟩;exact⟨_,rfl,_,rfl,a,b,ns,n,rfl,W,by omega,λn' H2 W2 ah=>⟨true,rfl,h9 ⟨_,n',rfl,W2,by omega⟩⟩⟩
 . rintro σ H' ⟨x,n,rfl,_⟩;exact q _
end
end Pb
namespace Pb
open L2
abbrev Gi (K:W.Frag) (x U:Str) (st:Stmt) (f:Addr):Prop:=∃(Y:Value) (od:Option Addr) (kV J pm:Value) (an:Option Addr) (I ct:Value) (L:Array (Option Value)),K.lookup f=some ⟨Y,od,.func (W.fnOf x U (i7 st) (iI st) (gp st) .none kV J pm an I ct),L⟩/\W.codeIn K I U=true/\W.keepIn K (.ref f)=true
abbrev iy (K:W.Frag) (x:Str) (st:Stmt):Prop:=∃f,W.nsIn K mainGlobals x=some (some (.ref f))/\Gi K x x st f
abbrev HB (x L:Str) (ps:List Str) (st:Stmt):Prop:=∀(kV I U:Value) (Y:Option Addr) (J ct:Value) (us:List Value),us.length=ps.length->bindArgs (W.fnOf x L (i7 st) (iI st) (gp st) .none kV I U Y J ct) ⟨us,[]⟩=pure (ps.zip us)
theorem iA {K:W.Frag}{mg:Str->Option Value}{h:Heap}{x:Str}{ps:List Str}{st:Stmt}(X:K.In h)(G:h.Ns mainGlobals mg)(a:iy K x st)(L:HB x x ps st):∃f d,Dn K mg x ps st f d/\∀us:List Value,us.length=ps.length->bindArgs d ⟨us,[]⟩=pure (ps.zip us):=by
 obtain⟨f,a,oc,od,kV,I,U,Y,J,ct,aa,l,c,k⟩:=a;have F:=nA (st:=st) l c k;exact⟨f,_,⟨F,F.binds L,W.mg_of X G a⟩,L kV I U Y J ct⟩
abbrev kb (K:W.Frag) (C ns:Addr) (x I:Str) (st:Stmt) (f:Addr):Prop:=W.nsIn K ns x=some (some (.ref f))/\Gi K x I st f/\W.isFn K (.ref f)=true/\W.findIn K (.ref C) x=some (some (.ref f))
theorem qu {K:W.Frag}{C ns:Addr}{x I:Str}{ps:List Str}{st:Stmt}{f:Addr}(a:kb K C ns x I st f)(Y:HB x I ps st):∃d,Dm K x I ps st f d:=by
 obtain⟨_,⟨oc,od,kV,J,pm,an,L,ct,U,l,c,k⟩,_,_⟩:=a;have F:mj K x I st f _:=⟨⟨oc,od,kV,J,pm,an,L,ct,U,rfl,l,c⟩,k⟩;exact⟨_,F,F.binds Y⟩
theorem N2 {K:W.Frag}{x:Str}{st:Stmt}{f:Addr}{U:Value}{Y an:Option Addr}{kV J pm I ct:Value}{L:Array (Option Value)}(a:W.nsIn K mainGlobals x=some (some (.ref f)))(l:K.lookup f=some ⟨U,Y,.func (W.fnOf x x (i7 st) (iI st) (gp st) .none kV J pm an I ct),L⟩)(c:W.codeIn K I x=true)(k:W.keepIn K (.ref f)=true):iy K x st:=⟨f,a,U,Y,kV,J,pm,an,I,ct,L,l,c,k⟩
theorem N3 {K:W.Frag}{C ns:Addr}{x U:Str}{st:Stmt}{f:Addr}{Y:Value}{od an:Option Addr}{kV J pm I ct:Value}{L:Array (Option Value)}(a:W.nsIn K ns x=some (some (.ref f)))(l:K.lookup f=some ⟨Y,od,.func (W.fnOf x U (i7 st) (iI st) (gp st) .none kV J pm an I ct),L⟩)(c:W.codeIn K I U=true)(k:W.keepIn K (.ref f)=true)(h:W.isFn K (.ref f)=true)(g:W.findIn K (.ref C) x=some (some (.ref f))):kb K C ns x U st f:=⟨a,⟨Y,od,kV,J,pm,an,I,ct,L,l,c,k⟩,h,g⟩
theorem kb.meth {K:W.Frag}{C ns:Addr}{x I:Str}{st:Stmt}{f:Addr}(a:kb K C ns x I st f):Meth K C x f:=by
 obtain⟨_,⟨_,_,_,_,_,_,_,_,_,_,_,k⟩,h1,h2⟩:=a;exact⟨h2,h1,k⟩
abbrev N5 (K:W.Frag) (C:Addr):Prop:=W.plainGet K C Str.empty=true/\W.hasDictIn K C=true/\W.plainOver K C=true/\W.findIn K (.ref C) "__setattr__"=some (some (.builtin "object.__setattr__"))/\W.makesIn K C=true/\W.keepIn K (.ref C)=true
theorem len1 {α:Type}{l:List α}(h:l.length=1):∃a,l=[a]:=match l,h with|[a],_=>⟨a,rfl⟩
theorem len2 {α:Type}{l:List α}(h:l.length=2):∃a b,l=[a,b]:=match l,h with|[a,b],_=>⟨a,b,rfl⟩
theorem lJ {α:Type}{l:List α}(h:l.length=3):∃a b c,l=[a,b,c]:=match l,h with|[a,b,c],_=>⟨a,b,c,rfl⟩
theorem ph {α:Type}{l:List α}(h:l.length=4):∃a b c d,l=[a,b,c,d]:=match l,h with|[a,b,c,d],_=>⟨a,b,c,d,rfl⟩
theorem Gj {α:Type}{l:List α}(h:l.length=5):∃a b c d e,l=[a,b,c,d,e]:=match l,h with|[a,b,c,d,e],_=>⟨a,b,c,d,e,rfl⟩
theorem all_mk {l:W.OpenLaw}{w:World}{K:W.Frag}{h:Heap}{mg:Str->Option Value}{fa:Addr}(X:K.In h)(G:h.Ns mainGlobals mg)(c7:mg "law"=some (.ref fa))
 (xB:iy K "is_plain" (top 6))
 (xC:iy K "kind_at" (top 7))
 (xD:iy K "rows_of" (top 9))
 (xE:iy K "misfit" (top 11))
 (xF:iy K "record_misfit" (top 12))
 (xG:iy K "has_just" (top 13))
 (xH:iy K "rows_misfit" (top 14))
 (xI:iy K "is_pair" (top 15))
 (xJ:iy K "tree_misfit" (top 16))
 (xK:iy K "either_misfit" (top 17))
 (xM:iy K "rank" (top 18))
 (xN:iy K "ask_fit" (top 21))
 (xO:iy K "ask_stands" (top 22))
 (xP:iy K "fields_but" (top 25))
 (xQ:iy K "part_of" (top 26))
 (xR:iy K "rest_of" (top 27))
 (xS:iy K "with_field" (top 28))
 (xT:iy K "_law_next" (top 32))
 (xU:iy K "_law_number" (top 33))
 (xV:iy K "_law_word" (top 34))
 (xW:iy K "_law_names" (top 35))
 (xX:iy K "_law_plain" (top 36))
 (xY:iy K "_law_fields" (top 37))
 (xZ:iy K "_law_rows_kind" (top 38))
 (x6:iy K "_law_kind" (top 39))
 (x8:iy K "_law_rank" (top 40))
 (x9:iy K "_law_value" (top 42))
 (x_:iy K "_law_alike" (top 43))
 (ya:iy K "_law_way" (top 44))
 (yb:iy K "_law_stranger" (top 45))
 (yc:iy K "_law_pool" (top 46))
 (yd:iy K "_law_put" (top 48))
 (ye:iy K "_law_same_end" (top 49))
 (yf:iy K "_law_plains" (top 51))
 (yg:iy K "_law_ties" (top 52))
 (yh:iy K "_law_group_inner" (top 54))
 (yi:iy K "_law_less" (top 56))
 (yj:iy K "_law_groups" (top 57))
 (yk:iy K "_law_round" (top 58))
 (yl:iy K "law" (top 59))
 {fR:Addr} {c8:Value} {c9 bO:Option Addr} {bP bQ bR bH bS:Value} {da:Array (Option Value)} (aR:W.nsIn K mainGlobals "_law_rows"=some (some (.ref fR))) (lR:K.lookup fR=some ⟨c8,c9,.func (W.fnOf "_law_rows" "_law_rows" (i7 (top 41)) (iI (top 41)) (gp (top 41)) .none bP bQ bR bO bH bS),da⟩) (ym:W.codeIn K bH "_law_rows"=true) (kR:W.keepIn K (.ref fR)=true)
 {fS:Addr} {db:Value} {dc bT:Option Addr} {bU bV bW bI bX:Value} {dd:Array (Option Value)} (aS:W.nsIn K mainGlobals "_law_some"=some (some (.ref fS))) (lS:K.lookup fS=some ⟨db,dc,.func (W.fnOf "_law_some" "_law_some" (i7 (top 47)) (iI (top 47)) (gp (top 47)) .none bU bV bW bT bI bX),dd⟩) (yn:W.codeIn K bI "_law_some"=true) (kS:W.keepIn K (.ref fS)=true)
 {fI:Addr} {de:Value} {df bY:Option Addr} {bZ b1 b2 bJ b3:Value} {dg:Array (Option Value)} (aI:W.nsIn K mainGlobals "in_order"=some (some (.ref fI))) (lI:K.lookup fI=some ⟨de,df,.func (W.fnOf "in_order" "in_order" (i7 (top 19)) (iI (top 19)) (gp (top 19)) .none bZ b1 b2 bY bJ b3),dg⟩) (yo:W.codeIn K bJ "in_order"=true) (kI:W.keepIn K (.ref fI)=true)
 {fO:Addr} {dh:Value} {di b4:Option Addr} {b5 b6 b7 bK b8:Value} {dj:Array (Option Value)} (aO:W.nsIn K mainGlobals "_law_sorted"=some (some (.ref fO))) (lO:K.lookup fO=some ⟨dh,di,.func (W.fnOf "_law_sorted" "_law_sorted" (i7 (top 50)) (iI (top 50)) (gp (top 50)) .none b5 b6 b7 b4 bK b8),dj⟩) (yp:W.codeIn K bK "_law_sorted"=true) (kO:W.keepIn K (.ref fO)=true)
 {fF:Addr} {dk:Value} {dm b9:Option Addr} {ca cb cc bL cd:Value} {dn:Array (Option Value)} (aF:W.nsIn K mainGlobals "sorted_fields"=some (some (.ref fF))) (lF:K.lookup fF=some ⟨dk,dm,.func (W.fnOf "sorted_fields" "sorted_fields" (i7 (top 8)) (iI (top 8)) (gp (top 8)) .none ca cb cc b9 bL cd),dn⟩) (yq:W.codeIn K bL "sorted_fields"=true) (kF:W.keepIn K (.ref fF)=true)
 {fN:Addr} {dp:Value} {dq ce:Option Addr} {cf cg ci bM cj:Value} {dt:Array (Option Value)} (aN:W.nsIn K mainGlobals "_law_group_kind"=some (some (.ref fN))) (lN:K.lookup fN=some ⟨dp,dq,.func (W.fnOf "_law_group_kind" "_law_group_kind" (i7 (top 53)) (iI (top 53)) (gp (top 53)) .none cf cg ci ce bM cj),dt⟩) (yr:W.codeIn K bM "_law_group_kind"=true) (kN:W.keepIn K (.ref fN)=true)
 {fG:Addr} {du:Value} {dv cm:Option Addr} {cn co cp bN cq:Value} {dw:Array (Option Value)} (aG:W.nsIn K mainGlobals "_law_group_shown"=some (some (.ref fG))) (lG:K.lookup fG=some ⟨du,dv,.func (W.fnOf "_law_group_shown" "_law_group_shown" (i7 (top 55)) (iI (top 55)) (gp (top 55)) .none cn co cp cm bN cq),dw⟩) (yt:W.codeIn K bN "_law_group_shown"=true) (kG:W.keepIn K (.ref fG)=true)
 (zz:∀x∈(["len","isinstance","sorted","all","range","enumerate","zip","int","bool","str","list","tuple","dict","min","sum"]:List Str),W.nsIn K mainGlobals x=some none)
 {J ai:Addr} {bq:Value} {br:Option Addr} {bt:Array (Option Value)} {a9:ClassData}
 (yu:W.nsIn K mainGlobals "Group"=some (some (.ref J))) (Gk:K.lookup J=some ⟨bq,br,.cls a9,bt⟩) (Gm:a9.ns=ai)
 {bb bf:Addr} {bv:Value} {bw:Option Addr} {bx:Array (Option Value)} {bg:ClassData}
 (Gn:W.nsIn K mainGlobals "View"=some (some (.ref bb))) (Gp:K.lookup bb=some ⟨bv,bw,.cls bg,bx⟩) (Gq:bg.ns=bf)
 {Y bh:Addr} {bi:Value} {bj:Option Addr} {bm:Array (Option Value)} {aX:ClassData}
 (yw:W.nsIn K mainGlobals "CantPut"=some (some (.ref Y))) (Gr:K.lookup Y=some ⟨bi,bj,.cls aX,bm⟩) (Gs:aX.ns=bh)
 {am:Addr} (uG:kb K J ai "__init__" "Group.__init__" (h8 30 0) am)
 {av:Addr} (uH:kb K J ai "behind" "Group.behind" (h8 30 1) av)
 {aL:Addr} (uI:kb K J ai "see" "Group.see" (h8 30 2) aL)
 {aM:Addr} (uJ:kb K J ai "put" "Group.put" (h8 30 3) aM)
 {ay:Addr} (uK:kb K J ai "keeps" "Group.keeps" (h8 30 4) ay)
 {ac:Addr} (uL:kb K bb bf "grade" "View.grade" (h8 23 3) ac)
 (yx:W.findIn K (.ref J) "field"=some none)
 (yz:W.findIn K (.ref J) "into"=some none)
 (yA:W.findIn K (.ref J) "grade"=some (some (.ref ac)))
 (yB:W.typeIn K (.ref Y)=some (.type "type"))
 (yC:(W.clsIn K Y).isSome=true)
 (yD:W.subIn K (.ref Y) (.type "BaseException")=some true)
 (yE:N5 K J)
 {cR PR:Addr} {cw:Value} {cx:Option Addr} {bz:Array Value} {cy:Array (Option Value)} (yF:bH=.ref cR) (Gu:K.lookup cR=some ⟨cw,cx,.fields bz,cy⟩) (Gv:bz[11]? =some (.ref PR)) (yG:W.codeHdIn K cR PR=true)
 {cS PS:Addr} {cz:Value} {cA:Option Addr} {bA:Array Value} {cC:Array (Option Value)} (yH:bI=.ref cS) (Gw:K.lookup cS=some ⟨cz,cA,.fields bA,cC⟩) (Gx:bA[11]? =some (.ref PS)) (yI:W.codeHdIn K cS PS=true)
 {cI PI:Addr} {cD:Value} {cE:Option Addr} {bB:Array Value} {cH:Array (Option Value)} (yJ:bJ=.ref cI) (Gy:K.lookup cI=some ⟨cD,cE,.fields bB,cH⟩) (hPI:bB[11]? =some (.ref PI)) (yK:W.codeHdIn K cI PI=true)
 {cO PO:Addr} {cJ:Value} {cK:Option Addr} {bC:Array Value} {cL:Array (Option Value)} (yL:bK=.ref cO) (Gz:K.lookup cO=some ⟨cJ,cK,.fields bC,cL⟩) (GA:bC[11]? =some (.ref PO)) (yM:W.codeHdIn K cO PO=true)
 {cF PF:Addr} {cM:Value} {cP:Option Addr} {bD:Array Value} {cQ:Array (Option Value)} (yN:bL=.ref cF) (GC:K.lookup cF=some ⟨cM,cP,.fields bD,cQ⟩) (GD:bD[11]? =some (.ref PF)) (yO:W.codeHdIn K cF PF=true)
 {cN PN:Addr} {cT:Value} {cU:Option Addr} {bE:Array Value} {cV:Array (Option Value)} (yP:bM=.ref cN) (GF:K.lookup cN=some ⟨cT,cU,.fields bE,cV⟩) (GH:bE[11]? =some (.ref PN)) (yQ:W.codeHdIn K cN PN=true)
 {cG PG:Addr} {cW:Value} {cX:Option Addr} {bF:Array Value} {cY:Array (Option Value)} (yR:bN=.ref cG) (GJ:K.lookup cG=some ⟨cW,cX,.fields bF,cY⟩) (GL:bF[11]? =some (.ref PG)) (yS:W.codeHdIn K cG PG=true)
 (yT:((T7 PR PS PI PO PF PN PG).map (·.1)).Nodup)
 :∃fd:FuncData,(∀(s:Shared) (v:Value),BindsTo s fd ⟨[v],[]⟩ [("_law_script",v)])/\∀base:Heap,K.In base->base.Ns mainGlobals mg->BM mg base->gc l.prog w K mg base gf 133 fa fd ["_law_script"] (xA K PR PS PI PO PF PN PG):=by
 have zz:=λx hx=>W.mg_none_of X G (zz x hx);have T:Tb mg:=⟨zz _ (by simp),zz _ (by simp),zz _ (by simp),zz _ (by simp),zz _ (by simp),zz _ (by simp),zz _ (by simp),zz _ (by simp),zz _ (by simp),zz _ (by simp),zz _ (by simp),zz _ (by simp),zz _ (by simp),zz _ (by simp),zz _ (by simp)⟩;obtain⟨_,_,ax,_⟩:=iA (ps:=["kind"]) X G xB (λ_ _ _ _ _ _ _ h=>by obtain⟨_,rfl⟩:=len1 h;rfl);obtain⟨_,_,ar,_⟩:=iA (ps:=["fields","name"]) X G xC (λ_ _ _ _ _ _ _ h=>by obtain⟨_,_,rfl⟩:=len2 h;rfl);obtain⟨_,_,a1,_⟩:=iA (ps:=["key","by","pairs"]) X G xD (λ_ _ _ _ _ _ _ h=>by obtain⟨_,_,_,rfl⟩:=lJ h;rfl);obtain⟨_,_,ba,_⟩:=iA (ps:=["kind","value"]) X G xE (λ_ _ _ _ _ _ _ h=>by obtain⟨_,_,rfl⟩:=len2 h;rfl);obtain⟨_,_,aV,_⟩:=iA (ps:=XO) X G xF (λ_ _ _ _ _ _ _ h=>by obtain⟨_,_,rfl⟩:=len2 h;rfl);obtain⟨_,_,bn,_⟩:=iA (ps:=XO) X G xG (λ_ _ _ _ _ _ _ h=>by obtain⟨_,_,rfl⟩:=len2 h;rfl);obtain⟨_,_,a5,_⟩:=iA (ps:=Xd) X G xH (λ_ _ _ _ _ _ _ h=>by obtain⟨_,_,rfl⟩:=len2 h;rfl);obtain⟨_,_,bp,_⟩:=iA (ps:=["value"]) X G xI (λ_ _ _ _ _ _ _ h=>by obtain⟨_,rfl⟩:=len1 h;rfl);obtain⟨_,_,a6,_⟩:=iA (ps:=["kind","tree"]) X G xJ (λ_ _ _ _ _ _ _ h=>by obtain⟨_,_,rfl⟩:=len2 h;rfl);obtain⟨_,_,aW,_⟩:=iA (ps:=["fields","value"]) X G xK (λ_ _ _ _ _ _ _ h=>by obtain⟨_,_,rfl⟩:=len2 h;rfl);obtain⟨_,_,bc,_⟩:=iA (ps:=["kind","row"]) X G xM (λ_ _ _ _ _ _ _ h=>by obtain⟨_,_,rfl⟩:=len2 h;rfl);obtain⟨_,_,a2,_⟩:=iA (ps:=["kind","seen"]) X G xN (λ_ _ _ _ _ _ _ h=>by obtain⟨_,_,rfl⟩:=len2 h;rfl);obtain⟨_,_,aC,_⟩:=iA (ps:=["stands"]) X G xO (λ_ _ _ _ _ _ _ h=>by obtain⟨_,rfl⟩:=len1 h;rfl);obtain⟨_,_,aD,_⟩:=iA (ps:=Xf) X G xP (λ_ _ _ _ _ _ _ h=>by obtain⟨_,_,rfl⟩:=len2 h;rfl);obtain⟨_,_,a3,_⟩:=iA (ps:=XT) X G xQ (λ_ _ _ _ _ _ _ h=>by obtain⟨_,_,rfl⟩:=len2 h;rfl);obtain⟨_,_,a4,_⟩:=iA (ps:=XT) X G xR (λ_ _ _ _ _ _ _ h=>by obtain⟨_,_,rfl⟩:=len2 h;rfl);obtain⟨_,_,aE,_⟩:=iA (ps:=Xm) X G xS (λ_ _ _ _ _ _ _ h=>by obtain⟨_,_,_,rfl⟩:=lJ h;rfl);obtain⟨_,_,I,_⟩:=iA (ps:=XB) X G xT (λ_ _ _ _ _ _ _ h=>by obtain⟨_,_,rfl⟩:=len2 h;rfl);obtain⟨_,_,a7,_⟩:=iA (ps:=XB) X G xU (λ_ _ _ _ _ _ _ h=>by obtain⟨_,_,rfl⟩:=len2 h;rfl);obtain⟨_,_,bd,_⟩:=iA (ps:=XB) X G xV (λ_ _ _ _ _ _ _ h=>by obtain⟨_,_,rfl⟩:=len2 h;rfl);obtain⟨_,_,ae,_⟩:=iA (ps:=Xe) X G xW (λ_ _ _ _ _ _ _ h=>by obtain⟨_,_,_,rfl⟩:=lJ h;rfl);obtain⟨_,_,U,_⟩:=iA (ps:=XB) X G xX (λ_ _ _ _ _ _ _ h=>by obtain⟨_,_,rfl⟩:=len2 h;rfl);obtain⟨_,_,a8,_⟩:=iA (ps:=XH) X G xY (λ_ _ _ _ _ _ _ h=>by obtain⟨_,_,_,_,rfl⟩:=ph h;rfl);obtain⟨_,_,L,_⟩:=iA (ps:=XH) X G xZ (λ_ _ _ _ _ _ _ h=>by obtain⟨_,_,_,_,rfl⟩:=ph h;rfl);obtain⟨_,_,au,_⟩:=iA (ps:=XS) X G x6 (λ_ _ _ _ _ _ _ h=>by obtain⟨_,_,_,rfl⟩:=lJ h;rfl);obtain⟨_,_,ah,_⟩:=iA (ps:=Xa) X G x8 (λ_ _ _ _ _ _ _ h=>by obtain⟨_,_,rfl⟩:=len2 h;rfl);obtain⟨_,_,an,_⟩:=iA (ps:=XI) X G x9 (λ_ _ _ _ _ _ _ h=>by obtain⟨_,_,_,_,rfl⟩:=ph h;rfl);obtain⟨_,_,ao,_⟩:=iA (ps:=XF) X G x_ (λ_ _ _ _ _ _ _ h=>by obtain⟨_,_,_,rfl⟩:=lJ h;rfl);obtain⟨_,_,bG,_⟩:=iA (ps:=["_law_found","_law_due"]) X G ya (λ_ _ _ _ _ _ _ h=>by obtain⟨_,_,rfl⟩:=len2 h;rfl);obtain⟨_,_,aa,_⟩:=iA (ps:=Xb) X G yb (λ_ _ _ _ _ _ _ h=>by obtain⟨_,_,_,rfl⟩:=lJ h;rfl);obtain⟨_,_,aP,_⟩:=iA (ps:=XU) X G yc (λ_ _ _ _ _ _ _ h=>by obtain⟨_,_,_,_,rfl⟩:=ph h;rfl);obtain⟨_,_,aY,_⟩:=iA (ps:=XR) X G yd (λ_ _ _ _ _ _ _ h=>by obtain⟨_,_,_,_,rfl⟩:=ph h;rfl);obtain⟨_,_,ap,_⟩:=iA (ps:=XF) X G ye (λ_ _ _ _ _ _ _ h=>by obtain⟨_,_,_,rfl⟩:=lJ h;rfl);obtain⟨_,_,aj,_⟩:=iA (ps:=["_law_kind_here"]) X G yf (λ_ _ _ _ _ _ _ h=>by obtain⟨_,rfl⟩:=len1 h;rfl);obtain⟨_,_,aQ,_⟩:=iA (ps:=XM) X G yg (λ_ _ _ _ _ _ _ h=>by obtain⟨_,_,_,_,_,rfl⟩:=Gj h;rfl);obtain⟨_,_,af,_⟩:=iA (ps:=Xk) X G yh (λ_ _ _ _ _ _ _ h=>by obtain⟨_,_,rfl⟩:=len2 h;rfl);obtain⟨_,_,aT,_⟩:=iA (ps:=Xn) X G yi (λ_ _ _ _ _ _ _ h=>by obtain⟨_,_,rfl⟩:=len2 h;rfl);obtain⟨_,_,az,_⟩:=iA (ps:=Xc) X G yj (λ_ _ _ _ _ _ _ h=>by obtain⟨_,_,_,rfl⟩:=lJ h;rfl);obtain⟨_,_,aH,_⟩:=iA (ps:=XB) X G yk (λ_ _ _ _ _ _ _ h=>by obtain⟨_,_,rfl⟩:=len2 h;rfl);obtain⟨_,_,bu,hB⟩:=iA (ps:=["_law_script"]) X G yl (λ_ _ _ _ _ _ _ h=>by obtain⟨_,rfl⟩:=len1 h;rfl);subst yF
 have be:Dn K mg "_law_rows" jB (top 41) fR (W.fnOf "_law_rows" "_law_rows" (i7 (top 41)) (iI (top 41)) (gp (top 41)) .none bP bQ bR bO (.ref cR) bS):=by
  have F:=nA (st:=(top 41)) lR ym kR;exact⟨F,F.binds (λ_ _ _ _ _ _ _ h=>by obtain⟨_,_,_,_,rfl⟩:=ph h;rfl),W.mg_of X G aR⟩
 subst yH
 have aU:Dn K mg "_law_some" rq (top 47) fS (W.fnOf "_law_some" "_law_some" (i7 (top 47)) (iI (top 47)) (gp (top 47)) .none bU bV bW bT (.ref cS) bX):=by
  have F:=nA (st:=(top 47)) lS yn kS;exact⟨F,F.binds (λ_ _ _ _ _ _ _ h=>by obtain⟨_,_,_,_,_,rfl⟩:=Gj h;rfl),W.mg_of X G aS⟩
 subst yJ
 have aZ:Dn K mg "in_order" mx (top 19) fI (W.fnOf "in_order" "in_order" (i7 (top 19)) (iI (top 19)) (gp (top 19)) .none bZ b1 b2 bY (.ref cI) b3):=by
  have F:=nA (st:=(top 19)) lI yo kI;exact⟨F,F.binds (λ_ _ _ _ _ _ _ h=>by obtain⟨_,_,rfl⟩:=len2 h;rfl),W.mg_of X G aI⟩
 subst yL
 have aA:Dn K mg "_law_sorted" rn (top 50) fO (W.fnOf "_law_sorted" "_law_sorted" (i7 (top 50)) (iI (top 50)) (gp (top 50)) .none b5 b6 b7 b4 (.ref cO) b8):=by
  have F:=nA (st:=(top 50)) lO yp kO;exact⟨F,F.binds (λ_ _ _ _ _ _ _ h=>by obtain⟨_,_,rfl⟩:=len2 h;rfl),W.mg_of X G aO⟩
 subst yN
 have aq:Dn K mg "sorted_fields" ["pairs"] (top 8) fF (W.fnOf "sorted_fields" "sorted_fields" (i7 (top 8)) (iI (top 8)) (gp (top 8)) .none ca cb cc b9 (.ref cF) cd):=by
  have F:=nA (st:=(top 8)) lF yq kF;exact⟨F,F.binds (λ_ _ _ _ _ _ _ h=>by obtain⟨_,rfl⟩:=len1 h;rfl),W.mg_of X G aF⟩
 subst yP
 have ak:Dn K mg "_law_group_kind" jF (top 53) fN (W.fnOf "_law_group_kind" "_law_group_kind" (i7 (top 53)) (iI (top 53)) (gp (top 53)) .none cf cg ci ce (.ref cN) cj):=by
  have F:=nA (st:=(top 53)) lN yr kN;exact⟨F,F.binds (λ_ _ _ _ _ _ _ h=>by obtain⟨_,_,_,rfl⟩:=lJ h;rfl),W.mg_of X G aN⟩
 subst yR
 have ag:Dn K mg "_law_group_shown" rA (top 55) fG (W.fnOf "_law_group_shown" "_law_group_shown" (i7 (top 55)) (iI (top 55)) (gp (top 55)) .none cn co cp cm (.ref cG) cq):=by
  have F:=nA (st:=(top 55)) lG yt kG;exact⟨F,F.binds (λ_ _ _ _ _ _ _ h=>by obtain⟨_,_,_,rfl⟩:=lJ h;rfl),W.mg_of X G aG⟩
 obtain⟨_,al⟩:=qu (ps:=Xi) uG (λ_ _ _ _ _ _ _ h=>by obtain⟨_,_,_,rfl⟩:=lJ h;rfl);obtain⟨_,ab⟩:=qu (ps:=["self","kind"]) uH (λ_ _ _ _ _ _ _ h=>by obtain⟨_,_,rfl⟩:=len2 h;rfl);obtain⟨_,aJ⟩:=qu (ps:=Xo) uI (λ_ _ _ _ _ _ _ h=>by obtain⟨_,_,_,rfl⟩:=lJ h;rfl);obtain⟨_,aK⟩:=qu (ps:=Xl) uJ (λ_ _ _ _ _ _ _ h=>by obtain⟨_,_,_,_,rfl⟩:=ph h;rfl);obtain⟨_,aw⟩:=qu (ps:=Xp) uK (λ_ _ _ _ _ _ _ h=>by obtain⟨_,_,rfl⟩:=len2 h;rfl);obtain⟨_,aB⟩:=qu (ps:=["self"]) uL (λ_ _ _ _ _ _ _ h=>by obtain⟨_,rfl⟩:=len1 h;rfl);have e:=c7.symm.trans bu.m
 cases e;refine⟨_,λs v=>.of_eq (hB [v] rfl),λbase X1 _ bo=>?_⟩;have cZ:=W.codeHd_of_K X1 yG;have c1:=W.codeHd_of_K X1 yI;have c2:=W.codeHd_of_K X1 yK;have c3:=W.codeHd_of_K X1 yM;have c4:=W.codeHd_of_K X1 yO;have c5:=W.codeHd_of_K X1 yQ;have c6:=W.codeHd_of_K X1 yS;obtain⟨t1,t2,t3,t4,t5,t6⟩:=yE
 have MG:Meth K J "grade" ac:=by
  obtain⟨_,⟨_,_,_,_,_,_,_,_,_,_,_,k⟩,h1,_⟩:=uL;exact⟨yA,h1,k⟩
 have MI:=kb.meth uG;have OF:o8 K mg J am av aL aM ac ay:=⟨⟨t1,t2,t3,t4⟩,yx,yz,⟨t5,MI.1,MI.2,t6⟩,W.mg_of X G yu,kb.meth uH,kb.meth uI,kb.meth uJ,MG,kb.meth uK⟩;have XC:Fb K mg Y:=⟨W.mg_of X G yw,yB,yC,yD⟩;have N0:=rB (P:=l.prog) (w:=w) (base:=base) T I;have N:=t7 N0;have Nm:=DX T ae I N;have Pl:=v9 T U I N;have cr:=λd=>kind_all (P:=l.prog) (w:=w) (base:=base) T au I U ae a8 L d;have dy:=wa 0 T L ae Nm I N U Pl au (cr 0);have dz:=wa 1 T L ae Nm I N U Pl au (cr 1);have dA:gc l.prog w K mg base gf 7 _ _ _ (xt K):=(dy.mono (by decide)).or dz;have V_:=Ej (P:=l.prog) (w:=w) T an be rfl cZ bo I a7 bd ah 60;have M:=ES (P:=l.prog) (w:=w) (base:=base) T ba aV bn a5 bc a6 bp aW ar;have AA:=EW (P:=l.prog) (w:=w) (base:=base) T ao 18;have Ka:=EN (P:=l.prog) (w:=w) (base:=base) T ar;have Rk:=Ee (P:=l.prog) (w:=w) (base:=base) T bc;have cs:=Ed (P:=l.prog) (w:=w) (base:=base) T ah;have IO:=Le T aZ rfl c2 bo bc Rk;have LS:=Lf T aA rfl c3 bo ah cs;have SO:=Li 60 T aU rfl c1 bo I N0 ah cs an V_;have PO:=LF 60 T aP an V_;have IP:=LR (P:=l.prog) (w:=w) (base:=base) T ax;have AS:=LV (P:=l.prog) (w:=w) (base:=base) T aC;have ST:=ME T aa I N;have cu:=Mr (P:=l.prog) (w:=w) (base:=base) T aj;have GK:=Nu T ak rfl c5 bo I N L dA aa ST U Pl aj cu;have SF:=L0 (P:=l.prog) (w:=w) T aq rfl c4 bo;have dC:=Na T a1 aq SF ax IP ar Ka;have FB:=M9 (P:=l.prog) (w:=w) (base:=base) T aD;have dD:=MP (P:=l.prog) (w:=w) (base:=base) (K:=K) T a3;have RE:=MR T a4 a3 dD;have WF:=MT (P:=l.prog) (w:=w) (base:=base) T aE;have GI:=Ng (P:=l.prog) (w:=w) (base:=base) T OF al;have GR:=Nd (P:=l.prog) (w:=w) (base:=base) T aB;have dE:=Ni (P:=l.prog) (w:=w) (base:=base) T aw;have GB:=Nk T OF ab aC AS ar Ka ax IP a1 dC aD FB;have GS:=Ny T OF aJ a4 RE;have AF:=NH 18 75 T a2 ba (M 18).1;have GP:=NJ 18 76 T OF aK a2 AF ab GB aE WF aZ IO (by decide);have LP:=NQ 18 77 T OF XC aY aK GP;have SE:=NS 18 T ap ao AA;have dF:=Np (P:=l.prog) (w:=w) (base:=base) T af;have SH:=Nq T ag rfl c6 bo af dF;have LE:=MV (P:=l.prog) (w:=w) (base:=base) T aT;have LG:=NL T az aT LE;have TI:=NN T aQ I N0 aA LS;have RO:=NW yT T OF aH I N ak GK aP (PO.mono (by decide)) aj cu aa ST aU (SO.mono (by decide)) aQ TI al GI ag SH ab GB aB GR aw dE aJ GS az LG ao AA ap SE aY (LP.mono (by decide));exact NZ T bu aH RO
theorem N6 {K:W.Frag}{x:Str}{f c P:Addr}{Y J:Value}{od L:Option Addr}{fd:FuncData}{sl U:Array (Option Value)}{I:Array Value}(a:W.nsIn K mainGlobals x=some (some (.ref f)))(l:K.lookup f=some ⟨Y,od,.func fd,sl⟩)(hc:fd.code=.ref c)
 (lc:K.lookup c=some ⟨J,L,.fields I,U⟩) (hP:I[11]? =some (.ref P)):W.tabIn K x=some (c,P):=by
 unfold W.tabIn;rw[a];dsimp only;rw[l];dsimp only;rw[hc];dsimp only;rw[lc];dsimp only;rw[hP]
def N7 (K:W.Frag) (I:List (Addr × Addr)):Sp:=λvs H Q _=>∃(a:Addr) (ns:List Int),vs=[.ref a]/\kH K H a ns/\ns.length<=63/\(∀q∈I,H q.2=some (.iJ #[]))/\∀H',Q (.bl true) H'
theorem kH.ofT {K:W.Frag}{H:Hp}{a:Addr}{ns:List Int}{I:List Addr}(o:tm I H)(h:f_ K H a (ns.map V.int)):kH K H a ns:=by
 rcases h with(h|h)|h
 . rcases o a with z|⟨J,xs,z⟩|⟨_,z⟩ <;> rw[h] at z <;> cases z
 . exact .inl h
 . exact .inr h
theorem walk {l:W.OpenLaw}{q:Program}{loose:List Str}{XP:(Str->Option Value)->Heap->Prop}{YP:World->Heap->Prop}{d:DefRec}{K:Params->W.Frag}(hn:l.most=some 63)(ab:d.params.defaults=[])
 (hY:∀(w:World) (h:Heap),YP w h->(K w.params).In h) (ac:∀w:World,W.noTabs (K w.params)=true) (aa:∀y∈(XY:List Str),∃d',(PyProof.Rows.recsOf q).find? (λe=>e.name == y)=some d')
 (F:∀w:World,∃c Pt c2 J c3 P3 c4 L c5 U c6 Y c7 P7:Addr,W.tabIn (K w.params) "_law_rows"=some (c,Pt)/\W.tabIn (K w.params) "_law_some"=some (c2,J)/\W.tabIn (K w.params) "in_order"=some (c3,P3)/\W.tabIn (K w.params) "_law_sorted"=some (c4,L)/\W.tabIn (K w.params) "sorted_fields"=some (c5,U)/\W.tabIn (K w.params) "_law_group_kind"=some (c6,Y)/\W.tabIn (K w.params) "_law_group_shown"=some (c7,P7)/\∀(mg:Str->Option Value) (fa:Addr) (h:Heap),(K w.params).In h->h.Ns mainGlobals mg->mg d.name=some (.ref fa)->
   ∃fd:FuncData,(∀(s:Shared) (u:Value),BindsTo s fd ⟨[u],[]⟩ [("_law_script",u)])/\∀base:Heap,(K w.params).In base->base.Ns mainGlobals mg->BM mg base->gc l.prog w (K w.params) mg base gf 133 fa fd ["_law_script"] (xA (K w.params) Pt J P3 L U Y P7)):
 W.WalkO q loose XP YP l.row.toRowW d [] (λf vs=>PySem.call f vs):=
 L2.Kb (n:=63) (k:=133) (x:="_law_script") (names:=XY) (sp:=λw I=>N7 (K w.params) I) hn (by decide) ab ⟨rfl,by decide,by decide⟩ hY ac (λw=>by
   obtain⟨c,Pt,c2,J,c3,P3,c4,L,c5,U,c6,Y,c7,P7,ht,jS,rE,yU,mZ,yV,yW,F⟩:=F w;refine⟨[(c,Pt),(c2,J),(c3,P3),(c4,L),(c5,U),(c6,Y),(c7,P7)],λq' hq=>?_,λmg fa h X G hm=>?_⟩
   . simp only[Q1d,Q27,or_false] at hq;rcases hq with e|e|e|e|e|e|e
     . exact⟨"_law_rows",by simp,by rw[e];exact ht⟩
     . exact⟨"_law_some",by simp,by rw[e];exact jS⟩
     . exact⟨"in_order",by simp,by rw[e];exact rE⟩
     . exact⟨"_law_sorted",by simp,by rw[e];exact yU⟩
     . exact⟨"sorted_fields",by simp,by rw[e];exact mZ⟩
     . exact⟨"_law_group_kind",by simp,by rw[e];exact yV⟩
     . exact⟨"_law_group_shown",by simp,by rw[e];exact yW⟩
   obtain⟨fd,hb,hF⟩:=F mg fa h X G hm;refine⟨fd,hb,λbase X1 G1 B=>(hF base X1 G1 B).imp λvs H Q E ⟨a,ns,e,hS,hl,hT,q⟩=>⟨a,ns,e,hS,hl,λq' hq=>.inl ?_,q⟩⟩;simp only[Q1d,Q27,or_false] at hq;rcases hq with e|e|e|e|e|e|e
   . rw[e];exact hT (c,Pt) (by simp)
   . rw[e];exact hT (c2,J) (by simp)
   . rw[e];exact hT (c3,P3) (by simp)
   . rw[e];exact hT (c4,L) (by simp)
   . rw[e];exact hT (c5,U) (by simp)
   . rw[e];exact hT (c6,Y) (by simp)
   . rw[e];exact hT (c7,P7) (by simp))
   aa λw I H a ns hl hO ae af=>⟨a,ns,rfl,kH.ofT hO af,hl,ae,λ_=>rfl⟩
end Pb
open W PyProof.Rows
set_option maxRecDepth 100000 in
set_option maxHeartbeats 0 in
theorem PySem.Challenge.cw_putback_k46_group_holds : PySem.Challenge.rw_putback_k46_group.Holds := by
 w_on
 refine holds_law Pb.said λsaid=>?_;refine holds_open (q:=Pb.qv) (loose:=[]) (Xt:=λs=>xlAt Pb.qv [] s && recOk (RowW.records (PySem.W.OpenRow.toRowW (PySem.W.OpenLaw.row PySem.Challenge.rw_putback_k46_group))) s) (XP:=XL Pb.qv []) (Yf:=Hook.obs (PySem.W.kmHook Pb.KK Pb.m7 Pb.oh [93,161,361,414,465])) (Ya:=Hook.val (PySem.W.kmHook Pb.KK Pb.m7 Pb.oh [93,161,361,414,465])) (YP:=Hook.says (PySem.W.kmHook Pb.KK Pb.m7 Pb.oh [93,161,361,414,465])) (N:=11013) ?hl (Hook.of (PySem.W.kmHook Pb.KK Pb.m7 Pb.oh [93,161,361,414,465])) (Hook.keeps (PySem.W.kmHook Pb.KK Pb.m7 Pb.oh [93,161,361,414,465])) (λs e=>xl_of s (Bool.and_eq_true_iff.mp e).1) XL.keeps (by rfl) (by rfl) (by rfl) (λs e=>recFacts_of (Bool.and_eq_true_iff.mp e).2) (by rfl) (by first|assumption|decide +kernel) (by decide +kernel) ⟨rfl,rfl,rfl,rfl,rfl,by decide +kernel⟩ ?hw ?hc
 case hl=>exact Pb.GO (by rfl) (by rfl) (λs=>rfl) (by rfl) (Q2s 26 Pb.uO).symm (λP=>by kernel_rfl) Pb.G4 (Pb.GQ Pb.G5 (Pb.GU Pb.G6 Pb.G7 Pb.G8))
 (case hw=>w_witness2)
 k_fill
 refine Pb.walk (l:=PySem.Challenge.rw_putback_k46_group) rfl rfl (λw h Y=>PySem.W.km_in_of Y) (λw=>by kernel_rfl) ?HR ?F
 case HR=>intro y hy;simp only[Q1d,Q27,or_false] at hy;rcases hy with rfl|rfl|rfl|rfl|rfl|rfl|rfl <;> exact⟨_,rfl⟩
 case F=>
  intro w
  refine' ⟨_,_,_,_,_,_,_,_,_,_,_,_,_,_,?ht,?jS,?rE,?yU,?mZ,?yV,?yW,?GG⟩
  case ht|jS|rE|yU|mZ|yV|yW=>
   refine' Pb.N6 ?ta ?tl ?tc ?N8 ?tP
   (case ta=>k_is);(case tl=>k_is);(case tc=>rfl);(case N8=>k_is);(case tP=>rfl)
  case GG=>
   intro mg fa h KX G hmg
   refine' Pb.all_mk KX G hmg ?xB ?xC ?xD ?xE ?xF ?xG ?xH ?xI ?xJ ?xK ?xM ?xN ?xO ?xP ?xQ ?xR ?xS ?xT ?xU ?xV ?xW ?xX ?xY ?xZ ?x6 ?x8 ?x9 ?x_ ?ya ?yb ?yc ?yd ?ye ?yf ?yg ?yh ?yi ?yj ?yk ?yl ?aR ?lR ?ym ?kR ?aS ?lS ?yn ?kS ?aI ?lI ?yo ?kI ?aO ?lO ?yp ?kO ?aF ?lF ?yq ?kF ?aN ?lN ?yr ?kN ?aG ?lG ?yt ?kG ?zz ?yu ?Gk ?Gm ?Gn ?Gp ?Gq ?yw ?Gr ?Gs ?uG ?uH ?uI ?uJ ?uK ?uL ?yx ?yz ?yA ?yB ?yC ?yD ?yE ?yF ?Gu ?Gv ?yG ?yH ?Gw ?Gx ?yI ?yJ ?Gy ?hPI ?yK ?yL ?Gz ?GA ?yM ?yN ?GC ?GD ?yO ?yP ?GF ?GH ?yQ ?yR ?GJ ?GL ?yS ?yT
   case xB|xC|xD|xE|xF|xG|xH|xI|xJ|xK|xM|xN|xO|xP|xQ|xR|xS|xT|xU|xV|xW|xX|xY|xZ|x6|x8|x9|x_|ya|yb|yc|yd|ye|yf|yg|yh|yi|yj|yk|yl=>
    refine' Pb.N2 ?a ?l ?c ?k
    (case a=>k_is);(case l=>k_is);(case c=>k_is);(case k=>k_is)
   (case aR=>k_is);(case lR=>k_is);(case ym=>k_is);(case kR=>k_is)
   (case aS=>k_is);(case lS=>k_is);(case yn=>k_is);(case kS=>k_is)
   (case aI=>k_is);(case lI=>k_is);(case yo=>k_is);(case kI=>k_is)
   (case aO=>k_is);(case lO=>k_is);(case yp=>k_is);(case kO=>k_is)
   (case aF=>k_is);(case lF=>k_is);(case yq=>k_is);(case kF=>k_is)
   (case aN=>k_is);(case lN=>k_is);(case yr=>k_is);(case kN=>k_is)
   (case aG=>k_is);(case lG=>k_is);(case yt=>k_is);(case kG=>k_is)
   case zz=>intro x hx;simp only[Q1d,Q27,or_false] at hx;rcases hx with rfl|rfl|rfl|rfl|rfl|rfl|rfl|rfl|rfl|rfl|rfl|rfl|rfl|rfl|rfl <;> k_is
   (case yu=>k_is);(case Gk=>k_is);(case Gm=>rfl)
   (case Gn=>k_is);(case Gp=>k_is);(case Gq=>rfl)
   (case yw=>k_is);(case Gr=>k_is);(case Gs=>rfl)
   case uG|uH|uI|uJ|uK|uL=>
    refine' Pb.N3 ?a ?l ?c ?k ?f ?g
    (case a=>k_is);(case l=>k_is);(case c=>k_is);(case k=>k_is);(case f=>kernel_rfl);(case g=>kernel_rfl)
   case yx|yz|yA|yB|yC|yD=>kernel_rfl
   case yE=>refine⟨?_,?_,?_,?_,?_,?_⟩ <;> kernel_rfl
   (case yF=>rfl);(case Gu=>k_is);(case Gv=>rfl);(case yG=>kernel_rfl)
   (case yH=>rfl);(case Gw=>k_is);(case Gx=>rfl);(case yI=>kernel_rfl)
   (case yJ=>rfl);(case Gy=>k_is);(case hPI=>rfl);(case yK=>kernel_rfl)
   (case yL=>rfl);(case Gz=>k_is);(case GA=>rfl);(case yM=>kernel_rfl)
   (case yN=>rfl);(case GC=>k_is);(case GD=>rfl);(case yO=>kernel_rfl)
   (case yP=>rfl);(case GF=>k_is);(case GH=>rfl);(case yQ=>kernel_rfl)
   (case yR=>rfl);(case GJ=>k_is);(case GL=>rfl);(case yS=>kernel_rfl)
   (case yT=>decide)
