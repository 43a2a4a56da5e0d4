import PyProof.Rows.All
import Wide.All
import OpenK.AllK
import Wide.FinOn
import Lean
import PyProof.EqAt
import PyProof.EqKinds
import PyProof.TupleCall
import KE.KSortAsk
import PyProof.NeKinds
import PyProof.StationsW
import PyProof.ExcClass3
import PyProof.Rows.Own
import PyProof.NsDelKeeps
import KE.KIsAll
import PyProof.ExcAttrAll.ValueError
import PyProof.IsiH_list
import PyProof.Rows.FStr
import PyProof.FString4
import PyProof.StrLawsRepr
import PyProof.Rows.StrMeet
import PyProof.ExcInit
import PyProof.InstStoreFacts
import PyProof.Rows.SetFrom
import PyProof.DictWalks
import PyProof.Draws
import KE.KDictOf
import PyProof.DictUpdate
import PySem.Challenge.RW_putback_k33_keeps
abbrev XA:List PySem.Str:=["self","kind","source","seen"]
abbrev XB:List PySem.Str:=["self","kind","source"]
abbrev XD:List PySem.Str:=["_law_script","_law_at"]
abbrev XE:List PySem.Str:=["self","name"]
abbrev XF:List PySem.Str:=["_law_script","_law_at","_law_kind_here","_law_deep","_law_m","_law_names_here","_law_name","_law_inner_here","_law_nests","_law_some_here"]
abbrev XG:List PySem.Str:=["_law_script","_law_at","_law_kind_here","_law_room"]
abbrev XH:List PySem.Str:=["self","kind"]
abbrev XI:List PySem.Str:=["_law_script","_law_at","_law_kind_here","_law_room","_law_made","_law_name","_law_inner_here","_law_top","_law_many"]
abbrev XJ:List PySem.Str:=["fields","names"]
abbrev XM:List PySem.Str:=["_law_kind_here","_law_found","_law_due","_law_name","_law_inner_here"]
abbrev XN:List PySem.Str:=["_law_a","_law_b","_law_kind_here","_law_found","_law_due","_law_name","_law_inner_here"]
abbrev XO:List PySem.Str:=["_law_fields_here","_law_name","_law_inner_here","_law_rest"]
abbrev XQ:List PySem.Str:=["_law_script","_law_at","_law_kind_here","_law_room","_law_rows_here","_law_seen","_law_k","_law_row"]
abbrev XR:List PySem.Str:=["_law_script","_law_at","_law_many","_law_deep"]
abbrev XS:List PySem.Str:=["_law_script","_law_at","_law_deep"]
abbrev XT:List PySem.Str:=["record","names"]
abbrev XU:List PySem.Str:=["_law_script","_law_at","_law_kind_here","_law_deep"]
abbrev XV:List PySem.Str:=["_law_script","_law_at","_law_many","_law_deep","_law_names_here","_law_m","_law_lead","_law_by","_law_fields_here","_law_k","_law_kind_here","_law_name"]
abbrev XW:List PySem.Str:=["_law_pair","_law_fields_here","_law_name","_law_inner_here","_law_rest"]
abbrev XX:List PySem.Str:=["_law_script","_law_at","_law_many","_law_letters","_law_m","_law_step_here","_law_stem","_law_cut","_law_names_here","_law_k","_law_sign"]
abbrev XY:List PySem.Str:=["kind","name"]
abbrev XZ:List PySem.Str:=["_law_script","_law_at","_law_many","_law_deep","_law_names_here"]
abbrev Xa:List PySem.Str:=["fields","record"]
abbrev Xb:List PySem.Str:=["_law_script","_law_at","_law_kind_here","_law_many","_law_deep"]
abbrev Xc:List PySem.Str:=["_law_script","_law_at","_law_k","_law_m","_law_kind_here","_law_view","_law_source","_law_other","_law_name","_law_inner_here"]
abbrev Xd:List PySem.Str:=["_law_view","_law_kind_here","_law_source","_law_other","_law_name","_law_told","_law_behind","_law_inner_here","_law_shown"]
abbrev Xe:List PySem.Str:=["_law_kind_here","_law_found","_law_due"]
abbrev Xf:List PySem.Str:=["record","name","value"]
abbrev Xg:List PySem.Str:=["kind","seen"]
abbrev Xh:List PySem.Str:=["fields","name"]
abbrev Xi:List PySem.Str:=["field","inner"]
abbrev Xj:List PySem.Str:=["record","names","into"]
abbrev Xk:List PySem.Str:=["_law_script","_law_at","_law_kind_here","_law_many","_law_deep","_law_steps","_law_k","_law_view"]
abbrev Xl:List PySem.Str:=["_law_script","_law_at","_law_signs","_law_m","_law_many","_law_word_here","_law_k","_law_place"]
abbrev Xm:List PySem.Str:=["kind","value"]
abbrev Xn:List PySem.Str:=["_law_fields_here","_law_name"]
abbrev Xo:List PySem.Str:=["_law_script","_law_at","_law_deep","_law_m"]
abbrev Xp:List PySem.Str:=["record","old","new"]
abbrev Xq:List PySem.Str:=["_law_kind_here","_law_row"]
abbrev Xr:List PySem.Str:=["kind","names"]
abbrev Xs:List PySem.Str:=["names","into"]
abbrev Xu:List PySem.Str:=["ahead","inner","kind","source","seen"]
abbrev Xv:List PySem.Str:=["steps","kinds","source"]
abbrev Xw:List PySem.Str:=["kind","tree","place","number","arm"]
abbrev Xx:List PySem.Str:=["_law_script","_law_at","_law_names_here","_law_made","_law_name","_law_m"]
abbrev Xy:List PySem.Str:=["_law_script","_law_at","_law_many"]
abbrev Xz:List PySem.Str:=["fields","name","pair"]
abbrev X0:List PySem.Str:=["self","field","inner"]
abbrev X2:List PySem.Str:=["self","names","into"]
abbrev X3:List PySem.Str:=["_law_view","_law_kind_here","_law_source","_law_other","_law_name"]
abbrev X4:List PySem.Str:=["pairs","fields","number","name"]
abbrev X5:List PySem.Str:=["old","new"]
abbrev X6:List PySem.Str:=["self","steps"]
abbrev X7:List PySem.Str:=["_law_names_here","_law_m","_law_letters","_law_k","_law_name"]
abbrev X8:List PySem.Str:=["self","kind","source","seen","kinds","shown","told","number"]
abbrev X9:List PySem.Str:=["_law_fields_here","_law_name","_law_other","_law_inner_here"]
abbrev X_:List PySem.Str:=["self","old","new"]
abbrev YA:List PySem.Str:=["kind","tree"]
abbrev YB:List PySem.Str:=["steps","kinds","source","shown","number","step"]
abbrev YC:List PySem.Str:=["pair","fields","names"]
abbrev YD:List PySem.Str:=["kind","rows","earlier","number","row","place"]
abbrev YE:List PySem.Str:=["self","names"]
abbrev YF:List PySem.Str:=["self","field"]
abbrev YG:List PySem.Str:=["ahead","inner","kind"]
abbrev YH:List PySem.Str:=["kind","value","form"]
abbrev YI:List PySem.Str:=["_law_script","_law_at","_law_cell","_law_m"]
abbrev YJ:List PySem.Str:=["_law_script","_law_at","_law_m","_law_cell"]
abbrev YK:List PySem.Str:=["ahead","inner","kind","source","seen","e"]
abbrev YL:List PySem.Str:=["self","kind","source","seen","name","new"]
abbrev YM:List PySem.Str:=["_law_script","_law_at","_law_names_here"]
abbrev YN:List PySem.Str:=["fields","record","name","inner","place"]
theorem zzx {α:Sort _}{β:α->Sort _}{γ:∀a,β a->Sort _}{δ:∀a b,γ a b->Sort _}{p:∀a b c,δ a b c->Prop}{G:Prop}(h:∃a b c d,p a b c d)(k:∀a b c d,p a b c d->G):G:=let⟨a,b,c,d,e⟩:=h;k a b c d e
theorem zza {A B C D E G:Prop}(h:A/\B/\C/\D/\E)(k:A->B->C->D->E->G):G:=k h.1 h.2.1 h.2.2.1 h.2.2.2.1 h.2.2.2.2
local macro_rules|`(tactic|obtain⟨$s,*⟩:=$t)=>do
 let a:=s.getElems;if a.size<6 then Lean.Macro.throwUnsupported
 let b:=a.extract 4 a.size;let q←(a.extract 0 4).mapM λp=>`(rintroPat|($p:rcasesPatLo));let c←match t with|`($x:ident)=>`(tactic|try clear $x)|_=>`(tactic|skip)
 `(tactic|((first|refine zzx $t ?_|refine zza $t ?_);$c;rintro $q* e;obtain⟨$b,*⟩:=e))
open Nat renaming le_refl→Q0,ne_of_lt→Q08,le_trans→Q0b,zero_le→Q0c,lt_of_lt_of_le→Q0e,le_of_lt→Q0t,ne_of_gt→Q0v,lt_irrefl→Q0w,le_of_not_lt→Q0y,mul_le_mul_right→Q1,le_add_right→Q11,succ_mul→Q12,lt_succ_self→Q14,le_succ→Q15,not_lt_zero→Q1o,le_of_eq→Q1v,lt_of_le_of_lt→Q1z,lt_succ_of_lt→Q2f,le_max_left→Q2g,le_max_right→Q2h,add_le_add_left→Q2s,mul_left_comm→Q33,add_le_add_right→Q37,mul_le_mul_left→Q39,le_mul_of_pos_right→Q3b,succ_le_succ→Q3e,sub_succ_lt_self→Q3h,le_antisymm→Q3i
open PySem renaming wpAny_bind→Q00,wpAny_pure→Q0a,wpAny_mono→Q0r
open List renaming length_map→Q01,getElem?_eq_getElem→Q03,mem_cons_self→Q04,size_toArray→Q05,mem_append_right→Q07,mem_cons_of_mem→Q09,length_append→Q0d,getD_eq_getElem?_getD→Q0f,getElem?_map→Q0g,map_append→Q0h,length_cons→Q0j,map_cons→Q0m,length_take→Q0n,mem_append_left→Q0o,take_succ→Q0p,map_map→Q0q,nodup_nil→Q0s,filter_cons→Q0u,take_of_length_le→Q0x,getElem_of_mem→Q0z,all_eq_true→Q10,filterMap_cons→Q13,mem_of_getElem?→Q16,getElem_mem→Q17,append_nil→Q19,find?_cons→Q1b,map_congr_left→Q1c,length_replicate→Q1e,any_cons→Q1f,pairwise_map→Q1g,append_assoc→Q1h,mem_cons→Q1i,mem_of_find?_eq_some→Q1j,find?_some→Q1k,length_singleton→Q1l,lookup_cons→Q1m,length_range→Q1p,take_length→Q1r,mem_filter→Q1s,length_filter_le→Q1t,getElem?_append_right→Q1w,all_cons→Q1y,pairwise_singleton→Q2,foldl_cons→Q20,getElem_take→Q22,not_mem_nil→Q23,filter_append→Q24,mem_append→Q25,getElem_inj→Q26,getElem?_set_self→Q27,getElem?_set_ne→Q28,of_mem_zip→Q29,getElem?_append_left→Q2a,getElem_map→Q2c,ext_getElem→Q2d,range_succ→Q2j,any_map→Q2l,mem_singleton→Q2m,getElem?_replicate→Q2o,length_drop→Q2p,length_nil→Q2r,forIn_cons→Q2t,lt_irrefl→Q2z,zip_cons_cons→Q3,drop_of_length_le→Q30,mem_map_of_mem→Q31,perm_cons→Q32,replicate_succ→Q34,nodup_range→Q35,flatten_append→Q3a,filter_sublist→Q3c,eq_nil_of_length_eq_zero→Q3d,any_eq_true→Q3f,eq_of_mem_replicate→Q3g,nodup_iff_pairwise_ne→Q3j,length_erase_of_mem→Q3k,length_pos_of_mem→Q3l,erase_subset→Q3m,sum_cons→Q3n,take_append_drop→Q3o,filterMap_append→Q3p
open PySem.Heap renaming lt_size→Q02,get?_push_of_some→Q06,get?_push_size→Q0i,size_push→Q18,get?_update_other→Q1a,get?_update_self→Q1x,size_update→Q2e,get?_push_ne→Q2x
open Int renaming emod_nonneg→Q0k,emod_lt_of_pos→Q0l,mul_le_mul_of_nonneg_right→Q1d,add_mul→Q1q,toNat_of_nonneg→Q21,toNat_natCast→Q2i,one_mul→Q2k,lt_of_lt_of_le→Q36,natCast_add→Q38
open Array renaming getD_eq_getD_getElem?→Q1n,length_toList→Q1u,empty_append→Q2n,getElem?_eq_getElem→Q2v,size_append→Q2w,forIn_toList→Q2y
open Option renaming isSome_map→Q2b,getD_none→Q2q,getD_some→Q2u
set_option genSizeOf false
open PySem
theorem vx:2<=PySem.sizeLine:=by decide
namespace L2
open Spec PyProof.Rows
noncomputable def qc (s:Stmt):Arguments:=match s with
 | .FunctionDef _ a _ _ _ _ _ _ _ _=>a
 |_=>{ posonlyargs:=[],args:=[],vararg:=none,kwonlyargs:=[],kw_defaults:=[],kwarg:=none,defaults:=[] }
noncomputable def k5 (s:Stmt):List Stmt:=match s with
 | .FunctionDef _ _ b _ _ _ _ _ _ _=>b
 |_=>[]
noncomputable def eP (s:Stmt):Scope:=match s with
 | .FunctionDef _ _ _ _ _ _ sc _ _ _=>sc
 |_=>{ kind:=.function,names:=[],isGenerator:=false,isCoroutine:=false }
end L2
namespace Pb
open W
noncomputable def treeOf:List Obj->Nat->BT->Option BT
 |[],_,t=>some t
 |o::l,n,t=>match((t.ins n o).get n).isSome with
  |true=>treeOf l (n+1) (t.ins n o)
  |false=>none
theorem vy:∀(l:List Obj) (n:Nat) (t t':BT),treeOf l n t=some t'->absHeap t' (n+l.length) life=⟨(absHeap t n life).objs++l.toArray,life⟩
 |[],n,t,t',h=>by
  cases h;show absHeap t n life=_;have:(absHeap t n life).objs++#[]=(absHeap t n life).objs:=Array.append_empty;rw[this];rfl
 |o::l,n,t,t',h=>by
  unfold treeOf at h
  cases e:((t.ins n o).get n).isSome with
  |false=>rw[e] at h;cases h
  |true=>
   rw[e] at h;have:=vy (life:=life) l (n+1) _ t' h;rw[absHeap_ins e] at this;have e2:n+(o::l).length=n+1+l.length:=by rw[Q0j];omega
   rw[e2,this];show Heap.mk ((absHeap t n life).objs.push o++l.toArray) life=_;congr 1;apply Array.ext';simp
noncomputable def ot (tb:String->Option Builtin) (p:Program) (w:World) (aa:Nat) (ann:Option Value):Nat->SharedT->Thread->Option SharedT
 |0,_,_=>none
 |n+1,s,t=>match through t with
  |true=>some s
  |false=>match stepOk aa ann t with
   |false=>none
   |true=>match stepT (denote tb) p w s t with
    |some (s',t')=>ot tb p w aa ann n s' t'
    |none=>none
theorem vz:∀{n:Nat}{s s':SharedT}{t:Thread},ot tb p w aa ann n s t=some s'->topRun tb p w aa ann n s.abs t=some s'.abs
 |0,_,_,_,h=>by cases h
 |n+1,s,s',t,h=>by
  unfold ot at h;unfold topRun
  cases he:through t with
  |true=>rw[he] at h;cases h;rfl
  |false=>
   rw[he] at h
   cases hk:stepOk aa ann t with
   |false=>rw[hk] at h;cases h
   |true=>
    rw[hk] at h
    cases hs:stepT (denote tb) p w s t with
    |none=>rw[hs] at h;cases h
    |some r=>obtain⟨ab,ae⟩:=r;rw[hs] at h;rw[stepT_spec hs];exact vz h
noncomputable abbrev lO:=@W.Fast.tw10156331382660048174
noncomputable abbrev je:=@W.Fast.tw11892475500146522536
noncomputable abbrev jf:=@W.Fast.tw14364793385576792824
noncomputable abbrev ou:=@W.Fast.tw6613529449190102663
noncomputable abbrev seenQ:=@W.Fast.tw4187177175401517315
noncomputable def lP (p:Program) (w:World) (aa:Nat) (ann:Option Value):Nat->SharedT->Thread->Option SharedT
 |0,_,_=>none
 |n+1,s,t=>match through t with
  |true=>some s
  |false=>match ou aa ann t with
   |false=>none
   |true=>match lO (je jf) p w s t with
    |some (s',t')=>lP p w aa ann n s' t'
    |none=>none
theorem vA:∀(n:Nat) (s:SharedT) (t:Thread),lP p w aa ann n s t=ot treeTable p w aa ann n s t
 |0,_,_=>rfl
 |n+1,s,t=>by
  unfold lP ot;have e1:ou aa ann t=stepOk aa ann t:=congrFun (congrFun (congrFun W.Fast.te6613529449190102663.symm _) _) _;have e2:lO (je jf) p w s t=stepT (denote treeTable) p w s t:=by rw[show @lO=@stepT from W.Fast.te10156331382660048174.symm,show @je=@denote from W.Fast.te11892475500146522536.symm,show @jf=@treeTable from W.Fast.te14364793385576792824.symm]
  rw[e1,e2];simp only[vA n]
noncomputable def looksAt (p q:Program) (loose:List Str) (Xt:Shared->Bool) {α:Type}(Yf:Shared->α) (g0:Bool) (h₀:Heap) (s:Shared):=
 ((staticsOk (importedModules p.main.body) h₀ s.heap && namesBound p s.heap && gensDone s && laidKept h₀ s.heap),seenQ q loose (importedModules p.main.body) Xt g0 s,Yf s)
noncomputable def vB:Nat->List Obj->BT->BT
 |_,[],t=>t
 |n,o::l,t=>vB (n+1) l (t.ins n o)
noncomputable def ow (p:Program) (w:World) (aa:Nat) (ann:Option Value):Nat->SharedT->Thread->Option (Flow × SharedT × Code × Pos)
 |0,_,_=>none
 |n+1,s,t=>match endAt 1 t with
  |some f=>some (f,s,t.code,t.pos)
  |none=>match ou aa ann t with
   |false=>none
   |true=>match lO (je jf) p w s t with
    |some (s',t')=>ow p w aa ann n s' t'
    |none=>none
theorem vC (aa:Nat)(ann:Option Value)(t:Thread):ou aa ann t=stepOk aa ann t:=congrFun (congrFun (congrFun W.Fast.te6613529449190102663.symm _) _) _
theorem vD:@je jf=denote treeTable:=by rw[show @je=@denote from W.Fast.te11892475500146522536.symm,show @jf=@treeTable from W.Fast.te14364793385576792824.symm]
theorem vE (p:Program)(w:World)(s:SharedT)(t:Thread):lO (je jf) p w s t=stepT (denote treeTable) p w s t:=by rw[show @lO=@stepT from W.Fast.te10156331382660048174.symm,vD]
theorem vF:∀(n:Nat) (s:SharedT) (t:Thread),ow p w aa ann n s t=segRunT treeTable p w aa ann 1 n s t
 |0,_,_=>rfl
 |n+1,s,t=>by
  unfold ow segRunT;rw[vC,vE]
  cases endAt 1 t with
  |some f=>rfl
  |none=>
   cases stepOk aa ann t with
   |false=>rfl
   |true=>
    cases stepT (denote treeTable) p w s t with
    |none=>rfl
    |some r=>obtain⟨s',t'⟩:=r;exact vF n s' t'
noncomputable def oy (tb:String->Option Builtin) (p:Program) (w:World) (aa:Nat) (ann:Option Value):Nat->SharedT->Thread->Option (SharedT × Thread)
 |0,s,t=>some (s,t)
 |n+1,s,t=>match through t with
  |true=>none
  |false=>match stepOk aa ann t with
   |false=>none
   |true=>match stepT (denote tb) p w s t with
    |some (s',t')=>oy tb p w aa ann n s' t'
    |none=>none
theorem vG:∀{n:Nat}{s s':SharedT}{t t':Thread},oy tb p w aa ann n s t=some (s',t')->topGo tb p w aa ann n s.abs t=some (s'.abs,t')
 |0,s,s',t,t',h=>by
  have h:some (s,t)=some (s',t'):=h
  cases h;rfl
 |n+1,s,s',t,t',h=>by
  unfold oy at h;unfold topGo
  cases he:through t with
  |true=>rw[he] at h;cases h
  |false=>
   rw[he] at h
   cases hk:stepOk aa ann t with
   |false=>rw[hk] at h;cases h
   |true=>
    rw[hk] at h
    cases hs:stepT (denote tb) p w s t with
    |none=>rw[hs] at h;cases h
    |some r=>obtain⟨ab,ae⟩:=r;rw[hs] at h;rw[stepT_spec hs];exact vG h
noncomputable def qd (p:Program) (w:World) (aa:Nat) (ann:Option Value):Nat->SharedT->Thread->Option (SharedT × Thread)
 |0,s,t=>some (s,t)
 |n+1,s,t=>match through t with
  |true=>none
  |false=>match ou aa ann t with
   |false=>none
   |true=>match lO (je jf) p w s t with
    |some (s',t')=>qd p w aa ann n s' t'
    |none=>none
theorem vH:∀(n:Nat) (s:SharedT) (t:Thread),qd p w aa ann n s t=oy treeTable p w aa ann n s t
 |0,_,_=>rfl
 |n+1,s,t=>by
  unfold qd oy;rw[vC,vE];simp only[vH n]
noncomputable def qe (p:Program) (w:World) (aa:Nat) (ann:Option Value) (env:Env) (c:Code) (q0:Pos) (l:List Stmt) (k1 k2 k3:Nat) (s:SharedT):Option (Thread × Code × Code × SharedT × Pos):=
 match qd p w aa ann k1 s (topStub p) with
 |none=>none
 |some (s1,t1)=>match ow p w aa ann k2 s1 (blockOf (behindTheImports p) env c t1.pos [topFrame q0]) with
  |some (.next,s2,c2,p2)=>(match ow p w aa ann k3 s2 (piecesOf l env c p2 [topFrame q0]) with
   |some (.next,s3,c3,p3)=>some (t1,c2,c3,s3,p3)
   |_=>none)
  |_=>none
theorem Cw(hb:behindTheImports p=l++rest)
 (h:qe p w aa ann env c q0 l k1 k2 k3 s=some (⟨je jf (.body (behindTheImports p) env),c,ab,[topFrame q0]⟩,c,c,s3,p3))
 (k:topRun treeTable p w aa ann N s3.abs (restOf rest env c p3 [topFrame q0])=some r):topRun treeTable p w aa ann (k1+(k2+(k3+N))) s.abs (topStub p)=some r:=by
 unfold qe at h;split at h
 . cases h
 next s1 t1 e1=>
  split at h
  next s2 c2 p2 e2=>
   split at h
   next ae c3 af e3=>
    cases h;rw[vH] at e1;rw[vF] at e2 e3;have g1:=vG e1;rw[vD] at g1;have g3:=piece_app (rest:=rest) (segRun_of e3) k;rw[<-hb] at g3;exact go_top g1 (piece_block (segRun_of e2) g3)
   . cases h
  . cases h
noncomputable def rY (P:Params):BT:=(treeOf (boot_heap P).objs.toList 0 .nil).getD .nil
noncomputable def qf (w:World) (os:OsState):SharedT:=⟨rY w.params,(boot_heap w.params).objs.size,(boot_heap w.params).life,#[],boot_drawn,boot_toks,os⟩
theorem Cy{Xt:Shared->Bool}{α:Type}{Yf:Shared->α}{Ya:World->α}{S3:World->OsState->SharedT}
 (e:opening p=plainProg p.main.scope.names) (hN:Nat.ble 600 N=true) (f:∀s,fenceModules? p s=some s) (ag:N=k1+(k2+(k3+N4))) (hb:behindTheImports p=l++rest)
 (b0:∀P:Params,((boot_heap P).isNs mainGlobals,(treeOf (boot_heap P).objs.toList 0 .nil).isSome,(boot_heap P).objs.size,(boot_heap P).nsMap mainGlobals "__annotations__")=(true,true,aa,ann))
 (ae:∀w os,qe p w aa ann env c q0 l k1 k2 k3 (qf w os)=some (⟨je jf (.body (behindTheImports p) env),c,ab,[topFrame q0]⟩,c,c,S3 w os,p3))
 (af:∀w os,((lP p w aa ann N4 (S3 w os) (restOf rest env c p3 [topFrame q0])).map λ(s:SharedT)=>looksAt p q loose Xt Yf g0 (boot_heap w.params) s.abs)=some (true,openGood q loose,Ya w)):LeftO p q loose Xt Yf Ya N g0:=λw=>by
 obtain⟨⟨h,gs,d,k,os⟩,e1,e'⟩:=Option.map_eq_some_iff.mp (boot_open e hN f w);obtain⟨rfl,rfl,rfl,rfl⟩:h=boot_heap w.params/\gs=Array.mk []/\d=boot_drawn/\k=boot_toks:=by simpa using e'
 have ah:=b0 w.params;obtain⟨z,y0,hsz,ai⟩:_/\_/\_/\_:=by simpa only[Prod.mk.injEq] using ah
 obtain⟨T,y⟩:=Option.isSome_iff_exists.mp y0;obtain⟨s,r1,r2⟩:=Option.map_eq_some_iff.mp (af w os);rw[vA] at r1;have r3:=Cw hb (ae w os) (vz r1);rw[<-ag] at r3;have hT:=vy (life:=(boot_heap w.params).life) _ _ _ _ y
 have hS:SharedT.abs (qf w os)=⟨boot_heap w.params,#[],boot_drawn,boot_toks,os⟩:=by
  unfold SharedT.abs qf rY;dsimp only;rw[y];dsimp only[Option.getD];rw[Nat.zero_add,Q1u] at hT;rw[hT];have e0:(absHeap BT.nil 0 (boot_heap w.params).life).objs=#[]:=rfl;rw[e0,Q2n,Array.toArray_toList]
 rw[hS] at r3
 have t:topFrom treeTable p w N ⟨boot_heap w.params,#[],boot_drawn,boot_toks,os⟩=some s.abs:=by
  unfold topFrom;dsimp only;rw[z,hsz,ai,r3];have l1:=congrArg (λz=>z.1) r2;dsimp only[looksAt] at l1;show(match staticsOk (importedModules p.main.body) (boot_heap w.params) s.abs.heap && namesBound p s.abs.heap && gensDone s.abs && laidKept (boot_heap w.params) s.abs.heap with|true=>_|false=>_)=_;rw[l1]
 unfold openEnds;rw[e1];show(topFrom treeTable p w N _).map _=_;rw[t];have l2:=congrArg (λz=>z.2) r2;dsimp only[looksAt] at l2;rw[show @seenQ=@openSeen from W.Fast.te4187177175401517315.symm] at l2;exact congrArg some l2
theorem Cz{Xt:Shared->Bool}{α:Type}{Yf:Shared->α}{Ya:World->α}{S3 S5:World->OsState->SharedT}
 (b:∀w os,lP p w aa ann N4 (S3 w os) t=some (S5 w os)) (l:∀w os,looksAt p q loose Xt Yf g0 (boot_heap w.params) (S5 w os).abs=(true,openGood q loose,Ya w)):
 ∀w os,((lP p w aa ann N4 (S3 w os) t).map λ(s:SharedT)=>looksAt p q loose Xt Yf g0 (boot_heap w.params) s.abs)=some (true,openGood q loose,Ya w):=λw os=>by
 rw[b];exact congrArg some (l w os)
theorem CC{Xt:Shared->Bool}{α:Type}{Yf:Shared->α}{Ya:World->α}{S5:World->OsState->SharedT}
 (l1:∀w os,(staticsOk (importedModules p.main.body) (boot_heap w.params) (S5 w os).abs.heap && namesBound p (S5 w os).abs.heap && gensDone (S5 w os).abs && laidKept (boot_heap w.params) (S5 w os).abs.heap)=true)
 (l2:∀w os,seenQ q loose (importedModules p.main.body) Xt g0 (S5 w os).abs=openGood q loose) (l3:∀w os,Yf (S5 w os).abs=Ya w):
 ∀w os,looksAt p q loose Xt Yf g0 (boot_heap w.params) (S5 w os).abs=(true,openGood q loose,Ya w):=λw os=>Prod.ext (l1 w os) (Prod.ext (l2 w os) (l3 w os))
end Pb
namespace Pb
open L2
noncomputable section
structure DR where
 x:Str
 n:Nat
 l:Nat
 N:List Str
 v:Bool
 c:List Str
noncomputable def dd (x:Str) (n l:Nat) (N:List Str):DR:=⟨x,n,l,N,true,[]⟩
noncomputable def de (x:Str) (n l:Nat) (N:List Str):DR:=⟨x,n,l,N,false,[]⟩
inductive Itm where
 |md (x:Str)
 |df (d:DR)
 |cl (x:Str) (l b:Nat) (e:Bool) (ss:List Nat) (ms:List DR) (st:List Str)
structure FR where
 x:Str
 q:Str
 s:Stmt
 d:DR
 m:Str
 u:Nat
 a:Nat
 t:Nat
noncomputable def FR.c (r:FR):Nat:=r.a+(if r.d.v then 5 else 3)
noncomputable def FR.f (r:FR):Nat:=r.c+1
noncomputable def FR.p (r:FR):List Str:=r.d.N.take r.d.n
structure GS where
 a:Nat
 t:Nat
 m:Str
 u:Nat
noncomputable def tS:Nat->List Str->List Value
 |_,[]=>[]
 |n,x::r=>.str x n::tS (n+1) r
noncomputable def hF (r:FR):Obj:=.mk (.type "function") none (.func (.mk r.x r.q (qc r.s) (.stmts (k5 r.s)) (eP r.s) 3 [] .none .none .none (.str r.m r.u) none (.ref r.c) .none 0)) #[]
noncomputable def hR (r:FR):Obj:=.mk .none none (.func (.mk r.x r.q (qc r.s) (.stmts (k5 r.s)) (eP r.s) 0 [] .none .none .none .none none .none .none 0)) #[]
noncomputable def hC (x q:Str) (t l n:Nat) (b:Bool) (a:Nat) (y:List Value) (e:Nat):Obj:=.mk (.type "code") none (.fields (List.toArray (.str x t:: .str q (t+1):: .str (.ofString "/claim/cut.py") (t+2):: .int l 0:: .int n 0:: .int 0 0:: .int 0 0:: .int (if b then 3 else 0) 0:: .ref a:: .bool b:: .int 181 0:: .ref (a+1):: .none::y.append [.int e 0,.int l 0,.str (.ofString "/claim/cut.py") (e+1)]))) #[]
noncomputable def hT (n:Nat) (l:List Str):Obj:=.mk (.type "tuple") none (.seq (tS n l).toArray) #[]
noncomputable def tI:List (Nat × Nat × Nat)->List Value
 |[]=>[]
 |(a,b,c)::r=>.int a 0:: .int b 0:: .ref c::tI r
noncomputable def hI (l:List (Nat × Nat × Nat)):Obj:=.mk .none none (.fields (tI l).toArray) #[]
noncomputable def hE (P:Params) (e:Str × Nat × Value):DictEntry:=.mk (PyData.keyHash P e.1) (.str e.1 e.2.1) e.2.2
noncomputable def hD (P:Params) (l:List (Str × Nat × Value)) (n:Nat):Obj:=.mk (.type "dict") none (.dict (l.map (hE P)).toArray n) #[]
noncomputable def hB (x:String) (l:List Value):Obj:=.mk (.type "builtin_function_or_method") none (.fields (.builtin x::l).toArray) #[]
noncomputable def hW (c d:Nat) (m:Str) (u:Nat):Obj:=.mk (.type "frame") none .plain #[some (.ref c),some (.ref 3),some (.ref d),none,some (.str m u),none,some (.ref 0)]
noncomputable def FR.co (r:FR):Obj:=let d:=r.d;let k:=r.t+3
 if d.v then hC r.x r.q r.t d.l d.n true r.a [.ref (r.a+2),.ref (r.a+3),.ref (r.a+4)] (k+d.N.length+d.c.length)
 else hC r.x r.q r.t d.l d.n true r.a [.none,.none,.ref (r.a+2)] k
noncomputable def FR.os (r:FR):List Obj:=let d:=r.d;let k:=r.t+3
 hT 0 []::hI []::((if d.v then [hT k d.N,hT (k+d.N.length) d.c] else [])++[hR r,r.co,hF r])
noncomputable def FR.k (r:FR):Nat:=r.t+5+(if r.d.v then r.d.N.length+r.d.c.length else 0)
noncomputable def CD (x y:Str):Str:=⟨(x.cps.toList++46::y.cps.toList).toArray⟩
noncomputable def vI (tp:Nat->Nat->Stmt) (i:Nat) (x:Str) (g:GS):Nat->List DR->List FR
 |_,[]=>[]
 |j,d::r=>let e:FR:=⟨d.x,CD x d.x,tp i j,d,g.m,g.u,g.a,g.t⟩
  e::vI tp i x { g with a:=e.f+1,t:=e.k+1 } (j+1) r
noncomputable def vJ:Nat->Nat->List FR->Nat × Nat
 |a,t,[]=>(a,t)
 |_,_,e::r=>vJ (e.f+1) (e.k+1) r
structure CR where
 x:Str
 l:Nat
 b:Nat
 e:Bool
 ss:List Nat
 fs:List FR
 st:List Str
 g:GS
 z:Nat
 y:Nat
noncomputable def CR.dn (c:CR):List (Str × Value):=if c.b=0 then(if c.e then [("__weakref__",.builtin "ExceptionGroup.__weakref__")] else [("__dict__",.builtin "function.__dict__"),("__weakref__",.builtin "ExceptionGroup.__weakref__")]) else []
noncomputable def CR.cls (c:CR):Nat:=c.z+2
noncomputable def desc (x:Str) (c t:Nat) (v:Value):Obj:=.mk (.type "getset_descriptor") none (.fields #[.str x t,.ref c,v,if x == "__dict__" then .builtin "function.__dict__#set" else .none]) #[]
noncomputable def vK:Nat->Nat->List (Str × Value)->List (Str × Nat × Value)
 |_,_,[]=>[]
 |z,y,(x,_)::r=>(x,y+2,.ref z)::vK (z+1) (y+2) r
noncomputable def rZ (c:Nat):Nat->List (Str × Value)->List Obj
 |_,[]=>[]
 |y,(x,v)::r=>desc x c (y+1) v::rZ c (y+2) r
noncomputable def CR.nk (c:CR):Nat:=c.y+3+2 * c.dn.length
noncomputable def CR.keys (c:CR):List (Str × Nat × Value):=(c.fs.map λe=>(e.x,e.k,Value.ref e.f))++[(("__static_attributes__":Str),c.y,Value.ref c.z)]
noncomputable def CR.bases (c:CR):List Value:=if c.b=0 then(if c.e then [.type "ValueError"] else [.type "object"]) else [.ref c.b]
noncomputable def CR.up (c:CR):List Value:=if c.e then [.type "ValueError",.type "Exception",.type "BaseException",.type "object"] else [.type "object"]
noncomputable def CR.root (c:CR):Bool:=c.b == 0 && !c.e
noncomputable def CR.hd (c:CR):List (Str × Nat × Value):=let t:=c.g.t;[("__module__",t+7,.str c.g.m c.g.u),("__qualname__",t+9,.str c.x (t+8)),("__firstlineno__",t+11,.int c.l (t+10))]
noncomputable def CR.dict (P:Params) (c:CR):Obj:=hD P ((c.hd.eraseIdx 1)++c.keys++vK (c.z+3) c.y c.dn++[(("__doc__":Str),c.y+1+2 * c.dn.length,Value.none)]) (2+c.dn.length)
noncomputable def CR.obj (lim:Nat) (c:CR):Obj:=let t:=c.g.t
 .mk (.type "type") none (.cls (.mk c.x c.bases (.ref c.cls::(if c.b=0 then [] else [Value.ref c.b])++c.up) (c.z+1) c.x true [] ((c.ss.filter (λn=>n<lim)).map .ref) false none false)) #[if c.root then none else some (.ref c.g.a),none,some (.str c.x t),some (.str c.x (t+8)),some (.builtin (if c.e then "ValueError.__new__" else "object.__new__")),some (.bool true)]
noncomputable def CR.os (P:Params) (lim:Nat) (c:CR):List Obj:=let a:=c.g.a;let t:=c.g.t;let n:=c.cls
 (if c.root then hT 0 [] else .mk (.type "tuple") none (.seq c.bases.toArray) #[])::hB "type.__prepare__" [.type "type"]::hD P (c.hd++c.keys) (4+c.fs.length)::hT 0 []::hI (c.fs.map λe=>(e.d.l,4,e.c))::hC c.x c.x (t+2) c.l 0 false (a+3) [.none,.none,.none] (t+5)::hW (a+5) (a+2) c.g.m c.g.u::
 (c.fs.flatMap FR.os++hT (c.y - c.st.length) c.st::c.dict P::c.obj lim::(rZ n c.y c.dn++[.mk (.type "super") none (.fields #[.ref n,.ref n,.ref n]) #[],hB "object.__init_subclass__" [.ref n]]))
inductive En where
 |f (r:FR)
 |c (r:CR)
noncomputable def ens (tp:Nat->Stmt) (mt:Nat->Nat->Stmt):Nat->GS->List Itm->List En
 |_,_,[]=>[]
 |i,g,.md x::r=>ens tp mt (i+1) { g with t:=g.t+2,m:=x,u:=g.t } r
 |i,g,.df d::r=>let e:FR:=⟨d.x,d.x,tp i,d,g.m,g.u,g.a,g.t⟩
  .f e::ens tp mt (i+1) { g with a:=e.f+1,t:=e.k+1 } r
 |i,g,.cl x l b e ss ms st::r=>
  let fs:=vI mt i x { g with a:=g.a+7,t:=g.t+12 } 0 ms;let q:=vJ (g.a+7) (g.t+12) fs;let c:CR:=⟨x,l,b,e,ss,fs,st,g,q.1,q.2+st.length⟩
  .c c::ens tp mt (i+1) { g with a:=c.cls+3+c.dn.length,t:=c.nk+1 } r
noncomputable def En.os (P:Params) (lim:Nat):En->List Obj
 | .f r=>r.os
 | .c r=>r.os P lim
noncomputable def En.ent:En->Str × Nat × Value
 | .f r=>(r.x,r.k,.ref r.f)
 | .c r=>(r.x,r.nk,.ref r.cls)
noncomputable def En.code:En->Nat × Nat × Nat
 | .f r=>(r.d.l,0,r.c)
 | .c r=>(r.l,0,r.g.a+5)
noncomputable def vL (r:FR):List (Nat × Obj):=[(r.c,r.co),(r.f,hF r)]
noncomputable def vM:Nat->List Obj->List (Nat × Obj)
 |_,[]=>[]
 |n,o::r=>(n,o)::vM (n+1) r
noncomputable def En.kp (P:Params):En->List (Nat × Obj)
 | .f r=>vL r
 | .c r=>r.fs.flatMap vL++(r.z+1,r.dict P)::vM r.cls (r.obj 100000::rZ r.cls r.y r.dn)
noncomputable def En.as:En->List Nat
 | .f r=>[r.c,r.f]
 | .c r=>r.fs.flatMap (λr=>[r.c,r.f])++(r.z+1)::r.cls::(List.range r.dn.length).map (λi=>r.cls+i+1)
noncomputable def g0:GS:=⟨15,187,"__main__",164⟩
noncomputable def r8:Str->Nat->List En->Value
 |m,u,[]=>.str m u
 |_,_,.f r::l=>r8 r.m r.u l
 |_,_,.c r::l=>r8 r.g.m r.g.u l
noncomputable def vN (P:Params) (l:List En):Obj:=hD P (([("__name__",165,r8 "__main__" 164 l),("__doc__",166,.none),("__package__",167,.none),("__loader__",168,.builtin "__main__.__loader__#opaque"),("__spec__",169,.none),("__annotations__",170,.ref 6),("__builtins__",171,.ref 4),("__file__",173,.str (.ofString "/claim/cut.py") 172),("__cached__",174,.none)]:List (Str × Nat × Value))++l.map En.ent) (9+l.length)
noncomputable def CG (P:Params) (lim:Nat) (l:List En):List Obj:=hT 0 []::hI (l.map En.code)::hC "<module>" "<module>" 182 1 0 false 11 [.none,.none,.none] 185::hW 13 3 "__main__" 164::l.flatMap (En.os P lim)
noncomputable def heapOf (P:Params) (lim:Nat) (l:List En):W.BT:=vB 11 (CG P lim l) ((rY P).ins 3 (vN P l))
noncomputable def fragOf (P:Params) (l:List En):W.Frag:=(2,.mk .none none (.dict #[] 0) #[])::(3,vN P l)::l.flatMap (En.kp P)
end
noncomputable def top (i:Nat):Stmt:=PySem.Challenge.pw_putback_k33_keeps.main.body.getD i (.Pass ⟨0,0,0,0⟩)
noncomputable def dU (i j:Nat):Stmt:=match top i with
 | .ClassDef _ _ _ body _ _ _ _ _ _ _=>body.getD j (.Pass ⟨0,0,0,0⟩)
 |_=>.Pass ⟨0,0,0,0⟩
noncomputable section
@[irreducible] noncomputable def tb:List Itm:=[.df (dd "_wall" 1 1 ["k"]),
  .md "putback.errors",
  .cl "ViewError" 5 0 true [44,63,82] [] [],
  .cl "NoKind" 7 31 true [] [] [],
  .cl "NoView" 9 31 true [] [dd "__init__" 2 11 ["self","way"]] ["way"],
  .cl "CantPut" 13 31 true [] [dd "__init__" 2 15 ["self","way"]] ["way"],
  .md "putback.kinds",
  .df (dd "kind_at" 2 18 Xz),
  .df (dd "sorted_fields" 1 23 X4),
  .df (dd "record_of" 1 30 ["pairs"]),
  .md "putback.values",
  .df (dd "misfit" 2 33 YH),
  .df (dd "record_misfit" 2 46 YN),
  .df (de "has_just" 2 54 Xa),
  .df (dd "rows_misfit" 2 56 YD),
  .df (dd "is_pair" 1 70 ["value"]),
  .df (dd "tree_misfit" 2 72 Xw),
  .df (dd "either_misfit" 2 83 ["fields","value","inner","place"]),
  .df (dd "rank" 2 93 ["kind","row","key","by"]),
  .md "putback.views",
  .df (dd "ask_fit" 2 100 ["kind","seen","place"]),
  .df (dd "ask_stands" 1 104 ["stands"]),
  .df (dd "behind_inner" 3 107 ["ahead","inner","kind","e"]),
  .df (dd "put_inner" 5 112 YK),
  .df (dd "seen_along" 3 117 YB),
  .cl "View" 122 0 false [314,435,482,529,576,630,684] [dd "behind" 2 124 XH,dd "see" 3 127 XB,dd "put" 4 130 XA,dd "grade" 1 134 ["self"],dd "keeps" 2 137 XE] [],
  .cl "Chain" 139 239 false [] [dd "__init__" 2 141 X6,dd "behind" 2 144 XH,dd "see" 3 147 XB,dd "put" 4 150 XA,dd "grade" 1 153 ["self"],de "keeps" 2 156 XE,dd "kinds_row" 2 159 ["self","kind","kinds","number","step"],dd "seen_row" 3 165 XB,dd "put_row" 4 168 X8] ["steps"],
  .md "putback.fields",
  .df (dd "field_kind" 2 178 XY),
  .df (de "has_each_once" 2 180 Xr),
  .df (de "fields_among" 2 184 XJ),
  .df (de "fields_but" 2 186 XJ),
  .df (de "names_of" 1 188 ["fields"]),
  .df (dd "part_of" 2 190 ["record","names","part","name"]),
  .df (de "rest_of" 2 195 XT),
  .df (dd "with_field" 3 197 ["record","name","value","fresh"]),
  .df (dd "renamed" 3 201 Xp),
  .df (dd "nested" 3 203 Xj),
  .df (dd "unnested" 2 205 ["record","field","fresh"]),
  .cl "Take" 209 239 false [] [dd "__init__" 2 211 YE,dd "behind" 2 214 XH,dd "see" 3 218 XB,dd "put" 4 221 ["self","kind","source","seen","fresh"],dd "grade" 1 227 ["self"],dd "keeps" 2 230 XE] ["names"],
  .cl "Rename" 232 239 false [] [dd "__init__" 3 234 X_,dd "behind" 2 238 ["self","kind","inner"],dd "see" 3 243 XB,dd "put" 4 246 XA,dd "keeps" 2 250 XE] ["new","old"],
  .cl "Nest" 252 239 false [] [dd "__init__" 3 254 X2,dd "behind" 2 258 ["self","kind","rest"],dd "see" 3 264 XB,dd "put" 4 267 XA,dd "keeps" 2 271 XE] ["into","names"],
  .cl "Unnest" 273 239 false [] [dd "__init__" 2 275 YF,dd "behind" 2 278 ["self","kind","inner","rest"],dd "see" 3 285 XB,dd "put" 4 288 XA,dd "keeps" 2 292 XE] ["field"],
  .cl "Within" 294 239 false [] [dd "__init__" 3 296 X0,dd "behind" 2 300 ["self","kind","there","shown"],dd "see" 3 306 ["self","kind","source","there"],dd "put" 4 310 YL,dd "grade" 1 316 ["self"],dd "keeps" 2 319 XE] Xi,
  .cl "At" 321 239 false [] [dd "__init__" 2 323 XE,dd "behind" 2 326 ["self","kind","there"],dd "see" 3 331 XB,dd "put" 4 334 XA,dd "grade" 1 338 ["self"],dd "keeps" 2 341 XE] ["name"],
  .md "law_putback_k33_keeps",
  .df (dd "_law_next" 2 344 YI),
  .df (dd "_law_number" 2 351 YJ),
  .df (dd "_law_word" 2 359 Xl),
  .df (dd "_law_names" 3 371 XX),
  .df (dd "_law_plain" 2 385 XD),
  .df (de "_law_fields" 4 389 XZ),
  .df (dd "_law_rows_kind" 4 392 XV),
  .df (dd "_law_kind" 3 407 Xo),
  .df (dd "_law_rank" 2 418 Xq),
  .df ⟨"_law_rows",4,422,XQ,true,["_law_kind_here"]⟩,
  .df (de "_law_value" 4 431 XI),
  .df (de "_law_alike" 3 449 XM),
  .df (dd "_law_fresh" 2 477 X7),
  .df (dd "_law_some" 3 484 Xx),
  .df (de "_law_loose" 2 491 XO),
  .df (de "_law_step" 4 497 XF),
  .df (dd "_law_chain" 5 522 Xk),
  .df (dd "_law_inner" 2 529 X9),
  .df (dd "_law_kept" 5 534 Xd),
  .df (dd "law" 1 548 Xc)]
@[irreducible] noncomputable def es:List En:=ens top dU 0 g0 tb
end
noncomputable section
noncomputable def KK:Params->W.Frag:=λP=>fragOf P es
noncomputable def k6:List Nat:=2::3::es.flatMap En.as
theorem lQ (P:Params):k6=(KK P).map (·.1):=by kernel_rfl
noncomputable def CH (P:Params):W.BT:=heapOf P 384 (es.take 34)
noncomputable def CI (P:Params):W.BT:=heapOf P 100000 es
noncomputable def qv:PySem.Program:={ PySem.Challenge.pw_putback_k33_keeps with main:={ (PySem.Challenge.pw_putback_k33_keeps).main with body:=top 0::top 2::top 3::top 4::top 5::top 7::top 8::top 9::top 11::top 12::top 13::top 14::top 15::top 16::top 17::top 18::top 20::top 21::top 22::top 23::top 24::top 25::top 26::top 28::top 29::top 30::top 31::top 32::top 33::top 34::top 35::top 36::top 37::top 38::top 39::top 40::top 41::top 42::top 43::top 44::top 46::top 47::top 48::top 49::top 50::top 51::top 52::top 53::top 54::top 55::top 56::top 57::top 58::top 59::top 60::top 61::top 62::top 63::top 64::top 65::[] } }
noncomputable def vO (w:PySem.World) (os:PySem.OsState):W.SharedT:=⟨CH w.params,384,(W.boot_heap w.params).life,#[],W.boot_drawn,686,os⟩
noncomputable def lR (w:PySem.World) (os:PySem.OsState):W.SharedT:=⟨CI w.params,817,(W.boot_heap w.params).life,#[],W.boot_drawn,1304,os⟩
noncomputable def r_:List PySem.Stmt:=W.behindTheImports (W.OpenLaw.row PySem.Challenge.rw_putback_k33_keeps).prog
noncomputable def qg:PySem.Env:={ scope:=((W.OpenLaw.row PySem.Challenge.rw_putback_k33_keeps).prog).main.scope,locals:=PySem.mainNs,globals:=PySem.mainNs,cells:=[],code:=.ref 13,frame:=some 14 }
noncomputable def oz:PySem.Code:=.body (W.behindTheImports (W.OpenLaw.row PySem.Challenge.rw_putback_k33_keeps).prog) qg
open W PyProof.Rows in
theorem CJ:∀w os,qe (W.OpenLaw.row PySem.Challenge.rw_putback_k33_keeps).prog w 11 (some (.ref 6)) qg oz ⟨0,0,0,0⟩ (r_.take 39) 12 1 5000 (qf w os)=some (⟨je jf (.body (behindTheImports (W.OpenLaw.row PySem.Challenge.rw_putback_k33_keeps).prog) qg),oz,⟨0,0,0,0⟩,[topFrame ⟨0,0,0,0⟩]⟩,oz,oz,vO w os,⟨205,0,208,16⟩):=by
 intro w os
 kernel_rfl
open W PyProof.Rows in
theorem CK:∀w os,lP (W.OpenLaw.row PySem.Challenge.rw_putback_k33_keeps).prog w 11 (some (.ref 6)) 6000 (vO w os) (restOf (r_.drop 39) qg oz ⟨205,0,208,16⟩ [topFrame ⟨0,0,0,0⟩])=some (lR w os):=by
 intro w os
 kernel_rfl
open W PyProof.Rows in
theorem CL:∀w os,(staticsOk (importedModules ((W.OpenLaw.row PySem.Challenge.rw_putback_k33_keeps).prog).main.body) (boot_heap w.params) (lR w os).abs.heap && namesBound (W.OpenLaw.row PySem.Challenge.rw_putback_k33_keeps).prog (lR w os).abs.heap && gensDone (lR w os).abs && laidKept (boot_heap w.params) (lR w os).abs.heap)=true:=by
 intro w os
 kernel_rfl
open W PyProof.Rows in
theorem CM:∀w os,seenQ qv [] (importedModules ((W.OpenLaw.row PySem.Challenge.rw_putback_k33_keeps).prog).main.body) (λs=>xlAt qv [] s && recOk (RowW.records (W.OpenRow.toRowW (W.OpenLaw.row PySem.Challenge.rw_putback_k33_keeps))) s) true (lR w os).abs=openGood qv []:=by
 intro w os
 kernel_rfl
open W PyProof.Rows in
theorem CO:∀w os,Hook.obs (W.kmHook Pb.KK Pb.k6 Pb.lQ [93,749,811]) (lR w os).abs=Hook.val (W.kmHook Pb.KK Pb.k6 Pb.lQ [93,749,811]) w:=by
 intro w os
 kernel_rfl
open W PyProof.Rows in
theorem said:PySem.Challenge.rw_putback_k33_keeps.wellSaid=true:=by
 delta OpenLaw.wellSaid OpenRow.wellSaid OpenRow.partSaid looksOpen
 repeat' (with_reducible refine look_both ?_ ?_)
 all_goals kernel_rfl
end
end Pb
set_option Elab.async false
set_option linter.all false
set_option maxRecDepth 100000
set_option maxHeartbeats 4000000
namespace L2
open Spec PyProof.Rows
noncomputable abbrev Key:=Sum Int Str
noncomputable def lS:Key->Value->Bool
 | .inl k,v=>Value.isInt k v
 | .inr x,v=>Value.isStrOf x v
noncomputable def CP (w:World):Key->Int
 | .inl k=>hashInt k
 | .inr x=>hashStr w x
theorem jB:∀{k:Key}{v:Value},lS k v=true->(∃i t,k=Sum.inl i/\v=Value.int i t)\/(∃x t,k=Sum.inr x/\v=Value.str x t)
 | .inl i,v,h=>by
   obtain⟨t,e⟩:=Value.isInt_shape (k:=i) (v:=v) h;exact .inl ⟨i,t,rfl,e⟩
 | .inr x,v,h=>by
   obtain⟨t,e⟩:=Value.isStrOf_shape (x:=x) (v:=v) h;exact .inr ⟨x,t,rfl,e⟩
theorem CQ (i:Int)(t:Tok):lS (.inl i) (.int i t)=true:=by simp[lS,Value.isInt]
theorem vP (x:Str)(t:Tok):lS (.inr x) (.str x t)=true:=by simp[lS,Value.isStrOf]
theorem CS (a b:Int):decide ((Sum.inl a:Key)=Sum.inl b)=(a == b):=by
 by_cases e:a=b
 . subst e;simp
 . have h:¬(Sum.inl a:Key)=Sum.inl b:=λq=>e (Sum.inl.inj q);rw[decide_eq_false h];exact(beq_eq_false_iff_ne.mpr e).symm
theorem CU (a b:Str):decide ((Sum.inr a:Key)=Sum.inr b)=decide (a=b):=by
 by_cases e:a=b
 . subst e;simp
 . have h:¬(Sum.inr a:Key)=Sum.inr b:=λq=>e (Sum.inr.inj q);rw[decide_eq_false h,decide_eq_false e]
theorem CV (a:Int)(b:Str):decide ((Sum.inl a:Key)=Sum.inr b)=false:=decide_eq_false (λq=>nomatch q)
theorem CY (a:Str)(b:Int):decide ((Sum.inr a:Key)=Sum.inl b)=false:=decide_eq_false (λq=>nomatch q)
noncomputable def eQ (prog:Program) (w:World):PySem.KeyKind prog w Key where
 is:=lS
 hash:=CP w
 inj:=λv a b ha hb=>by
  rcases jB ha with⟨i,t,rfl,rfl⟩|⟨x,t,rfl,rfl⟩
  . rcases jB hb with⟨j,u,rfl,e⟩|⟨y,u,rfl,e⟩
    . injection e with e1 _;rw[e1]
    . exact nomatch e
  . rcases jB hb with⟨j,u,rfl,e⟩|⟨y,u,rfl,e⟩
    . exact nomatch e
    . injection e with e1 _;rw[e1]
 byValue:=λk v h=>by
  rcases jB h with⟨i,t,rfl,rfl⟩|⟨x,t,rfl,rfl⟩ <;> rfl
 pyHash:=λhv h=>by
  rcases jB hv with⟨i,t,rfl,rfl⟩|⟨x,t,rfl,rfl⟩
  . exact wpAny_pyHash_int h
  . exact wpAny_pyHash_str h
 eqBool:=λhu hv h=>by
  rcases jB hu with⟨i,t,rfl,rfl⟩|⟨x,t,rfl,rfl⟩
  . rcases jB hv with⟨j,u,rfl,rfl⟩|⟨y,u,rfl,rfl⟩
    . rw[CS] at h;exact wpAny_eqBool_int h
    . rw[CV] at h;exact SeqAt.EqAt.int_str i t y u _ _ _ _ h
  . rcases jB hv with⟨j,u,rfl,rfl⟩|⟨y,u,rfl,rfl⟩
    . rw[CY] at h;exact SeqAt.EqAt.str_int x t j u _ _ _ _ h
    . rw[CU] at h;exact wpAny_eqBool_str h
 «strs»:=λk x t v h=>by
  rcases jB h with⟨i,u,rfl,e⟩|⟨y,u,rfl,e⟩
  . exact nomatch e
  . injection e with e1 _
    subst e1
    cases v <;> rfl
theorem CZ (prog:Program)(w:World)(i:Int)(t:Tok):(eQ prog w).is (.inl i) (.int i t)=true:=CQ i t
theorem C2 (prog:Program)(w:World)(x:Str)(t:Tok):(eQ prog w).is (.inr x) (.str x t)=true:=vP x t
inductive V where
 |non|bl (b:Bool)|int (i:Int)|str (x:Str)|iO (b:Array UInt8)|flt (b:UInt64)|ref (a:Addr)|ty (n:String)
 deriving DecidableEq
def RelV:V->Value->Prop
 | .non,u=>u=Value.none
 | .bl b,u=>u=Value.bool b
 | .int i,u=>∃t,u=Value.int i t
 | .str x,u=>∃t,u=Value.str x t
 | .iO b,u=>∃t,u=Value.bytes b t
 | .flt b,u=>∃t,u=Value.float b t
 | .ref a,u=>u=Value.ref a
 | .ty n,u=>u=Value.type n
abbrev Vals:List V->List Value->Prop:=Paired RelV
theorem Vals.length(r:Vals xs us):xs.length=us.length:=Paired.length r
theorem Vals.get:∀{xs:List V}{us:List Value}{i:Nat}{x:V},Vals xs us->xs[i]? =some x->∃u,us[i]? =some u/\RelV x u
 |_,_,_,_,.nil,e=>by simp at e
 |_,_,0,_,.cons r _,e=>by simp at e;subst e;exact⟨_,rfl,r⟩
 |_,_,i+1,x,.cons _ t,e=>by
  obtain⟨u,h1,h2⟩:=Vals.get (i:=i) (x:=x) t (by simpa using e);exact⟨u,by simpa using h1,h2⟩
theorem Vals.set(r:RelV x u):∀{xs:List V}{us:List Value}(i:Nat),Vals xs us->Vals (xs.set i x) (us.set i u)
 |_,_,_,.nil=>.nil
 |_,_,0,.cons _ t=>.cons r t
 |_,_,i+1,.cons q t=>.cons q (Vals.set r i t)
theorem Vals.append:∀{xs ys:List V}{us ws:List Value},Vals xs us->Vals ys ws->Vals (xs++ys) (us++ws)
 |_,_,_,_,.nil,s=>s
 |_,_,_,_,.cons r t,s=>.cons r (Vals.append t s)
theorem Vals.take:∀{xs:List V}{us:List Value}(n:Nat),Vals xs us->Vals (xs.take n) (us.take n)
 |_,_,0,_=>.nil
 |_,_,_+1,.nil=>.nil
 |_,_,n+1,.cons r t=>.cons r (Vals.take n t)
theorem Vals.drop:∀{xs:List V}{us:List Value}(n:Nat),Vals xs us->Vals (xs.drop n) (us.drop n)
 |_,_,0,r=>r
 |_,_,_+1,.nil=>.nil
 |_,_,n+1,.cons _ t=>Vals.drop n t
theorem Vals.none_of:∀{xs:List V}{us:List Value}{i:Nat},Vals xs us->xs[i]? =none->us[i]? =none:=λ{xs us i} r e=>by
 have h1:=r.length;have h2:xs.length<=i:=List.getElem?_eq_none_iff.mp e;exact List.getElem?_eq_none_iff.mpr (by omega)
def gN:Option V->Option Value->Prop
 |some v,some u=>RelV v u
 |none,none=>True
 |_,_=>False
def KV {κ:Type}:List (κ × V)->List (κ × Value)->Prop:=Paired λ(p:κ × V) (q:κ × Value)=>p.1=q.1/\RelV p.2 q.2
noncomputable def kV:Key->V
 | .inl i=>.int i
 | .inr x=>.str x
inductive HO where
 |lst (xs:List V)
 |tup (xs:List V)
 |dK (kvs:List (Key × V))|dT (kvs:List (List Key × V))
 |set (S:Int->Bool) (n:Nat)
 |ins (C dx:Addr) (fs:List (Str × V))
 |own (x:Addr)
 |xd (fs:List (Str × V))
 |met (f x:Addr)
 |rng (lo hi:Int)
 |e_ (o:Obj) (u:HO)
 |eX (ps:Array Value)
 |ext (φ:Heap->Prop)
noncomputable abbrev Hp:=Addr->Option HO
noncomputable def upd (H:Hp) (a:Addr) (o:HO):Hp:=λb=>if b=a then some o else H b
theorem cV:upd H a o a=some o:=by unfold upd;rw[if_pos rfl]
theorem cQ(h:b≠a):upd H a o b=H b:=by unfold upd;rw[if_neg h]
theorem eK {H:Hp}(h:H a=some o)(h':H b=some u)(d:o≠u):a≠b:=by
 intro e;subst e;rw[h] at h';exact d (Option.some.inj h')
theorem c6 {H:Hp}(h:H a=some o)(h':H b=none):a≠b:=by
 intro e;subst e;rw[h] at h';cases h'
section
variable (P:Program)(w:World)
def fc (H:Hp) (h:Heap) (a:Addr):HO->Prop
 | .lst xs=>xs.length<=sizeLine/\∃(aa:List Value) (n:Nat),Vals xs aa/\h.get? a=some { cls:=.type "list",data:=.seq aa.toArray n }
 | .tup xs=>xs.length<=sizeLine/\∃aa:List Value,Vals xs aa/\IsTup h a aa.toArray
 | .dK kvs=>kvs.length<=sizeLine/\(a == sysModules)=false/\∃vs,KV kvs vs/\h.DictOf (eQ P w) a vs
 | .dT kvs=>kvs.length<=sizeLine/\(a == sysModules)=false/\∃xs:List (List Key × Addr × Value),
    Paired (λ(p:List Key × V) (q:List Key × Addr × Value)=>p.1=q.1/\H q.2.1=some (.tup (p.1.map kV))/\RelV p.2 q.2.2) kvs xs/\
    ∃o es ep,h.get? a=some o/\o.ExactDict/\o.data=.dict es ep/\es.toList=xs.map (entryOfKey (tupleKind (eQ P w)))/\(xs.map (·.1)).Nodup
 | .set S n=>h.SetOf (intKind P w) a S n
 | .ins C dx fs=>H dx=some (.own a)/\fs.length<=1000/\dx≠a/\h.get? a=some (W.instObj C dx)/\
    ∃mA,h.Ns1 dx mA/\(∀f,gN (fs.lookup f) (mA f))/\PySem.Within mA (fs.map (·.1))
 | .own _=>∃o,h.get? a=some o
 | .xd fs=>∃mA,h.Ns1 a mA/\∀f,gN (fs.lookup f) (mA f)
 | .rng lo hi=>∃t u v,h.get? a=some { cls:=.type "range",data:=.fields #[.int lo t,.int hi u,.int 1 v] }
 | .e_ o u=>h.get? a=some o/\fc H h a u
 | .eX ps=>h.get? a=some { cls:=.none,data:=.fields ps }
 | .met f x=>h.get? a=some (W.methodObj (.ref f) (.ref x))
 | .ext φ=>φ h/\(∃o,h.get? a=some o)/\∀h1 h2:Heap,φ h1->(∀o,h1.get? a=some o->h2.get? a=some o)->φ h2
def eL (H:Hp) (h:Heap):Prop:=∀a o,H a=some o->fc P w H h a o
end
section
variable {P:Program}{w:World}{H H':Hp}{h h':Heap}{a:Addr}{o:HO}
theorem fc.lt (x:fc P w H h a o):a<h.objs.size:=by
 cases o with
 |lst xs=>obtain⟨_,_,_,_,e⟩:=x;exact Q02 e
 |tup xs=>obtain⟨_,_,_,p⟩:=x;exact p.lt
 |dK kvs=>obtain⟨_,_,_,_,o,_,_,e,_⟩:=x;exact Q02 e
 |dT kvs=>obtain⟨_,_,_,_,o,_,_,e,_⟩:=x;exact Q02 e
 |set S n=>obtain⟨o,_,_,_,e,_⟩:=x;exact Q02 e
 |ins C dx fs=>obtain⟨_,_,_,e,_⟩:=x;exact Q02 e
 |own y=>obtain⟨_,e⟩:=x;exact Q02 e
 |xd fs=>obtain⟨_,⟨_,_,_,e,_⟩,_⟩:=x;exact Q02 e
 |rng lo hi=>obtain⟨_,_,_,e⟩:=x;exact Q02 e
 |e_ ob u=>obtain⟨e,_⟩:=x;exact Q02 e
 |eX ps=>exact Q02 (show h.get? a=some _ from x)
 |met f y=>exact Q02 (show h.get? a=some _ from x)
 |ext φ=>obtain⟨_,⟨_,e⟩,_⟩:=x;exact Q02 e
theorem Paired.qh {α β:Type}{F G:α->β->Prop}:∀{aa:List α}{ab:List β},Paired F aa ab->(∀a b,F a b->G a b)->Paired G aa ab
 |_,_,.nil,_=>.nil
 |_,_,.cons r t,f=>.cons (f _ _ r) (Paired.qh t f)
theorem fc.stay (x:fc P w H h a o)(k:∀b u,(b=a\/H b=some (.own a))->h.get? b=some u->h'.get? b=some u)
 (ho:∀b,H b=some (.own a)->H' b=some (.own a)) (ht:∀b xs,H b=some (.tup xs)->H' b=some (.tup xs)):fc P w H' h' a o:=by
 induction o with
 |lst xs=>obtain⟨z,aa,n,r,e⟩:=x;exact⟨z,aa,n,r,k _ _ (.inl rfl) e⟩
 |tup xs=>obtain⟨z,aa,r,ob,e,c⟩:=x;exact⟨z,aa,r,ob,k _ _ (.inl rfl) e,c⟩
 |dK kvs=>obtain⟨z,y,vs,r,ob,es,ep,e,c⟩:=x;exact⟨z,y,vs,r,ob,es,ep,k _ _ (.inl rfl) e,c⟩
 |dT kvs=>
  obtain⟨z,y,xs,r,ob,es,ep,e,c⟩:=x;exact⟨z,y,xs,Paired.qh r λp q z=>⟨z.1,ht _ _ z.2.1,z.2.2⟩,ob,es,ep,k _ _ (.inl rfl) e,c⟩
 |set S n=>obtain⟨ob,es,ep,t,e,c⟩:=x;exact⟨ob,es,ep,t,k _ _ (.inl rfl) e,c⟩
 |ins C dx fs=>
  obtain⟨d,z,ne,e,mA,⟨od,es,ep,e2,c⟩,r⟩:=x;exact⟨ho _ d,z,ne,k _ _ (.inl rfl) e,mA,⟨od,es,ep,k _ _ (.inr d) e2,c⟩,r⟩
 |own y=>obtain⟨ob,e⟩:=x;exact⟨ob,k _ _ (.inl rfl) e⟩
 |xd fs=>obtain⟨mA,⟨od,es,ep,e,c⟩,r⟩:=x;exact⟨mA,⟨od,es,ep,k _ _ (.inl rfl) e,c⟩,r⟩
 |rng lo hi=>obtain⟨t,u,v,e⟩:=x;exact⟨t,u,v,k _ _ (.inl rfl) e⟩
 |e_ ob u ih=>obtain⟨e,q⟩:=x;exact⟨k _ _ (.inl rfl) e,ih q⟩
 |eX ps=>
  have e:h.get? a=some { cls:=.none,data:=.fields ps }:=x;show h'.get? a=some { cls:=.none,data:=.fields ps };exact k a _ (.inl rfl) e
 |met f y=>
  have e:h.get? a=some (W.methodObj (.ref f) (.ref y)):=x;show h'.get? a=some (W.methodObj (.ref f) (.ref y));exact k a _ (.inl rfl) e
 |ext φ=>obtain⟨p,⟨o,e⟩,st⟩:=x;exact⟨st _ _ p λo q=>k _ _ (.inl rfl) q,⟨o,k _ _ (.inl rfl) e⟩,st⟩
theorem eL.lt (x:eL P w H h)(e:H a=some o):a<h.objs.size:=(x a o e).lt
theorem eL.fresh (x:eL P w H h)(e:h.objs.size<=a):H a=none:=by
 cases q:H a with
 |none=>rfl
 |some u=>exact absurd (Q0e (x.lt q) e) (Q0w _)
theorem eL.kept (x:eL P w H h)(k:∀b u,h.get? b=some u->h'.get? b=some u):eL P w H h':=λa o e=>
 (x a o e).stay (λb u _ q=>k b u q) (λ_ q=>q) λ_ _ q=>q
theorem eL.laid (x:eL P w H h)(k:∀b u,h.get? b=some u->h'.get? b=some u)(hp:h.objs.size<=a)(new:fc P w (upd H a o) h' a o):eL P w (upd H a o) h':=λb u e=>by
 have hn:=x.fresh hp;by_cases hb:b=a
 . subst hb;rw[cV] at e;cases e;exact new
 . rw[cQ hb] at e;exact(x b u e).stay (λc v _ q=>k c v q) (λc q=>by rw[cQ (c6 q hn)];exact q) λc xs q=>by rw[cQ (c6 q hn)];exact q
end
def Rd (H:Hp) (a:Addr) (u:HO):Prop:=H a=some u\/∃o,H a=some (.e_ o u)
theorem Rd.ok(r:Rd H a u)(x:eL P w H h):fc P w H h a u:=by
 rcases r with r|⟨o,r⟩
 . exact x a u r
 . obtain⟨_,q⟩:=x a _ r;exact q
def oA:Option HO->Prop
 |some (.lst _)=>True
 |some (.dK _)=>True
 |some (.dT _)=>True
 |some (.set _ _)=>True
 |some (.ins _ _ _)=>True
 |some (.ext _)=>True
 |_=>False
section
variable {P:Program}{w:World}{H:Hp}{h h':Heap}{x e:Addr}{o':HO}
theorem eL.write (ok:eL P w H h)(mu:oA (H x))(he:e=x\/H e=some (.own x))(k:∀b u,b≠e->h.get? b=some u->h'.get? b=some u)(af:∃u,h'.get? e=some u)
 (new:fc P w (upd H x o') h' x o'):eL P w (upd H x o') h':=λb u q=>by
 have ab:∀c y,H c=some (.own y)->c≠x:=λc y r z=>by subst z;rw[r] at mu;exact mu
 have ae:∀c xs,H c=some (.tup xs)->c≠x:=λc xs r z=>by subst z;rw[r] at mu;exact mu
 by_cases hb:b=x
 . subst hb;rw[cV] at q;cases q;exact new
 . rw[cQ hb] at q;by_cases aa:b=e
   . have q':H b=some (.own x):=by
      rcases he with z|z
      . exact absurd (aa.trans z) hb
      . rw[aa];exact z
     rw[q] at q';cases q';obtain⟨v,hv⟩:=af;exact⟨v,by rw[aa];exact hv⟩
   . refine(ok b u q).stay (λc v hc r=>k c v ?_ r) (λc r=>by rw[cQ (ab c b r)];exact r) λc xs r=>by rw[cQ (ae c xs r)];exact r
     rcases hc with rfl|hc
     . exact aa
     . rintro rfl;rcases he with z|z
       . exact ab c b hc z
       . rw[hc] at z;cases z;exact hb rfl
end
structure Un (fs ex:List Addr) (H H':Hp) (h h':Heap):Prop where
 keep:∀b o,h.get? b=some o->H b=none->b ∉ fs->b ∉ ex->h'.get? b=some o
 slot:∀b o,h.get? b=some o->H b=none->b∈fs->b ∉ ex->∃sl,h'.get? b=some { o with slots:=sl }
 free:∀b o,h.get? b=some o->H b=none->b ∉ ex->H' b=none
 there:∀b o,h.get? b=some o->b ∉ ex->∃o',h'.get? b=some o'
 tups:∀b xs,H b=some (.tup xs)->H' b=some (.tup xs)
 ip:∀b o u,H b=some (.e_ o u)->H' b=some (.e_ o u)
 iE:∀b ps,H b=some (.eX ps)->∃more,H' b=some (.eX (ps++more))
section
variable {fs fs' ex ex':List Addr}{H H1 H2:Hp}{h h1 h2 h':Heap}{a x e:Addr}{o:HO}
theorem Un.any (u:Un fs ex H H1 h h1)(q:h.get? b=some ob)(n:H b=none)(hx:b ∉ ex):∃sl,h1.get? b=some { ob with slots:=sl }:=by
 by_cases hb:b∈fs
 . exact u.slot b ob q n hb hx
 . exact⟨ob.slots,u.keep b ob q n hb hx⟩
theorem Un.kept (k:∀b u,h.get? b=some u->h'.get? b=some u):Un fs ex H H h h':=
 ⟨λb ob q _ _ _=>k b ob q,λb ob q _ _ _=>⟨ob.slots,k b ob q⟩,λ_ _ _ n _=>n,λb ob q _=>⟨ob,k b ob q⟩,λ_ _ q=>q,λ_ _ _ q=>q,λ_ ps q=>⟨#[],by rw[q];simp⟩⟩
theorem Un.refl:Un fs ex H H h h:=Un.kept λ_ _ q=>q
theorem Un.laid (k:∀b u,h.get? b=some u->h'.get? b=some u)(hp:h.objs.size<=a)(hn:H a=none):Un fs ex H (upd H a o) h h' where
 keep:=λb u q _ _ _=>k b u q
 slot:=λb u q _ _ _=>⟨u.slots,k b u q⟩
 free:=λb u q n _=>by rw[cQ (Q08 (Q0e (Q02 q) hp))];exact n
 there:=λb u q _=>⟨u,k b u q⟩
 tups:=λb xs q=>by rw[cQ (c6 q hn)];exact q
 ip:=λb u xs q=>by rw[cQ (c6 q hn)];exact q
 iE:=λb ps q=>⟨#[],by rw[cQ (c6 q hn),q];simp⟩
theorem Un.write (mu:oA (H x))(he:e=x\/H e=some (.own x))(k:∀b u,b≠e->h.get? b=some u->h'.get? b=some u)(ab:∃u,h'.get? e=some u):Un fs ex H (upd H x o) h h':=by
 have hx:∀b,H b=none->b≠x:=λb n z=>by subst z;rw[n] at mu;exact mu
 have hb:∀b,H b=none->b≠e:=λb n z=>by
  subst z;rcases he with r|r
  . exact hx b n r
  . rw[n] at r;cases r
 have hm:∀b u,H b=some u->¬oA (some u)->b≠x:=λb u q nm z=>by subst z;rw[q] at mu;exact nm mu
 refine⟨λb u q n _ _=>k b u (hb b n) q,λb u q n _ _=>⟨u.slots,k b u (hb b n) q⟩,λb u q n _=>by rw[cQ (hx b n)];exact n,λb u q _=>?_,
  λb xs q=>by rw[cQ (hm b _ q λz=>z)];exact q,λb u xs q=>by rw[cQ (hm b _ q λz=>z)];exact q,λb ps q=>⟨#[],by rw[cQ (hm b _ q λz=>z),q];simp⟩⟩
 by_cases aa:b=e
 . subst aa;exact ab
 . exact⟨u,k b u aa q⟩
end
noncomputable def qi (h:Heap) (H:Hp):List Addr:=(List.range h.objs.size).filter λa=>(H a).isSome
noncomputable def jC (h:Heap) (H:Hp):Heap:=W.hideAll h (qi h H)
theorem C3 (h:Heap)(H:Hp):(jC h H).objs.size=h.objs.size:=W.hideAll_size _ _
theorem C4(e:h.get? b=some o)(n:H b=none):(jC h H).get? b=some o:=
 W.hideAll_get _ e λhm=>by
   have q:(H b).isSome=true:=(List.mem_filter.mp hm).2;rw[n] at q;simp at q
theorem C5(e:(jC h H).get? b=some o):h.get? b=some o/\H b=none:=by
 have e':h.get? b=some o:=W.of_hideAll (qi h H) e;refine⟨e',?_⟩
 cases q:H b with
 |none=>rfl
 |some x=>
  have hm:b∈qi h H:=List.mem_filter.mpr ⟨List.mem_range.mpr (Q02 e'),by simp[q]⟩;have z:(jC h H).get? b=none:=W.hideAll_none (qi h H) hm;rw[z] at e;cases e
noncomputable def C6 (g h:Heap) (L:Addr):List (Addr × Obj):=(List.range h.objs.size).filterMap λa=>if a=L\/(g.get? a).isSome=true then none else(h.get? a).map λo=>(a,o)
noncomputable def rest (g h:Heap) (L d:Addr):List (Addr × Obj):=(C6 g h L).filter λp=>decide (p.1≠d)
structure Mod (K:W.Frag) (mg:Str->Option Value) (base:Heap):Prop where
 oB:K.In base
 glob:base.Ns mainGlobals mg
 blt:∃mb,base.Ns builtinsNs mb/\∀x:Str,x≠"__name__"->mb x=bootBuiltins x
 nolimit:base.NoLimit
structure Cx where
 prog:Program
 w:World
 K:W.Frag
 mg:Str->Option Value
 base:Heap
 A:Around
 N:List Str
 s₀:Shared
 H₀:Hp
 env:Env
 outer:List Env
 stack:List Env
 ex:List Addr
 fn:Str->Bool
 calm:Bool
 pn:List (Addr × Obj)
 xe:Value->Shared->Prop
noncomputable def frs (l:List Env):List Addr:=l.filterMap (·.frame)
noncomputable abbrev Cx.fs (X:Cx):List Addr:=frs X.outer
def sd (sc:Scope) (x:Str):Prop:=sc.names.lookup x=some .local\/sc.names.lookup x=some .cell\/sc.names.lookup x=some .free
def Loc (sc:Scope) (x:Str):Prop:=sc.names.lookup x=some .local\/sc.names.lookup x=some .cell
def Look (env:Env) (h:Heap) (m:Str->Option Value) (x:Str) (u:Value):Prop:=
 (env.kindOf x=some .local/\m x=some u)\/((env.kindOf x=some .cell\/env.kindOf x=some .free)/\∃c,env.cells.lookup x=some c/\h.IsCell c (some u))
structure Cx.Ok (X:Cx):Prop where
 mod:Mod X.K X.mg X.base
 kind:X.env.scope.kind=.function
 glob:X.env.globals=mainGlobals
 blt:X.env.builtins=builtinsNs
 above:X.s₀.heap.objs.size<=X.env.locals
 inj:∀x y c,X.env.cells.lookup x=some c->X.env.cells.lookup y=some c->x=y
 has:∀x,(X.env.kindOf x=some .cell\/X.env.kindOf x=some .free)->∃c,X.env.cells.lookup x=some c
 cab:∀x c,X.fn x=true->X.env.cells.lookup x=some c->X.s₀.heap.objs.size<=c
 hd:X.calm=true->X.A.handled=none
 frames:X.A.frames=some X.stack
 stk:X.stack=X.outer\/(X.stack=X.env::X.outer/\X.env.frame=some X.env.locals)
 sg:∀b∈X.ex,b≠X.env.locals/\∀x c,X.env.cells.lookup x=some c->c≠b
 bs:∀b o,X.base.get? b=some o->X.s₀.heap.get? b=some o/\X.H₀ b=none
 jg:X.base.objs.size<=X.s₀.heap.objs.size
 mW:∀b o,X.base.get? b=some o->b ∉ X.ex
 oE:∀b∈X.ex,b ∉ X.fs
 iF:X.s₀.heap.FunFrames X.base X.outer
 k7:∀b∈X.fs,X.H₀ b=none
structure Inv (X:Cx) (pins:List (Addr × Obj)) (σ:List (Option V)) (H:Hp) (s:Shared):Prop where
 ok:X.Ok
 os:s.os=X.s₀.os
 bare:AllBare s.gens
 base:Un X.fs X.ex X.H₀ H X.s₀.heap s.heap
 loc:∃m,s.heap.Ns X.env.locals m/\∀(i:Nat) (x:Str) (v:V),X.N[i]? =some x->σ[i]? =some (some v)->sd X.env.scope x->∃u,RelV v u/\Look X.env s.heap m x u
 cell:∀x c,X.env.cells.lookup x=some c->∃v,s.heap.IsCell c v
 free:H X.env.locals=none
 gO:∀x c,X.env.cells.lookup x=some c->H c=none
 pin:∀p∈X.pn++pins,s.heap.get? p.1=some p.2/\H p.1=none/\p.1≠X.env.locals/\p.1 ∉ X.fs/\∀v,p.2.data≠ .cell v
 hok:eL X.prog X.w H s.heap
 len:σ.length=X.N.length
section
variable {X:Cx}{pins:List (Addr × Obj)}{σ:List (Option V)}{H H':Hp}{s:Shared}{h':Heap}
theorem Cx.Ok.C7 (ok:X.Ok)(e:X.base.get? b=some o):b ∉ X.fs:=λhb=>by
 have:=(ok.iF.mem hb).1;rw[e] at this;cases this
theorem Inv.bs (I:Inv X pins σ H s):∀b o,X.base.get? b=some o->s.heap.get? b=some o/\H b=none:=λb o e=>
 ⟨I.base.keep b o (I.ok.bs b o e).1 (I.ok.bs b o e).2 (I.ok.C7 e) (I.ok.mW b o e),I.base.free b o (I.ok.bs b o e).1 (I.ok.bs b o e).2 (I.ok.mW b o e)⟩
theorem Inv.bk (I:Inv X pins σ H s):∀b o,X.base.get? b=some o->s.heap.get? b=some o:=λb o e=>(I.bs b o e).1
theorem Inv.mod (I:Inv X pins σ H s):Mod X.K X.mg X.base:=I.ok.mod
theorem Inv.fm (I:Inv X pins σ H s):X.K.In s.heap:=I.ok.mod.oB.keeps I.bk
theorem Inv.nolimit (I:Inv X pins σ H s):s.heap.NoLimit:=I.ok.mod.nolimit.keeps I.bk
theorem Inv.lt (I:Inv X pins σ H s):X.env.locals<s.heap.objs.size:=let⟨_,hn,_⟩:=I.loc;hn.lt
theorem Inv.sz (I:Inv X pins σ H s):X.s₀.heap.objs.size<=s.heap.objs.size:=Q0b I.ok.above (Q0t I.lt)
theorem Inv.mY (I:Inv X pins σ H s)(h:s.heap.objs.size<=a):a ∉ X.fs:=λhb=>by
 obtain⟨_,o,ho,_⟩:=I.ok.iF.mem hb;exact absurd (Q0e (Q02 ho) (Q0b I.sz h)) (Q0w _)
theorem Inv.jh (I:Inv X pins σ H s):∀x c,X.env.cells.lookup x=some c->c≠X.env.locals:=λx c e z=>by
 obtain⟨v,o,ho,hd⟩:=I.cell x c e;obtain⟨m,⟨o',es,ep,aa,ab,_⟩,_⟩:=I.loc;rw[z,aa] at ho;cases ho;rw[ab] at hd;cases hd
theorem Inv.iF (I:Inv X pins σ H s):s.heap.FunFrames X.base X.outer:=by
 have all:∀(l:List Env),(∀b∈frs l,b∈X.fs)->X.s₀.heap.FunFrames X.base l->s.heap.FunFrames X.base l:=by
  intro l
  induction l with
  |nil=>intro _ _;trivial
  |cons env r ih=>
   intro hs hl;obtain⟨hk,⟨L,o,hf,hn,ho,hd⟩,hr⟩:=hl;have hL:L∈X.fs:=hs L (by unfold frs;rw[Q13,hf];exact Q04);obtain⟨sl,e⟩:=I.base.slot L o ho (I.ok.k7 L hL) hL λz=>I.ok.oE L z hL;exact⟨hk,⟨L,_,hf,hn,e,hd⟩,ih (λb hb=>hs b (by unfold frs;rw[Q13,hf];exact Q09 _ hb)) hr⟩
 exact all X.outer (λ_ hb=>hb) I.ok.iF
theorem Inv.stack (I:Inv X pins σ H s):s.heap.FunFrames X.base X.stack:=by
 rcases I.ok.stk with e|⟨e,hf⟩
 . rw[e];exact I.iF
 . rw[e];obtain⟨m,hn,_⟩:=I.loc;refine .cons (by rw[I.ok.kind];decide) hf hn ?_ I.iF;exact Heap.get?_none_of_le (Q0b I.ok.jg I.ok.above)
theorem Inv.oF (I:Inv X pins σ H s):∀b∈frs X.stack,b∈X.env.locals::X.fs:=λb hb=>by
 rcases I.ok.stk with e|⟨e,hf⟩
 . rw[e] at hb;exact Q09 _ hb
 . rw[e] at hb;unfold frs at hb;rw[Q13,hf] at hb;exact hb
theorem Inv.qj (I:Inv X pins σ H s):∀b∈frs X.stack,H b=none:=λb hb=>by
 rcases List.mem_cons.mp (I.oF b hb) with e|hb
 . rw[e];exact I.free
 . obtain⟨_,o,ho,_⟩:=I.ok.iF.mem hb;exact I.base.free b o ho (I.ok.k7 b hb) λz=>I.ok.oE b z hb
theorem Inv.step {g':Array GenState}{t':Nat}{d':Drawn}{ch:List Addr}(I:Inv X pins σ H s)
 (aa:∀b∈ch,(b∈X.ex\/X.s₀.heap.objs.size<=b)/\b≠X.env.locals/\(∀x c,X.env.cells.lookup x=some c->c≠b)/\∀p∈X.pn++pins,p.1≠b)
 (keep:∀b o,b≠X.env.locals->b ∉ X.fs->b ∉ ch->s.heap.get? b=some o->H b=none->h'.get? b=some o)
 (slot:∀b o,b≠X.env.locals->b∈X.fs->b ∉ ch->s.heap.get? b=some o->H b=none->∃sl,h'.get? b=some { o with slots:=sl }) (free:∀b o,b ∉ ch->s.heap.get? b=some o->H b=none->H' b=none)
 (there:∀b o,b ∉ ch->s.heap.get? b=some o->∃o',h'.get? b=some o')
 (tups:∀b xs,H b=some (.tup xs)->H' b=some (.tup xs)) (ip:∀b o u,H b=some (.e_ o u)->H' b=some (.e_ o u)) (iE:∀b ps,H b=some (.eX ps)->∃more,H' b=some (.eX (ps++more)))
 (ns:∀m,s.heap.Ns X.env.locals m->h'.Ns X.env.locals m) (ag:eL X.prog X.w H' h') (hg:AllBare g'):
 Inv X pins σ H' { s with heap:=h',gens:=g',drawn:=d',toks:=t' }:=by
 have af:∀b o,X.s₀.heap.get? b=some o->b≠X.env.locals:=λb o e=>Q08 (Q0e (Q02 e) I.ok.above)
 have ae:∀b o,X.s₀.heap.get? b=some o->b ∉ X.ex->b ∉ ch:=λb o e hx hb=>by
  rcases(aa b hb).1 with z|z
  . exact hx z
  . exact absurd (Q0e (Q02 e) z) (Q0w _)
 have cellK:∀x c,X.env.cells.lookup x=some c->∀v,s.heap.IsCell c v->h'.IsCell c v:=λx c e v ⟨o,ho,hd⟩=>by
  have ab:c ∉ ch:=λz=>(aa c z).2.2.1 x c e rfl;by_cases hc:c∈X.fs
  . obtain⟨sl,q⟩:=slot c o (I.jh x c e) hc ab ho (I.gO x c e);exact⟨_,q,hd⟩
  . exact⟨o,keep c o (I.jh x c e) hc ab ho (I.gO x c e),hd⟩
 refine⟨I.ok,I.os,hg,⟨λb o e n hb hx=>?_,λb o e n hb hx=>?_,λb o e n hx=>?_,λb o e hx=>?_,λb xs e=>tups b xs (I.base.tups b xs e),λb o xs e=>ip b o xs (I.base.ip b o xs e),λb ps e=>?_⟩,?_,λx c e=>?_,?_,λx c e=>?_,λp hp=>?_,ag,I.len⟩
 . exact keep b o (af b o e) hb (ae b o e hx) (I.base.keep b o e n hb hx) (I.base.free b o e n hx)
 . obtain⟨sl,e1⟩:=I.base.slot b o e n hb hx;obtain⟨ah,e2⟩:=slot b _ (af b o e) hb (ae b o e hx) e1 (I.base.free b o e n hx);exact⟨ah,e2⟩
 . obtain⟨o',e1⟩:=I.base.there b o e hx;exact free b o' (ae b o e hx) e1 (I.base.free b o e n hx)
 . obtain⟨o',e1⟩:=I.base.there b o e hx;exact there b o' (ae b o e hx) e1
 . obtain⟨m1,e1⟩:=I.base.iE b ps e;obtain⟨m2,e2⟩:=iE b _ e1;exact⟨m1++m2,by rw[e2,Array.append_assoc]⟩
 . obtain⟨m,hn,hl⟩:=I.loc;refine⟨m,ns m hn,λi x v e1 e2 e3=>?_⟩;obtain⟨u,r,l⟩:=hl i x v e1 e2 e3;refine⟨u,r,?_⟩;rcases l with l|⟨k,c,e,z⟩
   . exact .inl l
   . exact .inr ⟨k,c,e,cellK x c e _ z⟩
 . obtain⟨v,z⟩:=I.cell x c e;exact⟨v,cellK x c e v z⟩
 . obtain⟨m,⟨o,_,_,ho,_⟩,_⟩:=I.loc;exact free _ o (λz=>(aa _ z).2.1 rfl) ho I.free
 . obtain⟨v,o,ho,hd⟩:=I.cell x c e;exact free c o (λz=>(aa c z).2.2.1 x c e rfl) ho (I.gO x c e)
 . obtain⟨e,n,ne,nf,d⟩:=I.pin p hp;have ab:p.1 ∉ ch:=λz=>(aa p.1 z).2.2.2 p hp rfl;exact⟨keep p.1 p.2 ne nf ab e n,free p.1 p.2 ab e n,ne,nf,d⟩
theorem Inv.un(I:Inv X pins σ H s)(u:Un X.fs [] H H' s.heap h')(ab:eL X.prog X.w H' h'):Inv X pins σ H' { s with heap:=h',toks:=t' }:=by
 obtain⟨m,⟨o,es,ep,ho,r⟩,_⟩:=id I.loc;obtain⟨sl,hL⟩:=u.any ho I.free (by simp)
 exact I.step (g':=s.gens) (d':=s.drawn) (ch:=[]) (λ_ z=>nomatch z) (λb o _ hb _ e n=>u.keep b o e n hb (by simp)) (λb o _ hb _ e n=>u.slot b o e n hb (by simp)) (λb o _ e n=>u.free b o e n (by simp)) (λb o _ e=>u.there b o e (by simp)) u.tups u.ip u.iE (λm' hm=>by
  obtain⟨o',ae,af,aa,r'⟩:=hm;rw[ho] at aa;cases aa;exact⟨_,ae,af,hL,r'⟩) ab I.bare
theorem Inv.call(I:Inv X pins σ H s)(u:Un (frs X.stack) ch H H' s.heap h')(ae:eL X.prog X.w H' h')(hg:AllBare g')
 (aa:∀b∈ch,(b∈X.ex\/X.s₀.heap.objs.size<=b)/\b≠X.env.locals/\(∀x c,X.env.cells.lookup x=some c->c≠b)/\∀p∈X.pn++pins,p.1≠b):
 Inv X pins σ H' { s with heap:=h',gens:=g',drawn:=d',toks:=t' }:=by
 obtain⟨m,⟨o,es,ep,ho,r⟩,_⟩:=id I.loc;obtain⟨sl,hL⟩:=u.any ho I.free λz=>(aa _ z).2.1 rfl
 exact I.step (ch:=ch) aa (λb o hL hb hc e n=>u.keep b o e n (λz=>(List.mem_cons.mp (I.oF b z)).elim hL hb) hc) (λb o _ _ hc e n=>u.any e n hc) (λb o hc e n=>u.free b o e n hc) (λb o hc e=>u.there b o e hc) u.tups u.ip u.iE (λm' hm=>by
  obtain⟨o',af,ag,ab,r'⟩:=hm;rw[ho] at ab;cases ab;exact⟨_,af,ag,hL,r'⟩) ae hg
theorem Inv.turned(I:Inv X pins σ H s)(k:∀b o,b≠it->s.heap.get? b=some o->h'.get? b=some o)(hn:H it=none)(hL:it≠X.env.locals)
 (h1:it∈X.ex\/X.s₀.heap.objs.size<=it) (h2:∀x c,X.env.cells.lookup x=some c->c≠it) (h3:∀p∈X.pn++pins,p.1≠it):Inv X pins σ H { s with heap:=h',toks:=t' }:=by
 have aa:∀b u,H b=some u->b≠it:=λb u e z=>by rw[z,hn] at e;cases e
 refine I.step (g':=s.gens) (d':=s.drawn) (ch:=[it]) (λb hb=>?_) (λb o _ _ hc e _=>k b o (λz=>hc (by simp[z])) e) (λb o _ _ hc e _=>⟨o.slots,k b o (λz=>hc (by simp[z])) e⟩) (λ_ _ _ _ n=>n)
  (λb o hc e=>⟨o,k b o (λz=>hc (by simp[z])) e⟩) (λ_ _ e=>e) (λ_ _ _ e=>e) (λb ps e=>⟨#[],by rw[e];simp⟩) (λm hm=>?_) (λb u e=>?_) I.bare
 . have e:b=it:=by simpa using hb
   subst e;exact⟨h1,hL,h2,h3⟩
 . obtain⟨o,es,ep,ho,r⟩:=hm;exact⟨o,es,ep,k _ o (Ne.symm hL) ho,r⟩
 . refine(I.hok b u e).stay (λc v hc q=>k c v ?_ q) (λ_ q=>q) λ_ _ q=>q;rcases hc with z|z
   . rw[z];exact aa b u e
   . exact aa c _ z
theorem Inv.tok (I:Inv X pins σ H s)(t:Nat):Inv X pins σ H { s with toks:=t }:=I.un (h':=s.heap) (t':=t) Un.refl I.hok
theorem Inv.kept(I:Inv X pins σ H s)(k:∀b u,s.heap.get? b=some u->h'.get? b=some u):Inv X pins σ H { s with heap:=h',toks:=t' }:=I.un (Un.kept k) (I.hok.kept k)
theorem Inv.laid(I:Inv X pins σ H s)(k:∀b u,s.heap.get? b=some u->h'.get? b=some u)(hp:s.heap.objs.size<=a)(new:fc X.prog X.w (upd H a o) h' a o):
 Inv X pins σ (upd H a o) { s with heap:=h',toks:=t' }:=I.un (Un.laid k hp (I.hok.fresh hp)) (I.hok.laid k hp new)
theorem Inv.write(I:Inv X pins σ H s)(mu:oA (H x))(he:e=x\/H e=some (.own x))(k:∀b u,b≠e->s.heap.get? b=some u->h'.get? b=some u)(aa:∃u,h'.get? e=some u)
 (new:fc X.prog X.w (upd H x o) h' x o):Inv X pins σ (upd H x o) { s with heap:=h',toks:=t' }:=I.un (Un.write mu he k aa) (I.hok.write mu he k aa new)
theorem Inv.weak(I:Inv X pins σ H s)(hl:aa.length=σ.length)(w:∀(i:Nat) v,aa[i]? =some (some v)->σ[i]? =some (some v)):Inv X pins aa H s:=
 ⟨I.ok,I.os,I.bare,I.base,let⟨m,hn,ab⟩:=I.loc;⟨m,hn,λi x v e1 e2 e3=>ab i x v e1 (w i v e2) e3⟩,I.cell,I.free,I.gO,I.pin,I.hok,hl.trans I.len⟩
theorem Inv.lU(I:Inv X pins σ H s)(h:∀p∈aa,s.heap.get? p.1=some p.2/\H p.1=none/\p.1≠X.env.locals/\p.1 ∉ X.fs/\∀v,p.2.data≠ .cell v):Inv X aa σ H s:=
 ⟨I.ok,I.os,I.bare,I.base,I.loc,I.cell,I.free,I.gO,λp hp=>(List.mem_append.mp hp).elim (λz=>I.pin p (Q0o _ z)) (h p),I.hok,I.len⟩
theorem qk {N:List Str}(hN:N.Nodup){i j:Nat}(a:N[i]? =some x)(b:N[j]? =some x):i=j:=by
 obtain⟨h1,e1⟩:=List.getElem?_eq_some_iff.mp a;obtain⟨h2,e2⟩:=List.getElem?_eq_some_iff.mp b;exact(Q26 hN).mp (e1.trans e2.symm)
theorem C8(I:Inv X pins σ H s)(hN:X.N.Nodup)(hi:X.N[i]? =some x)(hx:Loc X.env.scope x)(r:RelV v u)
 (h:∀s',Inv X pins (σ.set i (some v)) H s'->(∃a,Heap.SameBut a s.heap s'.heap/\(a=X.env.locals\/X.env.cells.lookup x=some a))->Q () s') (hf:X.fn x=true\/X.env.scope.names.lookup x=some .local:=by first|exact .inl rfl|exact .inr rfl|assumption):wpAny M A (storeName X.env x u) Q E s:=by
 obtain⟨m,hn,hl⟩:=id I.loc;have ai:(X.env.scope.kind == .class || (X.env.scope.kind == .module && X.env.locals != X.env.globals))=false:=by rw[I.ok.kind];rfl
 have ab:i<σ.length:=by rw[I.len];exact(List.getElem?_eq_some_iff.mp hi).1
 have jh:=I.jh
 have tracked:∀{a:Addr} {h':Heap},(∃o,s.heap.get? a=some o/\H a=none)->Heap.SameBut a s.heap h'->eL X.prog X.w H h':=λ{a h'} ha hs b ob e=>by
  obtain⟨_,_,aa⟩:=ha;refine(I.hok b ob e).stay (λc w' hc q=>(hs.2 c ?_).trans q) (λ_ q=>q) λ_ _ q=>q;rintro rfl;rcases hc with rfl|hc
  . rw[aa] at e;cases e
  . rw[aa] at hc;cases hc
 rcases hx with hk|hk
 . refine wpAny_storeName_local hk hn (λh' ak hs=>?_) ai;obtain⟨oL,_,_,ao,_⟩:=id hn;refine h _ ⟨I.ok,I.os,I.bare,⟨λb o e n hb hx=>?_,λb o e n hb hx=>?_,I.base.free,λb o e hx=>?_,I.base.tups,I.base.ip,I.base.iE⟩,⟨_,ak,λj y v' e1 e2 e3=>?_⟩,λy c e=>?_,I.free,I.gO,λp hp=>?_,tracked ⟨oL,ao,I.free⟩ hs,by simpa using I.len⟩ ⟨_,hs,.inl rfl⟩
   . exact(hs.2 b (Q08 (Q0e (Q02 e) I.ok.above))).trans (I.base.keep b o e n hb hx)
   . obtain⟨sl,e1⟩:=I.base.slot b o e n hb hx;exact⟨sl,(hs.2 b (Q08 (Q0e (Q02 e) I.ok.above))).trans e1⟩
   . obtain⟨o',e1⟩:=I.base.there b o e hx;exact⟨o',(hs.2 b (Q08 (Q0e (Q02 e) I.ok.above))).trans e1⟩
   . by_cases hj:j=i
     . subst hj;rw[hi] at e1;cases e1;rw[Q27 ab] at e2
       cases e2;exact⟨u,r,.inl ⟨hk,by simp⟩⟩
     . rw[Q28 (Ne.symm hj)] at e2;obtain⟨u',r',q⟩:=hl j y v' e1 e2 e3;refine⟨u',r',?_⟩;rcases q with⟨k,e⟩|⟨k,c,e,z⟩
       . refine .inl ⟨k,?_⟩;have:y≠x:=λe=>hj (qk hN e1 (e ▸ hi));simp[this,e]
       . exact .inr ⟨k,c,e,z.sameBut hs (jh y c e)⟩
   . obtain⟨w',z⟩:=I.cell y c e;exact⟨w',z.sameBut hs (jh y c e)⟩
   . obtain⟨e,n,ne,nf,d⟩:=I.pin p hp;exact⟨(hs.2 p.1 ne).trans e,n,ne,nf,d⟩
 . have ae:X.fn x=true:=by
    rcases hf with z|z
    . exact z
    . rw[z] at hk;cases hk
   obtain⟨c,hc⟩:=I.ok.has x (.inl hk);obtain⟨w',z⟩:=I.cell x c hc;refine wpAny_storeName_cell I.ok.kind hk hc z (λh' af hs=>?_);obtain⟨oc,ag,aj⟩:=id z;refine h { s with heap:=h' } ⟨I.ok,I.os,I.bare,⟨λb o e n hb hx=>?_,λb o e n hb hx=>?_,I.base.free,λb o e hx=>?_,I.base.tups,I.base.ip,I.base.iE⟩,⟨m,hn.sameBut hs (Ne.symm (jh x c hc)),λj y v' e1 e2 e3=>?_⟩,λy c' e=>?_,I.free,I.gO,λp hp=>?_,tracked ⟨oc,ag,I.gO x c hc⟩ hs,by simpa using I.len⟩ ⟨c,hs,.inr hc⟩
   . exact(hs.2 b (Q08 (Q0e (Q02 e) (I.ok.cab x c ae hc)))).trans (I.base.keep b o e n hb hx)
   . obtain⟨sl,e1⟩:=I.base.slot b o e n hb hx;exact⟨sl,(hs.2 b (Q08 (Q0e (Q02 e) (I.ok.cab x c ae hc)))).trans e1⟩
   . obtain⟨o',e1⟩:=I.base.there b o e hx;exact⟨o',(hs.2 b (Q08 (Q0e (Q02 e) (I.ok.cab x c ae hc)))).trans e1⟩
   . by_cases hj:j=i
     . subst hj;rw[hi] at e1;cases e1;rw[Q27 ab] at e2
       cases e2;exact⟨u,r,.inr ⟨.inl hk,c,hc,af⟩⟩
     . rw[Q28 (Ne.symm hj)] at e2;obtain⟨u',r',q⟩:=hl j y v' e1 e2 e3;refine⟨u',r',?_⟩;rcases q with q|⟨k,c',e,z'⟩
       . exact .inl q
       . refine .inr ⟨k,c',e,z'.sameBut hs ?_⟩;rintro rfl;exact hj (qk hN e1 (I.ok.inj _ _ _ e hc ▸ hi))
   . by_cases ah:c'=c
     . subst ah;exact⟨_,af⟩
     . obtain⟨w2,z2⟩:=I.cell y c' e;exact⟨w2,z2.sameBut hs ah⟩
   . obtain⟨e,n,ne,nf,d⟩:=I.pin p hp;refine⟨(hs.2 p.1 ?_).trans e,n,ne,nf,d⟩;intro q;rw[q,ag] at e;have q':oc=p.2:=Option.some.inj e;exact d w' (by rw[<-q'];exact aj)
theorem qm(I:Inv X pins σ H s)(hN:X.N.Nodup)(hi:X.N[i]? =some x)(hx:Loc X.env.scope x)(r:RelV v u)
 (h:∀s',Inv X pins (σ.set i (some v)) H s'->Q () s') (hf:X.fn x=true\/X.env.scope.names.lookup x=some .local:=by first|exact .inl rfl|exact .inr rfl|assumption):wpAny M A (storeName X.env x u) Q E s:=
 C8 I hN hi hx r (λs' I' _=>h s' I') hf
theorem Inv.call'(I:Inv X pins σ H s)(ho:s'.os=s.os)(u:Un (frs X.stack) ch H H' s.heap s'.heap)(aa:eL X.prog X.w H' s'.heap)(hg:AllBare s'.gens)
 (ab:∀b∈ch,(b∈X.ex\/X.s₀.heap.objs.size<=b)/\b≠X.env.locals/\(∀x c,X.env.cells.lookup x=some c->c≠b)/\∀p∈X.pn++pins,p.1≠b):Inv X pins σ H' s':=by
 obtain⟨h',g',d',t',o'⟩:=s';have e:o'=s.os:=ho;subst e;exact I.call (g':=g') (t':=t') (d':=d') u aa hg ab
end
noncomputable abbrev XK:=Value->Option Addr->Hp->Prop
noncomputable abbrev St:=List (Option V)
noncomputable abbrev VK:=V->Hp->Prop
noncomputable abbrev TE:=St->Hp->VK->Prop
noncomputable abbrev TT:=St->Hp->(Bool->Hp->Prop)->Prop
noncomputable abbrev TA:=St->Hp->(List V->Hp->Prop)->Prop
structure Ends where
 nx:St->Hp->Prop
 rt:VK
 bk:St->Hp->Prop:=λ_ _=>False
 ct:St->Hp->Prop:=λ_ _=>False
noncomputable abbrev TS:=Ends->St->Hp->Prop
def EP (X:Cx) (pins:List (Addr × Obj)) (σ:St) (Q:VK) (u:Value) (s':Shared):Prop:=∃v H',Inv X pins σ H' s'/\RelV v u/\Q v H'
def TP (X:Cx) (pins:List (Addr × Obj)) (σ:St) (Q:Bool->Hp->Prop) (b:Bool) (s':Shared):Prop:=∃H',Inv X pins σ H' s'/\Q b H'
def AP (X:Cx) (pins:List (Addr × Obj)) (σ:St) (Q:List V->Hp->Prop) (us:List Value) (s':Shared):Prop:=∃vs H',Inv X pins σ H' s'/\Vals vs us/\Q vs H'
def SP (X:Cx) (pins:List (Addr × Obj)) (D:Ends) (f:Flow) (s':Shared):Prop:=
 match f with
 | .next=>∃aa H',Inv X pins aa H' s'/\D.nx aa H'
 | .brk=>∃aa H',Inv X pins aa H' s'/\D.bk aa H'
 | .cont=>∃aa H',Inv X pins aa H' s'/\D.ct aa H'
 | .ret u=>∃v aa H',Inv X pins aa H' s'/\RelV v u/\D.rt v H'
def PE (X:Cx) (e:Expr) (t:TE):Prop:=
 ∀(pins:List (Addr × Obj)) (s:Shared) (σ:St) (H:Hp) (Q:VK),Inv X pins σ H s->t σ H Q->wpAny (model X.prog X.w) X.A (eval e X.env) (EP X pins σ Q) X.xe s
def PT (X:Cx) (e:Expr) (t:TT):Prop:=
 ∀(pins:List (Addr × Obj)) (s:Shared) (σ:St) (H:Hp) (Q:Bool->Hp->Prop),Inv X pins σ H s->t σ H Q->wpAny (model X.prog X.w) X.A (isTrue e X.env (eval e X.env)) (TP X pins σ Q) X.xe s
def PW (X:Cx) (e:Expr) (t:TT):Prop:=
 ∀(whole:Sem Value) (pins:List (Addr × Obj)) (s:Shared) (σ:St) (H:Hp) (Q:Bool->Hp->Prop),Inv X pins σ H s->t σ H Q->wpAny (model X.prog X.w) X.A (isTrue e X.env whole) (TP X pins σ Q) X.xe s
theorem PW.pt(h:PW X e t):PT X e t:=h _
def PA (X:Cx) (es:List Expr) (t:TA):Prop:=
 ∀(pos:Pos) (pins:List (Addr × Obj)) (s:Shared) (σ:St) (H:Hp) (Q:List V->Hp->Prop),Inv X pins σ H s->t σ H Q->wpAny (model X.prog X.w) X.A (spliced (backTo pos (starEach es X.env))) (AP X pins σ Q) X.xe s
def PS (X:Cx) (st:Stmt) (t:TS):Prop:=
 ∀(pins:List (Addr × Obj)) (s:Shared) (σ:St) (H:Hp) (D:Ends),Inv X pins σ H s->t D σ H->wpAny (model X.prog X.w) X.A (exec st X.env) (SP X pins D) X.xe s
def g9 (X:Cx) (st:List Stmt) (t:TS):Prop:=
 ∀(pins:List (Addr × Obj)) (s:Shared) (σ:St) (H:Hp) (D:Ends),Inv X pins σ H s->t D σ H->wpAny (model X.prog X.w) X.A (execs st X.env) (SP X pins D) X.xe s
theorem dg {α:Type}{t:Sem α}{Q Q':α->Shared->Prop}{E:Value->Shared->Prop}(h:wpAny M A t Q E s)(hQ:∀a s,Q a s->Q' a s):wpAny M A t Q' E s:=Q0r h hQ λ_ _ x=>x
section
variable {X:Cx}
inductive vQ (i:Nat) (σ:L2.St) (H:Hp) (Q:V->Hp->Prop):Prop
 |mk (v:_) (h0:σ[i]? =some (some v)) (h1:Q v H):vQ i σ H Q
def dF (i:Nat):TE:=λσ H Q=>vQ i σ H Q
def tC (v:V):TE:=λ_ H Q=>Q v H
theorem C9(hN:X.N[i]? =some x)(hv:sd X.env.scope x)(hd:(x == ("__debug__":Str))=false:=by decide)(ab:(x == ("__classdict__":Str))=false:=by decide):PE X (.Name x pos) (dF i):=by
 intro pins s σ H Q I h;obtain⟨v,e,h⟩:=h;obtain⟨m,hn,hl⟩:=I.loc;obtain⟨u,r,l⟩:=hl i x v hN e hv;have fin:EP X pins σ Q u s:=⟨v,H,I,r,h⟩;rcases l with⟨hk,hm⟩|⟨hk,c,hc,aa⟩
 . exact wpAny_Name (wpAny_loadName_local I.ok.kind hk hn hm fin) hd
 . rcases hk with hk|hk
   . exact wpAny_Name (wpAny_loadName_cell I.ok.kind hk hc aa fin) hd
   . exact wpAny_Name (wpAny_loadName_free I.ok.kind hk hc aa fin ab) hd
theorem cI {i j pos}:PE X (.Constant (.int i) j pos) (tC (.int i)):=λ_ _ _ H _ I h=>wpAny_Constant_int ⟨.int i,H,I.tok _,⟨_,rfl⟩,h⟩
theorem f9 {b j pos}:PE X (.Constant (.bool b) j pos) (tC (.bl b)):=λ_ _ _ H _ I h=>Constant_bool ⟨.bl b,H,I,rfl,h⟩
theorem fF {j pos}:PE X (.Constant .none j pos) (tC .non):=λ_ _ _ H _ I h=>Constant_none ⟨.non,H,I,rfl,h⟩
theorem d0 {x j pos}:PE X (.Constant (.str x) j pos) (tC (.str x)):=λ_ _ _ H _ I h=>Calls.Constant_str ⟨.str x,H,I.tok _,⟨_,rfl⟩,h⟩
def Gl (X:Cx) (x:Str):Prop:=X.env.kindOf x=some .globalImplicit
theorem qo(I:Inv X pins σ H s)(hg:Gl X x)(hm:X.mg x=some u)(h:Q u s)
 (hd:(x == ("__debug__":Str))=false:=by decide):wpAny (model X.prog X.w) X.A (eval (.Name x pos) X.env) Q E s:=
 Calls.Name_function_global I.ok.kind hg (Calls.loadGlobal_global (by rw[I.ok.glob];exact I.mod.glob.keeps I.bk) hm h) hd
theorem jD(I:Inv X pins σ H s)(hg:Gl X x)(hm:X.mg x=none)(hv:bootBuiltins x=some u)(h:Q u s)
 (hn:x≠"__name__":=by decide) (hd:(x == ("__debug__":Str))=false:=by decide):wpAny (model X.prog X.w) X.A (eval (.Name x pos) X.env) Q E s:=by
 obtain⟨mb,h1,h2⟩:=I.mod.blt;exact Calls.Name_function_global I.ok.kind hg (Calls.loadGlobal_builtin (by rw[I.ok.glob];exact I.mod.glob.keeps I.bk) hm (by rw[I.ok.blt];exact h1.keeps I.bk) ((h2 x hn).trans hv) h) hd
theorem gP(hg:Gl X x)(hm:X.mg x=none)(hv:bootBuiltins x=some u)(r:RelV v u)(hn:x≠"__name__":=by decide)(hd:(x == ("__debug__":Str))=false:=by decide):PE X (.Name x pos) (tC v):=
 λ_ _ _ H _ I h=>jD I hg hm hv ⟨v,H,I,r,h⟩ hn hd
variable {a b:Expr}{ta tb:TE}{pos:Pos}
def PC (X:Cx) (op:CmpOp) (a b:Expr) (t:TE):Prop:=
 ∀(pins:List (Addr × Obj)) (s:Shared) (σ:St) (H:Hp) (Q:VK),Inv X pins σ H s->t σ H Q->
  wpAny (model X.prog X.w) X.A (eval a X.env) (λv aa=>wpAny (model X.prog X.w) X.A (eval b X.env) (λu ab=>wpAny (model X.prog X.w) X.A (compareOp op v u) (EP X pins σ Q) X.xe ab) X.xe aa) X.xe s
inductive vR (Q:Bool->Hp->Prop) (x:V) (H1:Hp):Prop
 |mk (c:_) (h0:x=.bl c) (h1:Q c H1):vR Q x H1
def tB (t:TE):TT:=λσ H Q=>t σ H (vR Q)
theorem C_(h:PC X op a b t)(h1:behindInMarks op b=false:=by first|exact aa _ (by decide) (by decide)|rfl):PE X (.Compare a [op] [b] pos) t:=λpins s σ H Q I hw=>wpAny_Compare1 (h pins s σ H Q I hw) h1
theorem sh(h:PC X op a b t)(h1:behindInMarks op b=false:=by first|exact aa _ (by decide) (by decide)|rfl):PT X (.Compare a [op] [b] pos) (tB t):=by
 intro pins s σ H Q I hw;refine wpAny_isTrue_Compare1 (dg (h pins s σ H _ I hw) λv s1 h1=>dg h1 λu s2 h2=>dg h2 λc s3 zq=>?_) h1;obtain⟨x,H1,I1,r1,q1⟩:=zq;obtain⟨d,rfl,q⟩:=q1
 cases r1;exact wpAny_truthy_bool ⟨H1,I1,q⟩
theorem fJ(h:PE X e t)(he:∀whole,isTrue e X.env whole=(do let v <-whole;standAt e.pos;holding [v] (truthy v)):=by intro _;rfl):PT X e (tB t):=by
 intro pins s σ H Q I hw;refine isTrue_plain (dg (h pins s σ H _ I hw) λv s1 zq=>?_) (he _);obtain⟨x,H1,I1,r1,q1⟩:=zq;obtain⟨d,rfl,q⟩:=q1
 cases r1;exact wpAny_truthy_bool ⟨H1,I1,q⟩
variable {tA qp:TT}{rest:List Expr}
abbrev Dd (u:TT) (σ:St) (Q:Bool->Hp->Prop):Bool->Hp->Prop:=λc H1=>if c=true then u σ H1 Q else Q false H1
def De (t u:TT):TT:=λσ H Q=>t σ H (Dd u σ Q)
abbrev Df (u:TT) (σ:St) (Q:Bool->Hp->Prop):Bool->Hp->Prop:=λc H1=>if c=true then Q true H1 else u σ H1 Q
def Dg (t u:TT):TT:=λσ H Q=>t σ H (Df u σ Q)
abbrev k_not (Q:Bool->Hp->Prop):Bool->Hp->Prop:=λc H1=>Q (!c) H1
def Dh (t:TT):TT:=λσ H Q=>t σ H (k_not Q)
theorem oG (ha:PT X a tA):PW X (.BoolOp .And [a] pos) tA:=by
 intro wh pins s σ H Q I h;refine isTrue_and (dg (ha pins s σ H Q I h) λc s1 e=>?_)
 cases c with
 |true=>exact isTrue_and_nil e
 |false=>exact e
theorem g_ (ha:PT X a tA):PW X (.BoolOp .Or [a] pos) tA:=by
 intro wh pins s σ H Q I h;refine isTrue_or (dg (ha pins s σ H Q I h) λc s1 e=>?_)
 cases c with
 |false=>exact isTrue_or_nil e
 |true=>exact e
theorem oH (ha:PT X a tA)(hb:PW X (.BoolOp .And (b::rest) pos) qp):PW X (.BoolOp .And (a::b::rest) pos) (De tA qp):=by
 intro wh pins s σ H Q I h;refine isTrue_and (dg (ha pins s σ H _ I h) λc s1 ⟨H1,I1,q1⟩=>?_)
 cases c with
 |true=>exact hb wh pins s1 σ H1 Q I1 q1
 |false=>exact⟨H1,I1,q1⟩
theorem gQ (ha:PT X a tA)(hb:PW X (.BoolOp .Or (b::rest) pos) qp):PW X (.BoolOp .Or (a::b::rest) pos) (Dg tA qp):=by
 intro wh pins s σ H Q I h;refine isTrue_or (dg (ha pins s σ H _ I h) λc s1 ⟨H1,I1,q1⟩=>?_)
 cases c with
 |true=>exact⟨H1,I1,q1⟩
 |false=>exact hb wh pins s1 σ H1 Q I1 q1
theorem f_ (ha:PT X a tA):PT X (.UnaryOp .Not a pos) (Dh tA):=by
 intro pins s σ H Q I h;exact isTrue_not (ha pins s σ H (λc H1=>Q (!c) H1) I h)
inductive vS (tb:TE) (σ:L2.St) (Q:V->Hp->Prop) (x:V) (H1:Hp):Prop
 |mk (c:_) (h0:x=.bl c) (h1:if c=true then tb σ H1 Q else Q (.bl false) H1):vS tb σ Q x H1
def Di (ta tb:TE):TE:=λσ H Q=>ta σ H (vS tb σ Q)
inductive vT (Q:V->Hp->Prop) (x:V) (H1:Hp):Prop
 |mk (c:_) (h0:x=.bl c) (h1:Q (.bl (!c)) H1):vT Q x H1
def Dj (ta:TE):TE:=λσ H Q=>ta σ H (vT Q)
theorem j4 {op}(h:PE X a t):PE X (.BoolOp op [a] pos) t:=λpins s σ H Q I hw=>BoolOp_one (h pins s σ H Q I hw)
theorem jE (ha:PE X a ta)(hb:PE X (.BoolOp .And (b::rest) pos) tb):PE X (.BoolOp .And (a::b::rest) pos) (Di ta tb):=by
 intro pins s σ H Q I h;refine BoolOp_and (dg (ha pins s σ H _ I h) λv s1 zq=>?_);obtain⟨x,H1,I1,r1,q1⟩:=zq;obtain⟨c,rfl,q1⟩:=q1
 cases r1;refine wpAny_truthy_bool ?_
 cases c with
 |true=>exact hb pins s1 σ H1 Q I1 q1
 |false=>exact⟨.bl false,H1,I1,rfl,q1⟩
theorem Dk (ha:PE X a ta):PE X (.UnaryOp .Not a pos) (Dj ta):=by
 intro pins s σ H Q I h;refine UnaryOp_ (dg (ha pins s σ H _ I h) λv s1 zq=>?_);obtain⟨x,H1,I1,r1,q1⟩:=zq;obtain⟨c,rfl,q1⟩:=q1
 cases r1;exact not_of (wpAny_truthy_bool ⟨.bl (!c),H1,I1,rfl,q1⟩)
abbrev Dl (ta tb:TE) (σ:St) (Q:V->Hp->Prop):Bool->Hp->Prop:=λc H1=>if c=true then ta σ H1 Q else tb σ H1 Q
def Dm (t:TT) (ta tb:TE):TE:=λσ H Q=>t σ H (Dl ta tb σ Q)
theorem sj(hc:PT X c tA)(ha:PE X a ta)(hb:PE X b tb):PE X (.IfExp c a b pos) (Dm tA ta tb):=by
 intro pins s σ H Q I h;refine wpAny_IfExp (dg (hc pins s σ H _ I h) λd s1 ⟨H1,I1,q1⟩=>?_)
 cases d with
 |true=>exact ha pins s1 σ H1 Q I1 q1
 |false=>exact hb pins s1 σ H1 Q I1 q1
end
def cM (K:W.Frag) (H:Hp) (a:Addr) (xs:List V):Prop:=
 Rd H a (.lst xs)\/
  ∃(o:Obj) (aa:Array Value) (n:Nat),K.lookup a=some o/\o.cls=.type "list"/\o.dict=none/\o.data=.seq aa n/\aa.size<=sizeLine/\Vals xs aa.toList
def cJ (K:W.Frag) (H:Hp) (a:Addr) (xs:List V):Prop:=
 Rd H a (.tup xs)\/
  ∃(o:Obj) (aa:Array Value) (n:Nat),K.lookup a=some o/\o.cls=.type "tuple"/\o.data=.seq aa n/\aa.size<=sizeLine/\Vals xs aa.toList
noncomputable def Dn:Value->Option V
 | .none=>some .non
 | .bool b=>some (.bl b)
 | .int i _=>some (.int i)
 | .str x _=>some (.str x)
 | .bytes b _=>some (.iO b)
 | .float b _=>some (.flt b)
 | .ref a=>some (.ref a)
 | .type n=>some (.ty n)
 |_=>none
theorem RelV.abs(r:RelV x u):Dn u=some x:=by
 cases x with
 |non=>cases r;rfl
 |bl _=>cases r;rfl
 |int _=>obtain⟨t,rfl⟩:=r;rfl
 |str _=>obtain⟨t,rfl⟩:=r;rfl
 |iO _=>obtain⟨t,rfl⟩:=r;rfl
 |flt _=>obtain⟨t,rfl⟩:=r;rfl
 |ref _=>cases r;rfl
 |ty _=>cases r;rfl
theorem RelV.inj(r:RelV x u)(q:RelV y u):x=y:=Option.some.inj (r.abs.symm.trans q.abs)
theorem Vals.inj:∀{xs ys:List V}{us:List Value},Vals xs us->Vals ys us->xs=ys
 |_,_,_,.nil,.nil=>rfl
 |_,_,_,.cons r t,.cons r' t'=>by rw[r.inj r',Vals.inj t t']
section
variable {X:Cx}{pins:List (Addr × Obj)}{σ:St}{H:Hp}{s:Shared}{a:Addr}{xs ys:List V}
theorem cM.of {K:W.Frag}(h:H a=some (.lst xs)):cM K H a xs:=.inl (.inl h)
theorem cJ.of {K:W.Frag}(h:H a=some (.tup xs)):cJ K H a xs:=.inl (.inl h)
theorem Inv.list (I:Inv X pins σ H s)(h:cM X.K H a xs):∃aa:List Value,Vals xs aa/\PlainL s.heap a aa.toArray/\xs.length<=sizeLine:=by
 rcases h with h|⟨o,aa,n,hk,hc,hd,hs,hz,r⟩
 . obtain⟨z,aa,n,r,e⟩:=h.ok I.hok;exact⟨aa,r,⟨_,n,e,rfl,rfl,rfl⟩,z⟩
 . refine⟨aa.toList,r,⟨o,n,I.fm a o hk,hc,hd,by simpa using hs⟩,?_⟩;have e:=r.length;simp only[Q1u] at e;omega
theorem Inv.tuple (I:Inv X pins σ H s)(h:cJ X.K H a xs):∃aa:List Value,Vals xs aa/\IsTup s.heap a aa.toArray/\xs.length<=sizeLine:=by
 rcases h with h|⟨o,aa,n,hk,hc,hs,hz,r⟩
 . obtain⟨z,aa,r,p⟩:=h.ok I.hok;exact⟨aa,r,p,z⟩
 . refine⟨aa.toList,r,⟨o,I.fm a o hk,hc,n,by simpa using hs⟩,?_⟩;have e:=r.length;simp only[Q1u] at e;omega
theorem Inv.qr (I:Inv X pins σ H s)(h:cM X.K H a xs)(h':cM X.K H a ys):xs=ys:=by
 obtain⟨aa,r,⟨o,n,e,_,_,d⟩,_⟩:=I.list h;obtain⟨its',r',⟨o',n',e',_,_,d'⟩,_⟩:=I.list h';rw[e] at e';cases e';rw[d] at d';injection d' with d1 _
 have:aa=its':=by simpa using congrArg Array.toList d1
 subst this;exact r.inj r'
theorem Inv.Dp (I:Inv X pins σ H s)(h:cJ X.K H a xs)(h':cJ X.K H a ys):xs=ys:=by
 obtain⟨aa,r,⟨o,e,_,n,d⟩,_⟩:=I.tuple h;obtain⟨its',r',⟨o',e',_,n',d'⟩,_⟩:=I.tuple h';rw[e] at e';cases e';rw[d] at d';injection d' with d1 _
 have:aa=its':=by simpa using congrArg Array.toList d1
 subst this;exact r.inj r'
end
noncomputable abbrev Cx.wish (X:Cx) (E:Value->Shared->Prop):Cx:={ X with xe:=E }
noncomputable abbrev Cx.c7 (X:Cx):Cx:=X.wish λ_ _=>False
theorem Cx.Ok.wish {X:Cx}(ok:X.Ok)(E:Value->Shared->Prop):(X.wish E).Ok:=
 ⟨ok.mod,ok.kind,ok.glob,ok.blt,ok.above,ok.inj,ok.has,ok.cab,ok.hd,ok.frames,ok.stk,ok.sg,ok.bs,ok.jg,ok.mW,ok.oE,ok.iF,ok.k7⟩
theorem Cx.Ok.j5 {X:Cx}{E:Value->Shared->Prop}(ok:(X.wish E).Ok):X.Ok:=
 ⟨ok.mod,ok.kind,ok.glob,ok.blt,ok.above,ok.inj,ok.has,ok.cab,ok.hd,ok.frames,ok.stk,ok.sg,ok.bs,ok.jg,ok.mW,ok.oE,ok.iF,ok.k7⟩
section
variable {X:Cx}{pins:List (Addr × Obj)}{σ:St}{H:Hp}{s:Shared}{E:Value->Shared->Prop}
theorem Inv.wish (I:Inv X pins σ H s)(E:Value->Shared->Prop):Inv (X.wish E) pins σ H s:=⟨I.ok.wish E,I.os,I.bare,I.base,I.loc,I.cell,I.free,I.gO,I.pin,I.hok,I.len⟩
theorem Inv.j5 (I:Inv (X.wish E) pins σ H s):Inv X pins σ H s:=⟨I.ok.j5,I.os,I.bare,I.base,I.loc,I.cell,I.free,I.gO,I.pin,I.hok,I.len⟩
theorem SP.j5(h:SP (X.wish E) pins D f s'):SP X pins D f s':=by
 cases f with
 |next=>obtain⟨aa,H',I,q⟩:=h;exact⟨aa,H',I.j5,q⟩
 |brk=>obtain⟨aa,H',I,q⟩:=h;exact⟨aa,H',I.j5,q⟩
 |cont=>obtain⟨aa,H',I,q⟩:=h;exact⟨aa,H',I.j5,q⟩
 |ret u=>obtain⟨v,aa,H',I,r,q⟩:=h;exact⟨v,aa,H',I.j5,r,q⟩
theorem g9.c7 {st:List Stmt}(h:g9 X.c7 st t):g9 X st t:=λpins s σ H D I hw=>
 Q0r (h pins s σ H D (I.wish _) hw) (λ_ _ q=>q.j5) λ_ _ z=>False.elim z
end
section
variable {X:Cx}{st:Stmt}{rest:List Stmt}{t u:TS}{e:Expr}{te:TE}{pos:Pos}
def mZ:TS:=λD σ H=>D.nx σ H
def qt (t u:TS):TS:=λD σ H=>t { D with nx:=u D } σ H
theorem dt:g9 X [] mZ:=λ_ _ σ H _ I h=>wpAny_execs_nil ⟨σ,H,I,h⟩
theorem cK (h1:PS X st t)(h2:g9 X rest u):g9 X (st::rest) (qt t u):=by
 intro pins s σ H D I h;refine wpAny_execs_cons (dg (h1 pins s σ H { D with nx:=u D } I h) λf s1 q=>?_)
 cases f with
 |next=>
  obtain⟨aa,H',I',q⟩:=q;exact h2 pins s1 aa H' D I' q
 |ret v=>exact q
 |brk=>exact q
 |cont=>exact q
theorem cO (h1:PS X st t):g9 X [st] t:=by
 intro pins s σ H D I h;refine wpAny_execs_cons (dg (h1 pins s σ H D I h) λf s1 q=>?_)
 cases f with
 |next=>exact wpAny_execs_nil q
 |ret v=>exact q
 |brk=>exact q
 |cont=>exact q
theorem Inv.quiet(I:Inv X pins σ H s):interactive X.env=false:=by simp[interactive,I.ok.kind]
def k_drop (D:Ends) (σ:St):V->Hp->Prop:=λ_ H1=>D.nx σ H1
def Dq (te:TE):TS:=λD σ H=>te σ H (k_drop D σ)
theorem ft (he:PE X e te)(hs:swapsWith e none pos.line X.env=pure false:=by rfl):PS X (.Expr e pos) (Dq te):=by
 intro pins s σ H D I h;exact wpAny_Expr_any (dg (he pins s σ H _ I h) λv s1 ⟨x,H1,I1,r1,q1⟩=>⟨σ,H1,I1,q1⟩) I.quiet hs
def sr (te:TE):TS:=λD σ H=>te σ H D.rt
theorem cS (he:PE X e te):PS X (.Return (some e) pos) (sr te):=by
 intro pins s σ H D I h;exact wpAny_Return_some (dg (he pins s σ H _ I h) λv s1 ⟨x,H1,I1,r1,q1⟩=>⟨x,σ,H1,I1,r1,q1⟩)
abbrev Dr (t u:TS) (D:Ends) (σ:St):Bool->Hp->Prop:=λb H1=>if b=true then t D σ H1 else u D σ H1
def lV (c:TT) (t u:TS):TS:=λD σ H=>c σ H (Dr t u D σ)
theorem dq(hc:PT X c tc)(ha:g9 X a t)(hb:g9 X b u):PS X (.If c a b pos) (lV tc t u):=by
 intro pins s σ H D I h;refine wpAny_If (dg (hc pins s σ H _ I h) λd s1 ⟨H1,I1,q1⟩=>?_)
 cases d with
 |true=>exact ha pins s1 σ H1 D I1 q1
 |false=>exact hb pins s1 σ H1 D I1 q1
def vU:TS:=λ_ _ _=>False
theorem su:PS X st vU:=λ_ _ _ _ _ _ h=>h.elim
theorem sx:g9 X aa vU:=λ_ _ _ _ _ _ h=>h.elim
end
noncomputable abbrev TG:=V->St->Hp->(St->Hp->Prop)->Prop
noncomputable abbrev j6:=List V->St->Hp->(St->Hp->Prop)->Prop
def PG (X:Cx) (target:Expr) (t:TG):Prop:=
 ∀(pins:List (Addr × Obj)) (s:Shared) (σ:St) (H:Hp) (v:V) (u:Value) (Q:St->Hp->Prop),Inv X pins σ H s->RelV v u->t v σ H Q->
  wpAny (model X.prog X.w) X.A (assign target X.env u) (λ_ s'=>∃aa H',Inv X pins aa H' s'/\Q aa H') X.xe s
def qu (X:Cx) (ts:List Expr) (t:j6):Prop:=
 ∀(pins:List (Addr × Obj)) (s:Shared) (σ:St) (H:Hp) (vs:List V) (us:List Value) (Q:St->Hp->Prop),Inv X pins σ H s->Vals vs us->t vs σ H Q->
  wpAny (model X.prog X.w) X.A (assignInOrder ((assignEach ts X.env).map (·.2)) us) (λ_ s'=>∃aa H',Inv X pins aa H' s'/\Q aa H') X.xe s
noncomputable abbrev sy:=V->V->V->Hp->(Hp->Prop)->Prop
def vV (X:Cx) (t:sy):Prop:=
 ∀(pins:List (Addr × Obj)) (s:Shared) (σ:St) (H:Hp) (o i v:V) (ov iv u:Value) (Q:Hp->Prop),Inv X pins σ H s->RelV o ov->RelV i iv->RelV v u->t o i v H Q->
  wpAny (model X.prog X.w) X.A (setItem ov iv u) (λ_ s'=>∃H',Inv X pins σ H' s'/\Q H') X.xe s
section
variable {X:Cx}{pos:Pos}
def eG (i:Nat):TG:=λv σ H Q=>Q (σ.set i (some v)) H
theorem dy(hN:X.N.Nodup)(hi:X.N[i]? =some x)(hx:Loc X.env.scope x)(hf:X.fn x=true\/X.env.scope.names.lookup x=some .local:=by first|exact .inl rfl|exact .inr rfl|assumption):PG X (.Name x pos) (eG i):=by
 intro pins s σ H v u Q I r h;exact wpAny_assign_Name (qm I hN hi hx r (λs' I'=>⟨_,H,I',h⟩) hf)
def oI:j6:=λvs σ H Q=>vs=[]/\Q σ H
inductive vW (t:TG) (u:j6) (vs:List V) (σ:L2.St) (H:Hp) (Q:St->Hp->Prop):Prop
 |mk (v:_) (r:_) (h0:vs=v::r) (h1:t v σ H λσ' H'=>u r σ' H' Q):vW t u vs σ H Q
def j7 (t:TG) (u:j6):j6:=λvs σ H Q=>vW t u vs σ H Q
theorem hX:qu X [] oI:=by
 intro pins s σ H vs us Q I r h;obtain⟨e,h⟩:=h;subst e
 cases r;exact assignInOrder_nil ⟨σ,H,I,h⟩
theorem eY {e:Expr}(h1:PG X e t)(h2:qu X es u)
 (hs:(assignEach (e::es) X.env).map (·.2)=assign e X.env::(assignEach es X.env).map (·.2):=by rfl):qu X (e::es) (j7 t u):=by
 intro pins s σ H vs us Q I r h;obtain⟨v,vr,e1,h⟩:=h;subst e1
 cases r with
 |cons r rr=>
  rw[hs];refine assignInOrder_cons (dg (h1 pins s σ H _ _ _ I r h) λ_ s1 zq=>?_);obtain⟨aa,H1,I1,q1⟩:=zq;exact h2 pins s1 aa H1 _ _ Q I1 rr q1
inductive vX (K:W.Frag) (n:Nat) (t:j6) (v:V) (σ:L2.St) (H:Hp) (Q:St->Hp->Prop):Prop
 |mk (a:_) (xs:_) (h0:v=.ref a) (h1:cJ K H a xs) (h2:xs.length=n) (h3:t xs σ H Q):vX K n t v σ H Q
def oJ (K:W.Frag) (n:Nat) (t:j6):TG:=λv σ H Q=>vX K n t v σ H Q
theorem hZ(hc:X.calm=true)(h:qu X es t)
 (hn:(assignEach es X.env).length=n:=by rfl) (aa:(assignEach es X.env).findIdx? (·.1)=none:=by rfl):PG X (.Tuple es k pos) (oJ X.K n t):=by
 intro pins s σ H v u Q I r hw;obtain⟨a,xs,e1,hq,hl,hw⟩:=hw;subst e1
 cases r;obtain⟨ab,rv,ht,hz⟩:=I.tuple hq;refine assign_Tuple_tuple (I.ok.hd hc) ht (by simp[hn,<-hl,rv.length]) aa λh' hx=>?_;have I1:Inv X pins σ H { s with heap:=h' }:=I.kept (t':=s.toks) λb o e=>hx b o (Q08 (Q02 e)) e;exact h pins _ σ H xs _ Q I1 (by simpa using rv) hw
def Dt (to ti:TE) (t:sy):TG:=λv σ H Q=>to σ H λo H1=>ti σ H1 λi H2=>t o i v H2 λH3=>Q σ H3
theorem Du(ho:PE X o to)(hi:PE X i ti)(hs:vV X t)
 (ha:∀v,assign (.Subscript o i pos) X.env v=(do
   let ov <-holding [v] (eval o X.env);let iv <-holding [v,ov] (eval i X.env)
   standAt pos
   holding [v,ov,iv] (setItem ov iv v)
   release [v,ov,iv] []):=by intro _;rfl):PG X (.Subscript o i pos) (Dt to ti t):=by
 intro pins s σ H v u Q I r h;rw[ha];refine Q00 (wpAny_holding (dg (ho pins s σ H _ I h) λov s1 zq=>?_));obtain⟨x,H1,I1,r1,q1⟩:=zq;refine Q00 (wpAny_holding (dg (hi pins s1 σ H1 _ I1 q1) λiv s2 zq=>?_));obtain⟨y,H2,I2,r2,q2⟩:=zq;refine Q00 (wpAny_standAt (Q00 (wpAny_holding (dg (hs pins s2 σ H2 x y v ov iv u _ I2 r1 r2 r q2) λ_ s3 ⟨H3,I3,q3⟩=>?_))));exact wpAny_release ⟨σ,H3,I3,q3⟩
def k8 (g:TG) (D:Ends) (σ:St):V->Hp->Prop:=λx H1=>g x σ H1 D.nx
def m4 (te:TE) (g:TG):TS:=λD σ H=>te σ H (k8 g D σ)
theorem sC(he:PE X e te)(hg:PG X tg g)(hs:swapsWithSole [tg] e pos.line X.env=pure false:=by rfl)(hw:swappedStores [tg] e X.env=pure none:=by rfl)
 (h1:(assignEach [tg] X.env).map (·.2)=[assign tg X.env]:=by rfl):PS X (.Assign [tg] e pos) (m4 te g):=by
 intro pins s σ H D I h;refine wpAny_Assign_stores (dg (he pins s σ H _ I h) λv s1 zq=>?_) hs hw;obtain⟨x,H1,I1,r1,q1⟩:=zq;rw[h1];exact dg (hg pins s1 σ H1 x v _ I1 r1 q1) λ_ s2 q=>q
theorem vY(hN:X.N.Nodup)(hi:X.N[i]? =some x)(hx:Loc X.env.scope x)(he:PE X e te)(hs:swapsWith e (some (.Name x pos')) pos.line X.env=pure false:=by rfl)(hf:X.fn x=true\/X.env.scope.names.lookup x=some .local:=by first|exact .inl rfl|exact .inr rfl|assumption):
 PS X (.Assign [.Name x pos'] e pos) (m4 te (eG i)):=by
 intro pins s σ H D I h;refine wpAny_Assign_Name (dg (he pins s σ H _ I h) λv s1 zq=>?_) hs;obtain⟨y,H1,I1,r1,q1⟩:=zq;exact qm I1 hN hi hx r1 (λs2 I2=>⟨_,H1,I2,q1⟩) hf
end
section
variable {X:Cx}{pos:Pos}
end
structure It where
 go:Nat->Hp->Prop
 iP:Nat->Hp->V->Hp->Prop
 stop:Nat->Hp->Prop
def gu (X:Cx) (pins:List (Addr × Obj)) (H:Hp) (b:Addr):Prop:=
 H b=none/\b≠X.env.locals/\b ∉ X.fs/\(b∈X.ex\/X.s₀.heap.objs.size<=b)/\(∀x c,X.env.cells.lookup x=some c->c≠b)/\∀p∈X.pn++pins,p.1≠b
theorem Inv.j8(I:Inv X pins σ H s)(hb:s.heap.objs.size<=b)(hn:H' b=none):gu X pins H' b:=by
 refine⟨hn,Q0v (Q0e I.lt hb),I.mY hb,.inr (Q0b I.sz hb),λx c e z=>?_,λp hp z=>?_⟩
 . obtain⟨v,q⟩:=I.cell x c e;exact absurd (Q0e q.lt (by rw[z];exact hb)) (Q0w _)
 . exact absurd (Q0e (Q02 (I.pin p hp).1) (by rw[z];exact hb)) (Q0w _)
structure Turn (P:Program) (w:World) (K:W.Frag) (tg:Expr) (J:It) (fp:List Addr) (it:Addr) (tn:Nat->Heap->Prop):Prop where
 mem:it∈fp
 obj:∀i h,tn i h->∀b∈fp,∃o,h.get? b=some o/\∀v,o.data≠ .cell v
 keep:∀i h h',tn i h->(∀b∈fp,∀o,h.get? b=some o->h'.get? b=some o)->tn i h'
 item:∀(X:Cx),X.prog=P->X.w=w->X.K=K->X.calm=true->∀(i:Nat) (pins:List (Addr × Obj)) (s:Shared) (σ:St) (H:Hp) (E:Value->Shared->Prop),Inv X pins σ H s->(∀b∈fp,gu X pins H b)->tn i s.heap->J.go i H->
  wpAny (model P w) X.A (pyNext (.ref it)) (λr s1=>∃u,r=some u/\
   wpAny (model P w) X.A (letOwnedTupleGo tg (.ref it) u) (λ_ s2=>∃x H',Inv X pins σ H' s2/\RelV x u/\J.iP i H x H'/\tn (i+1) s2.heap/\∀b∈fp,H' b=none) E s1) E s
 done:∀(X:Cx),X.prog=P->X.w=w->X.K=K->X.calm=true->∀(i:Nat) (pins:List (Addr × Obj)) (s:Shared) (σ:St) (H:Hp) (E:Value->Shared->Prop),Inv X pins σ H s->(∀b∈fp,gu X pins H b)->tn i s.heap->J.stop i H->
  wpAny (model P w) X.A (pyNext (.ref it)) (λr s1=>r=none/\Inv X pins σ H s1) E s
 self:∀(A:Around) (i:Nat) (s:Shared) (Q:Value->Shared->Prop) (E:Value->Shared->Prop),tn i s.heap->Q (.ref it) s->wpAny (model P w) A (pyIter (.ref it)) Q E s
noncomputable abbrev TI:=St->Hp->(It->Hp->Prop)->Prop
def PIE (X:Cx) (pins:List (Addr × Obj)) (σ:St) (tg:Expr) (R:It->Hp->Prop) (aa:Value) (s2:Shared):Prop:=
 ∃(it:Addr) (fp:List Addr) (tn:Nat->Heap->Prop) (J:It) (H':Hp),aa=.ref it/\Inv X pins σ H' s2/\Turn X.prog X.w X.K tg J fp it tn/\tn 0 s2.heap/\(∀b∈fp,gu X pins H' b)/\R J H'
def PI (X:Cx) (tg iter:Expr) (wi:TI):Prop:=
 ∀(pins:List (Addr × Obj)) (s:Shared) (σ:St) (H:Hp) (R:It->Hp->Prop),Inv X pins σ H s->wi σ H R->
  wpAny (model X.prog X.w) X.A (eval iter X.env) (λv s1=>wpAny (model X.prog X.w) X.A (pyIter v) (PIE X pins σ tg R) X.xe s1) X.xe s
theorem oK(ho:s.heap.get? it=some o)(hc:o.cls=.type n)(hd:o.data=.fields vs)
 (hn:["enumerate","zip","dict_itemiterator","dict_reverseitemiterator","odict_iterator","itertools.zip_longest","itertools.pairwise"].contains n=false) (hQ:Q () s):wpAny M A (letOwnedTupleGo tg (.ref it) u) Q E s:=by
 unfold letOwnedTupleGo
 cases tg <;> first
  |exact Q0a hQ
  |(cases u <;> first
     |exact Q0a hQ
     |(refine Q00 (wpAny_load ho ?_)
       rw[hc,hd];show wpAny M A (if(["enumerate","zip","dict_itemiterator","dict_reverseitemiterator","odict_iterator","itertools.zip_longest","itertools.pairwise"].contains n && vs[0]? == some (rawInt _))=true then _ else _) Q E s;rw[if_neg (by intro h;rw[hn,Bool.false_and] at h;cases h)];exact Q0a hQ))
noncomputable def lW (K:W.Frag) (a:Addr):It:=
 ⟨λi H=>∃xs x,cM K H a xs/\xs[i]? =some x,λi H x H'=>H'=H/\∀xs,cM K H a xs->xs[i]? =some x,λi H=>∃xs,cM K H a xs/\xs.length<=i⟩
noncomputable def j9 (K:W.Frag) (a:Addr):It:=
 ⟨λi H=>∃xs x,cJ K H a xs/\xs[i]? =some x,λi H x H'=>H'=H/\∀xs,cJ K H a xs->xs[i]? =some x,λi H=>∃xs,cJ K H a xs/\xs.length<=i⟩
noncomputable def lX (lo:Int) (n:Nat):It:=⟨λi _=>i<n,λi H x H'=>H'=H/\x=.int (lo+i),λi _=>n<=i⟩
theorem Dv {P:Program}{w:World}{K:W.Frag}{tg:Expr}(a it:Addr):Turn P w K tg (lW K a) [it] it (λi h=>h.IsListIter it a i) where
 mem:=by simp
 obj:=λi h st b hb=>by
  have e:b=it:=by simpa using hb
  subst e;obtain⟨o,e,c,d⟩:=st;exact⟨o,e,λv z=>by rw[d] at z;cases z⟩
 keep:=λi h h' st k=>st.at λo e=>k it (by simp) o e
 item:=by
  intro X hP hw hK hc i pins s σ H E I hf st hg;subst hP hw hK;obtain⟨xs,x,hq,hx⟩:=hg;obtain⟨ab,rv,p,hz⟩:=I.list hq;obtain⟨u,hu,ru⟩:=rv.get hx;obtain⟨f0,f1,f2,f3,f4,f5⟩:=hf it (by simp);refine wpAny_pyNext_list_item st p.isList (x:=u) (by simpa using hu) λh' aa sb=>?_;have I1:Inv X pins σ H { s with heap:=h' }:=I.turned (t':=s.toks) (λb o hb e=>(sb.2 b hb).trans e) f0 f1 f3 f4 f5;obtain⟨o,e,c,d⟩:=id aa;exact⟨u,rfl,oK (s:={ s with heap:=h' }) e c d (by decide) ⟨x,H,I1,ru,⟨rfl,λys hy=>by rw[I.qr hy hq];exact hx⟩,aa,λb hb=>(hf b hb).1⟩⟩
 done:=by
  intro X hP hw hK hc i pins s σ H E I hf st hg;subst hP hw hK;obtain⟨xs,hq,hx⟩:=hg;obtain⟨ab,rv,p,hz⟩:=I.list hq;obtain⟨f0,f1,f2,f3,f4,f5⟩:=hf it (by simp);have hl:=rv.length;exact wpAny_pyNext_list_end (I.ok.hd hc) st p.isList (by simp;omega) λh' eb=>⟨rfl,I.turned (t':=s.toks) (λb o hb e=>eb b o hb e) f0 f1 f3 f4 f5⟩
 self:=λ_ _ _ _ _ st h=>wpAny_pyIter_listiter st h
theorem Dw {P:Program}{w:World}{K:W.Frag}{tg:Expr}(a it:Addr):Turn P w K tg (j9 K a) [it] it (λi h=>h.IsTupleIter it a i) where
 mem:=by simp
 obj:=λi h st b hb=>by
  have e:b=it:=by simpa using hb
  subst e;obtain⟨o,e,c,d⟩:=st;exact⟨o,e,λv z=>by rw[d] at z;cases z⟩
 keep:=λi h h' st k=>st.at λo e=>k it (by simp) o e
 item:=by
  intro X hP hw hK hc i pins s σ H E I hf st hg;subst hP hw hK;obtain⟨xs,x,hq,hx⟩:=hg;obtain⟨aa,rv,p,hz⟩:=I.tuple hq;obtain⟨u,hu,ru⟩:=rv.get hx;obtain⟨f0,f1,f2,f3,f4,f5⟩:=hf it (by simp);refine wpAny_pyNext_tuple_item st (show s.heap.IsTuple a aa.toArray from p) (x:=u) (by simpa using hu) λh' ab sb=>?_;have I1:Inv X pins σ H { s with heap:=h' }:=I.turned (t':=s.toks) (λb o hb e=>(sb.2 b hb).trans e) f0 f1 f3 f4 f5;obtain⟨o,e,c,d⟩:=id ab;exact⟨u,rfl,oK (s:={ s with heap:=h' }) e c d (by decide) ⟨x,H,I1,ru,⟨rfl,λys hy=>by rw[I.Dp hy hq];exact hx⟩,ab,λb hb=>(hf b hb).1⟩⟩
 done:=by
  intro X hP hw hK hc i pins s σ H E I hf st hg;subst hP hw hK;obtain⟨xs,hq,hx⟩:=hg;obtain⟨aa,rv,p,hz⟩:=I.tuple hq;obtain⟨f0,f1,f2,f3,f4,f5⟩:=hf it (by simp);have hl:=rv.length;exact wpAny_pyNext_tuple_end (I.ok.hd hc) st (show s.heap.IsTuple a aa.toArray from p) (by simp;omega) λh' eb=>⟨rfl,I.turned (t':=s.toks) (λb o hb e=>eb b o hb e) f0 f1 f3 f4 f5⟩
 self:=λ_ _ _ _ _ st h=>wpAny_pyIter_tupleiter st h
theorem Dx {P:Program}{w:World}{K:PySem.W.Frag}{tg:Expr}(it:Addr)(lo:Int)(n:Nat):Turn P w K tg (lX lo n) [it] it (λi h=>IsRangeIter h it (lo+(i:Nat) * 1) ((n:Int) - (i:Nat)) 1) where
 mem:=by simp
 obj:=λi h st b hb=>by
  have e:b=it:=by simpa using hb
  subst e
  exact⟨_,st,λv z=>by
   have z':Data.fields _=Data.cell v:=z
   cases z'⟩
 keep:=λi h h' st k=>k it (by simp) _ st
 item:=by
  intro X hP hw hK hc i pins s σ H E I hf st hg;subst hP hw hK;obtain⟨f0,f1,f2,f3,f4,f5⟩:=hf it (by simp);have W:=Walks.range (prog:=X.prog) (w:=X.w) (I.ok.hd hc) it lo 1 n;refine W.item i s _ _ hg st λv h' tk hv aa kk=>?_;obtain⟨t,rfl⟩:=hv;have I1:Inv X pins σ H { s with heap:=h',toks:=tk }:=I.turned (λb o hb e=>kk b o (by simpa using hb) e) f0 f1 f3 f4 f5;refine⟨_,rfl,oK (s:={ s with heap:=h',toks:=tk }) (n:="range_iterator") aa rfl rfl (by decide) ⟨.int (lo+i),H,I1,⟨t,?_⟩,⟨rfl,rfl⟩,aa,λb hb=>(hf b hb).1⟩⟩;rw[Int.mul_one]
 done:=by
  intro X hP hw hK hc i pins s σ H E I hf st hg;subst hP hw hK;obtain⟨f0,f1,f2,f3,f4,f5⟩:=hf it (by simp);exact wpAny_pyNext_range_end (I.ok.hd hc) st (by have:n<=i:=hg;omega) λh' eb=>⟨rfl,I.turned (t':=s.toks) (λb o hb e=>eb b o hb e) f0 f1 f3 f4 f5⟩
 self:=λ_ _ _ _ _ st h=>wpAny_pyIter_rangeiter st h
section
variable {X:Cx}{tg:Expr}
inductive vZ (K:W.Frag) (R:It->Hp->Prop) (x:V) (H1:Hp):Prop
 |mk (a:_) (h0:x=.ref a) (h1:(∃xs,cM K H1 a xs)) (h2:R (lW K a) H1):vZ K R x H1
def Dy (K:W.Frag) (tl:TE):TI:=λσ H R=>tl σ H (vZ K R)
inductive v5 (K:W.Frag) (R:It->Hp->Prop) (x:V) (H1:Hp):Prop
 |mk (a:_) (h0:x=.ref a) (h1:(∃xs,cJ K H1 a xs)) (h2:R (j9 K a) H1):v5 K R x H1
def DA (K:W.Frag) (tl:TE):TI:=λσ H R=>tl σ H (v5 K R)
theorem k9(hl:PE X l tl):PI X tg l (Dy X.K tl):=by
 intro pins s σ H R I h;refine dg (hl pins s σ H _ I h) λv s1 zq=>?_;obtain⟨x,H1,I1,r1,q1⟩:=zq;obtain⟨a,e,⟨xs,hq⟩,q⟩:=q1;subst e
 cases r1;obtain⟨aa,rv,p,hz⟩:=I1.list hq;refine wpAny_pyIter_list p.isList ?_;refine⟨s1.heap.objs.size,[s1.heap.objs.size],_,_,H1,rfl,I1.kept (t':=s1.toks) λb o e=>Q06 _ e,Dv a _,⟨_,Q0i _ rfl,rfl,rfl⟩,λb hb=>?_,q⟩;have e:b=s1.heap.objs.size:=by simpa using hb
 subst e;exact I1.j8 (Q0 _) (I1.hok.fresh (Q0 _))
theorem gR(hl:PE X l tl):PI X tg l (DA X.K tl):=by
 intro pins s σ H R I h;refine dg (hl pins s σ H _ I h) λv s1 zq=>?_;obtain⟨x,H1,I1,r1,q1⟩:=zq;obtain⟨a,e,⟨xs,hq⟩,q⟩:=q1;subst e
 cases r1;obtain⟨aa,rv,p,hz⟩:=I1.tuple hq;refine wpAny_pyIter_tuple (show s1.heap.IsTuple a aa.toArray from p) ?_;refine⟨s1.heap.objs.size,[s1.heap.objs.size],_,_,H1,rfl,I1.kept (t':=s1.toks) λb o e=>Q06 _ e,Dw a _,⟨_,Q0i _ rfl,rfl,rfl⟩,λb hb=>?_,q⟩;have e:b=s1.heap.objs.size:=by simpa using hb
 subst e;exact I1.j8 (Q0 _) (I1.hok.fresh (Q0 _))
theorem v7 {pins:List (Addr × Obj)}{σ:St}{H:Hp}{s:Shared}{R:It->Hp->Prop}{E:Value->Shared->Prop}{lo hi:Int}{t u v:Tok}(I:Inv X pins σ H s)(h1: -(2 ^ 62)<=lo)(h2:lo<2 ^ 62)(h3: -(2 ^ 62)<=hi)(h4:hi<2 ^ 62)
 (q:R (lX lo (hi - lo).toNat) H):wpAny (model X.prog X.w) X.A (pyIter (.ref s.heap.objs.size)) (PIE X pins σ tg R) E { s with heap:=s.heap.push { cls:=.type "range",data:=.fields #[.int lo t,.int hi u,.int 1 v] },toks:=tk }:=by
 refine wpAny_pyIter_range (IsRange.new ..) (small_one h1 h2 h3 h4) ?_;have I1:Inv X pins σ H { s with heap:=s.heap.push { cls:=.type "range",data:=.fields #[.int lo t,.int hi u,.int 1 v] },toks:=tk }:=I.kept λb o e=>Q06 _ e
 refine⟨(s.heap.push { cls:=.type "range",data:=.fields #[.int lo t,.int hi u,.int 1 v] }).objs.size,[(s.heap.push { cls:=.type "range",data:=.fields #[.int lo t,.int hi u,.int 1 v] }).objs.size],_,_,H,rfl,
  I1.kept (t':=tk) λb o e=>Q06 _ e,Dx _ lo (hi - lo).toNat,?_,λb hb=>?_,q⟩
 . have e1:lo+((0:Nat):Int) * 1=lo:=by simp
   have e2:(((hi - lo).toNat:Nat):Int) - ((0:Nat):Int)=Builtin.Range.rangeSize lo hi 1:=by rw[rangeSize_one];split <;> omega
   show IsRangeIter _ _ (lo+((0:Nat):Int) * 1) ((((hi - lo).toNat:Nat):Int) - ((0:Nat):Int)) 1;rw[e1,e2];exact Q0i _ rfl
 . have e:b=(s.heap.push { cls:=.type "range",data:=.fields #[.int lo t,.int hi u,.int 1 v] }).objs.size:=by simpa using hb
   subst e;exact I1.j8 (Q0 _) (I1.hok.fresh (Q0 _))
inductive v8 (R:It->Hp->Prop) (vs:List V) (H1:Hp):Prop
 |mk (j:Int) (h0:vs=[.int j]) (h1: -(2 ^ 62)<=j) (h2:j<2 ^ 62) (h3:R (lX 0 j.toNat) H1):v8 R vs H1
def DB (ta:TA):TI:=λσ H R=>ta σ H (v8 R)
inductive v9 (R:It->Hp->Prop) (vs:List V) (H1:Hp):Prop
 |mk (i:Int) (j:Int) (h0:vs=[.int i,.int j]) (h1:(-(2 ^ 62)<=i/\i<2 ^ 62/\ -(2 ^ 62)<=j/\j<2 ^ 62)) (h2:R (lX i (j - i).toNat) H1):v9 R vs H1
def DC (ta:TA):TI:=λσ H R=>ta σ H (v9 R)
theorem k_(hg:Gl X "range")(hm:X.mg "range"=none)(ha:PA X [a] ta)(hs:starEach [a] X.env=[(false,eval a X.env)]:=by rfl):PI X tg (.Call (.Name "range" p) [a] [] pos) (DB ta):=by
 intro pins s σ H R I h;refine Call_ (jD I hg hm boot_range (PyProof.Rows.callWith_type1 (dg (ha pos pins s σ H _ I h) λus s1 zq=>?_) hs rfl));obtain⟨vs,H1,I1,r1,q1⟩:=zq;obtain⟨j,e,q1,q2,q⟩:=q1;subst e
 cases r1 with
 |cons r rr=>
  cases rr;obtain⟨t,rfl⟩:=r;exact call_range_1 (v7 I1 (by omega) (by omega) q1 q2 (by simpa using q))
theorem DE(hg:Gl X "range")(hm:X.mg "range"=none)(ha:PA X [a,b] ta)(hs:starEach [a,b] X.env=[(false,eval a X.env),(false,eval b X.env)]:=by rfl)(aa:starEach [b] X.env=[(false,eval b X.env)]:=by rfl):
 PI X tg (.Call (.Name "range" p) [a,b] [] pos) (DC ta):=by
 intro pins s σ H R I h;refine Call_ (jD I hg hm boot_range (PyProof.Rows.callWith_type1 (dg (ha pos pins s σ H _ I h) λus s1 zq=>?_) (by rw[hs,aa]) (by rw[aa];rfl)));obtain⟨vs,H1,I1,r1,q1⟩:=zq;obtain⟨i,j,e,⟨q1,q2,q3,q4⟩,q⟩:=q1;subst e
 cases r1 with
 |cons r rr=>
  cases rr with
  |cons r' rr=>
   cases rr;obtain⟨t,rfl⟩:=r;obtain⟨t',rfl⟩:=r';exact call_range_2 (v7 I1 q1 q2 q3 q4 q)
def DF (wi:TI) (g:TG) (tb:TS):TS:=λD σ H=>wi σ H λJ H1=>∃W:Nat->Nat->St->Hp->Prop,(∃m,W 0 m σ H1)/\∀i m σ H,W i m σ H->
 (J.stop i H/\D.nx σ H)\/(J.go i H/\∃N:St->Hp->Prop,(∀aa H',N aa H'->∃m',m'<m/\W (i+1) m' aa H')/\∀x H',J.iP i H x H'->g x σ H' λab H2=>tb { D with nx:=N,ct:=N,bk:=D.nx } ab H2)
noncomputable def qw (fp:List Addr) (h:Heap):List (Addr × Obj):=fp.filterMap λb=>(h.get? b).map λo=>(b,o)
theorem oM(hb:b∈fp)(e:h.get? b=some o):(b,o)∈qw fp h:=List.mem_filterMap.mpr ⟨b,hb,by rw[e];rfl⟩
theorem DG(hp:p∈qw fp h):p.1∈fp/\h.get? p.1=some p.2:=by
 obtain⟨b,hb,e⟩:=List.mem_filterMap.mp hp
 cases q:h.get? b with
 |none=>rw[q] at e;cases e
 |some o=>
  rw[q] at e;have e':(b,o)=p:=Option.some.inj e;subst e';exact⟨hb,q⟩
theorem Inv.pinned(I:Inv X pins σ H s)(hf:∀b∈fp,gu X pins H b)(ho:∀b∈fp,∃o,s.heap.get? b=some o/\∀v,o.data≠ .cell v):Inv X (pins++qw fp s.heap) σ H s:=
 I.lU λp hp=>(List.mem_append.mp hp).elim (λz=>I.pin p (Q07 _ z)) λz=>by
   obtain⟨hb,e⟩:=DG z;obtain⟨f0,f1,f2,_⟩:=hf p.1 hb;obtain⟨o,e',d⟩:=ho p.1 hb;rw[e] at e';cases e';exact⟨e,f0,f1,f2,d⟩
theorem Inv.j_(I:Inv X (pins++pl) σ H s):Inv X pins σ H s:=I.lU λp hp=>I.pin p (Q07 _ (Q0o _ hp))
theorem fR(hp:PassesOwn (model X.prog X.w) X.A X.env X.xe)(hc:X.calm=true)(hi:PI X tg iter wi)(hg:PG X tg g)(hb:g9 X body tb)
 (hs:∀x,foldedSetIterable iter X.env x=pure x:=by intro _;rfl):PS X (.For tg iter body [] pos) (DF wi g tb):=by
 intro pins s σ H D I h;refine wpAny_For (dg (hi pins s σ H _ I h) λv s1 h1=>dg h1 λar s2 h2=>?_) hs;obtain⟨it,fp,tn,J,H2,e,I2,T,aj,f2,W,⟨m0,w0⟩,turn⟩:=h2;subst e;have af:∀{H':Hp},(∀b∈fp,H' b=none)->∀b∈fp,gu X pins H' b:=λhn b hb=>⟨hn b hb,(f2 b hb).2⟩;refine codeAny_forLoop_any (λn s'=>∃i ab H',Inv X pins ab H' s'/\tn i s'.heap/\(∀b∈fp,H' b=none)/\W i n ab H') ?_ m0 ⟨0,σ,H2,I2,aj,λb hb=>(f2 b hb).1,w0⟩;intro n s3 zq;obtain⟨i,ae,H3,I3,ah,ai,w3⟩:=zq;rcases turn i n ae H3 w3 with⟨stop,qn⟩|⟨go,N,hN,step⟩
 . refine wpAny_passesOwn hp (dg (T.done X rfl rfl rfl hc i pins s3 ae H3 X.xe I3 (af ai) ah stop) λr s4 ⟨hr,I4⟩=>?_);subst hr;exact wpAny_execs_nil ⟨ae,H3,I4,qn⟩
 . refine wpAny_passesOwn hp (dg (T.item X rfl rfl rfl hc i pins s3 ae H3 X.xe I3 (af ai) ah go) λr s4 ⟨u,hr,h4⟩=>?_);subst hr;refine wpAny_passesOwn hp (dg h4 λ_ s5 zq=>?_);obtain⟨x,H5,I5,r5,y5,ag,ak⟩:=zq;have ao:=I5.pinned (af ak) (T.obj _ _ ag);refine wpAny_passesOwn hp (dg (hg _ s5 ae H5 x u _ ao r5 (step x H5 y5)) λ_ s6 zq=>?_);obtain⟨aq,H6,I6,q6⟩:=zq;refine wpAny_passesOwn hp (dg (hb _ s6 aq H6 _ I6 q6) λf s7 q7=>?_)
   have again:∀{aa:St} {H7:Hp},Inv X (pins++qw fp s5.heap) aa H7 s7->N aa H7->∃m,m<n/\∃i ab H',Inv X pins ab H' s7/\tn i s7.heap/\(∀b∈fp,H' b=none)/\W i m ab H':=λ{aa H7} I7 n7=>by
    obtain⟨m',hm,w7⟩:=hN aa H7 n7;refine⟨m',hm,i+1,aa,H7,I7.j_,T.keep _ _ _ ag λb hb o e=>(I7.pin (b,o) (Q07 _ (Q07 _ (oM hb e)))).1,λb hb=>?_,w7⟩;obtain⟨o,e,d⟩:=T.obj _ _ ag b hb;exact(I7.pin (b,o) (Q07 _ (Q07 _ (oM hb e)))).2.1
   cases f with
   |next=>obtain⟨aa,H7,I7,n7⟩:=q7;exact again I7 n7
   |cont=>obtain⟨aa,H7,I7,n7⟩:=q7;exact again I7 n7
   |brk=>obtain⟨aa,H7,I7,q7⟩:=q7;exact⟨aa,H7,I7.j_,q7⟩
   |ret v=>obtain⟨x7,aa,H7,I7,r7,q7⟩:=q7;exact⟨x7,aa,H7,I7.j_,r7,q7⟩
end
theorem sE {K:PySem.W.Frag}{a:Addr}{xs:List V}{g:TG}{tb:TS}{D:Ends}{σ:St}(Pv:Nat->St->Hp->Prop)(h0:Pv 0 σ H)(hl:∀i σ H,i<=xs.length->Pv i σ H->cM K H a xs)
 (hs:∀i x σ H,xs[i]? =some x->Pv i σ H->g x σ H λaa H2=>tb { D with nx:=Pv (i+1),ct:=Pv (i+1),bk:=D.nx } aa H2) (hd:∀σ H,Pv xs.length σ H->D.nx σ H):
 ∃W:Nat->Nat->St->Hp->Prop,(∃m,W 0 m σ H)/\∀i m σ H,W i m σ H->
  ((lW K a).stop i H/\D.nx σ H)\/((lW K a).go i H/\∃N:St->Hp->Prop,(∀ab H',N ab H'->∃m',m'<m/\W (i+1) m' ab H')/\∀x H',(lW K a).iP i H x H'->g x σ H' λaa H2=>tb { D with nx:=N,ct:=N,bk:=D.nx } aa H2):=by
 refine⟨λi m σ H=>m=xs.length - i/\i<=xs.length/\Pv i σ H,⟨xs.length,by simp,Q0c _,h0⟩,?_⟩;rintro i m σ H ⟨rfl,hi,p⟩;have q:=hl i σ H hi p;by_cases ae:i<xs.length
 . refine .inr ⟨⟨xs,xs[i],q,by simp[ae]⟩,Pv (i+1),λab H' p'=>⟨xs.length - (i+1),by omega,rfl,ae,p'⟩,λx H' y=>?_⟩;obtain⟨e,y⟩:=y;subst e;exact hs i x σ _ (y xs q) p
 . have e:i=xs.length:=by omega
   subst e;exact .inl ⟨⟨xs,q,Q0 _⟩,hd σ H p⟩
theorem lY {K:PySem.W.Frag}{a:Addr}{xs:List V}{g:TG}{tb:TS}{D:Ends}{σ:St}(Pv:Nat->St->Hp->Prop)(h0:Pv 0 σ H)(hl:∀i σ H,i<=xs.length->Pv i σ H->cJ K H a xs)
 (hs:∀i x σ H,xs[i]? =some x->Pv i σ H->g x σ H λaa H2=>tb { D with nx:=Pv (i+1),ct:=Pv (i+1),bk:=D.nx } aa H2) (hd:∀σ H,Pv xs.length σ H->D.nx σ H):
 ∃W:Nat->Nat->St->Hp->Prop,(∃m,W 0 m σ H)/\∀i m σ H,W i m σ H->
  ((j9 K a).stop i H/\D.nx σ H)\/((j9 K a).go i H/\∃N:St->Hp->Prop,(∀ab H',N ab H'->∃m',m'<m/\W (i+1) m' ab H')/\∀x H',(j9 K a).iP i H x H'->g x σ H' λaa H2=>tb { D with nx:=N,ct:=N,bk:=D.nx } aa H2):=by
 refine⟨λi m σ H=>m=xs.length - i/\i<=xs.length/\Pv i σ H,⟨xs.length,by simp,Q0c _,h0⟩,?_⟩;rintro i m σ H ⟨rfl,hi,p⟩;have q:=hl i σ H hi p;by_cases ae:i<xs.length
 . refine .inr ⟨⟨xs,xs[i],q,by simp[ae]⟩,Pv (i+1),λab H' p'=>⟨xs.length - (i+1),by omega,rfl,ae,p'⟩,λx H' y=>?_⟩;obtain⟨e,y⟩:=y;subst e;exact hs i x σ _ (y xs q) p
 . have e:i=xs.length:=by omega
   subst e;exact .inl ⟨⟨xs,q,Q0 _⟩,hd σ H p⟩
theorem ka {lo:Int}{n:Nat}{g:TG}{tb:TS}{D:Ends}{σ:St}(Pv:Nat->St->Hp->Prop)(h0:Pv 0 σ H)
 (hs:∀i σ H,i<n->Pv i σ H->g (.int (lo+i)) σ H λaa H2=>tb { D with nx:=Pv (i+1),ct:=Pv (i+1),bk:=D.nx } aa H2) (hd:∀σ H,Pv n σ H->D.nx σ H):
 ∃W:Nat->Nat->St->Hp->Prop,(∃m,W 0 m σ H)/\∀i m σ H,W i m σ H->
  ((lX lo n).stop i H/\D.nx σ H)\/((lX lo n).go i H/\∃N:St->Hp->Prop,(∀ab H',N ab H'->∃m',m'<m/\W (i+1) m' ab H')/\∀x H',(lX lo n).iP i H x H'->g x σ H' λaa H2=>tb { D with nx:=N,ct:=N,bk:=D.nx } aa H2):=by
 refine⟨λi m σ H=>m=n - i/\i<=n/\Pv i σ H,⟨n,by simp,Q0c _,h0⟩,?_⟩;rintro i m σ H ⟨rfl,hi,p⟩;by_cases ae:i<n
 . refine .inr ⟨ae,Pv (i+1),λab H' p'=>⟨n - (i+1),by omega,rfl,ae,p'⟩,λx H' y=>?_⟩;obtain⟨e,y⟩:=y;subst e y;exact hs i σ _ ae p
 . have e:i=n:=by omega
   subst e;exact .inl ⟨Q0 _,hd σ H p⟩
noncomputable abbrev R2:=V->V->Hp->VK->Prop
def fw (X:Cx) (f:Value->Value->Sem Value) (r:R2):Prop:=
 ∀(pins:List (Addr × Obj)) (s:Shared) (σ:St) (H:Hp) (x y:V) (v u:Value) (Q:VK),Inv X pins σ H s->RelV x v->RelV y u->r x y H Q->
  wpAny (model X.prog X.w) X.A (f v u) (EP X pins σ Q) X.xe s
def sG (X:Cx) (f:Value->Sem Value) (r:V->Hp->VK->Prop):Prop:=
 ∀(pins:List (Addr × Obj)) (s:Shared) (σ:St) (H:Hp) (x:V) (v:Value) (Q:VK),Inv X pins σ H s->RelV x v->r x H Q->
  wpAny (model X.prog X.w) X.A (f v) (EP X pins σ Q) X.xe s
def iq (X:Cx) (f:Value) (r:List V->Hp->VK->Prop):Prop:=
 ∀(pins:List (Addr × Obj)) (s:Shared) (σ:St) (H:Hp) (xs:List V) (us:List Value) (Q:VK),Inv X pins σ H s->Vals xs us->r xs H Q->
  wpAny (model X.prog X.w) X.A (call f us) (EP X pins σ Q) X.xe s
def v_ (r:R2) (Q:V->Hp->Prop) (x:V):V->Hp->Prop:=λy H2=>r x y H2 Q
def DH (r:R2) (tb:TE) (σ:St) (Q:V->Hp->Prop):V->Hp->Prop:=λx H1=>tb σ H1 (v_ r Q x)
def d6 (r:R2) (ta tb:TE):TE:=λσ H Q=>ta σ H (DH r tb σ Q)
def DJ (r:V->Hp->VK->Prop) (Q:V->Hp->Prop):V->Hp->Prop:=λx H1=>r x H1 Q
def DK (r:V->Hp->VK->Prop) (ta:TE):TE:=λσ H Q=>ta σ H (DJ r Q)
inductive wc (C:Int->Int->Prop) (g:Int->Int->V) (x:V) (y:V) (H:Hp) (Q:V->Hp->Prop):Prop
 |mk (i:_) (j:_) (h0:x=.int i) (h1:y=.int j) (h2:C i j) (h3:Q (g i j) H):wc C g x y H Q
def rI (C:Int->Int->Prop) (g:Int->Int->V):R2:=λx y H Q=>wc C g x y H Q
inductive we (g:Int->Int->V) (x:V) (y:V) (H:Hp) (Q:V->Hp->Prop):Prop
 |mk (i:_) (j:_) (h0:x=.int i) (h1:y=.int j) (h2:Q (g i j) H):we g x y H Q
def lZ (g:Int->Int->V):R2:=λx y H Q=>we g x y H Q
inductive wg (g:Int->V) (x:V) (H:Hp) (Q:V->Hp->Prop):Prop
 |mk (i:_) (h0:x=.int i) (h1:Q (g i) H):wg g x H Q
def rU (g:Int->V):V->Hp->VK->Prop:=λx H Q=>wg g x H Q
section
variable {X:Cx}{a b c:Expr}{ta tb tc:TE}{pos:Pos}
theorem sH (ha:PE X a ta)(hb:PE X b tb){R:V->V->Hp->Prop}(I:Inv X pins σ H s)
 (h:ta σ H λx H1=>tb σ H1 λy H2=>R x y H2) {Q:Value->Shared->Prop} {f:Value->Value->Sem Value}
 (hf:∀v u s2 x y H2,Inv X pins σ H2 s2->RelV x v->RelV y u->R x y H2->wpAny (model X.prog X.w) X.A (f v u) Q X.xe s2):
 wpAny (model X.prog X.w) X.A (eval a X.env) (λv aa=>wpAny (model X.prog X.w) X.A (eval b X.env) (λu ab=>wpAny (model X.prog X.w) X.A (f v u) Q X.xe ab) X.xe aa) X.xe s:=by
 refine dg (ha pins s σ H _ I h) λv s1 zq=>?_;obtain⟨x,H1,I1,r1,q1⟩:=zq;refine dg (hb pins s1 σ H1 _ I1 q1) λu s2 zq=>?_;obtain⟨y,H2,I2,r2,q2⟩:=zq;exact hf v u s2 x y H2 I2 r1 r2 q2
theorem cU(ho:fw X (binaryOp op) r)(ha:PE X a ta)(hb:PE X b tb):PE X (.BinOp a op b pos) (d6 r ta tb):=by
 intro pins s σ H Q I h;exact wpAny_BinOp (sH ha hb I h λv u s2 x y H2 I2 rx ry q=>ho pins s2 σ H2 x y v u Q I2 rx ry q)
theorem oN(ho:sG X (unaryOp op) r)(ha:PE X a ta):PE X (.UnaryOp op a pos) (DK r ta):=by
 intro pins s σ H Q I h;exact UnaryOp_ (dg (ha pins s σ H _ I h) λv s1 ⟨x,H1,I1,r1,q1⟩=>ho pins s1 σ H1 x v Q I1 r1 q1)
theorem qx {f:Value->Value->Sem Value}{C:Int->Int->Prop}{g:Int->Int->Int}
 (rule:∀(i j:Int) (t u:Tok) (s:Shared) (Q:Value->Shared->Prop) (E:Value->Shared->Prop),C i j->Q (.int (g i j) s.toks) { s with toks:=s.toks+1 }->wpAny (model X.prog X.w) X.A (f (.int i t) (.int j u)) Q E s):
 fw X f (rI C λi j=>.int (g i j)):=by
 intro pins s σ H x y v u Q I rx ry h;obtain⟨i,j,rfl,rfl,hc,q⟩:=h;obtain⟨t,rfl⟩:=rx;obtain⟨t',rfl⟩:=ry;exact rule i j t t' s _ _ hc ⟨.int (g i j),H,I.tok _,⟨_,rfl⟩,q⟩
theorem wj {f:Value->Value->Sem Value}{g:Int->Int->Int}
 (rule:∀(i j:Int) (t u:Tok) (s:Shared) (Q:Value->Shared->Prop) (E:Value->Shared->Prop),Q (.int (g i j) s.toks) { s with toks:=s.toks+1 }->wpAny (model X.prog X.w) X.A (f (.int i t) (.int j u)) Q E s):
 fw X f (lZ λi j=>.int (g i j)):=by
 intro pins s σ H x y v u Q I rx ry h;obtain⟨i,j,rfl,rfl,q⟩:=h;obtain⟨t,rfl⟩:=rx;obtain⟨t',rfl⟩:=ry;exact rule i j t t' s _ _ ⟨.int (g i j),H,I.tok _,⟨_,rfl⟩,q⟩
theorem sI {f:Value->Value->Sem Value}{g:Int->Int->Bool}
 (rule:∀(i j:Int) (t u:Tok) (s:Shared) (Q:Value->Shared->Prop) (E:Value->Shared->Prop),Q (.bool (g i j)) s->wpAny (model X.prog X.w) X.A (f (.int i t) (.int j u)) Q E s):
 fw X f (lZ λi j=>.bl (g i j)):=by
 intro pins s σ H x y v u Q I rx ry h;obtain⟨i,j,rfl,rfl,q⟩:=h;obtain⟨t,rfl⟩:=rx;obtain⟨t',rfl⟩:=ry;exact rule i j t t' s _ _ ⟨.bl (g i j),H,I,rfl,q⟩
def DL (i j:Int):Prop:=0<j/\j<1073741824
def sJ (i j:Int):Prop:=0<=j/\j<=1000000/\i.natAbs<2 ^ 64
def sL (i j:Int):Prop:=(-(2 ^ 64)<i/\i<2 ^ 64)\/(-(2 ^ 64)<j/\j<2 ^ 64)
theorem sL.ok(h:sL i j):IntMulOk i j:=by
 rcases h with⟨h1,h2⟩|⟨h1,h2⟩
 . exact .of_left (intBits_le_64 h1 h2)
 . exact .of_right (intBits_le_64 h1 h2)
theorem gT:fw X (binaryOp .Add) (lZ λi j=>.int (i+j)):=wj λ_ _ _ _ _ _ _ q=>add_int q
theorem ji:fw X (binaryOp .Sub) (lZ λi j=>.int (i - j)):=wj λ_ _ _ _ _ _ _ q=>sub_int q
theorem ke:fw X (binaryOp .Mult) (rI sL λi j=>.int (i * j)):=qx λ_ _ _ _ _ _ _ hc q=>mul_int q hc.ok
theorem eZ:fw X (binaryOp .FloorDiv) (rI DL λi j=>.int (i / j)):=qx λi j _ _ _ _ _ hc q=>by
 have h1:(0:Int)<j:=hc.1;have h2:j<1073741824:=hc.2;exact floordiv_int (by omega) (by rw[Int.fdiv_eq_ediv_of_nonneg i (by omega)];exact q) (.inl (PyProof.noPylong_small (by omega)))
theorem dH:fw X (binaryOp .Mod) (rI (λ_ j=>0<j) λi j=>.int (i % j)):=qx λi j _ _ _ _ _ hc q=>by
 have h1:(0:Int)<j:=hc;exact mod_int' (by omega) (by rw[Int.fmod_eq_emod_of_nonneg i (by omega)];exact q)
theorem qz:fw X (binaryOp .Pow) (rI sJ λi j=>.int (i ^ j.toNat)):=qx λ_ _ _ _ _ _ _ hc q=>pow_int_small hc.1 hc.2.1 hc.2.2 q
theorem DM {f:Value->Sem Value}{g:Int->Int}
 (rule:∀(i:Int) (t:Tok) (s:Shared) (Q:Value->Shared->Prop) (E:Value->Shared->Prop),Q (.int (g i) s.toks) { s with toks:=s.toks+1 }->wpAny (model X.prog X.w) X.A (f (.int i t)) Q E s):
 sG X f (rU λi=>.int (g i)):=by
 intro pins s σ H x v Q I rx h;obtain⟨i,rfl,q⟩:=h;obtain⟨t,rfl⟩:=rx;exact rule i t s _ _ ⟨.int (g i),H,I.tok _,⟨_,rfl⟩,q⟩
theorem oO:sG X (unaryOp .USub) (rU λi=>.int (-i)):=DM λ_ _ _ _ _ q=>neg_int q
end
noncomputable def wm:V->V->Bool
 | .non,.non=>true| .non,.int _=>true| .int _,.non=>true| .non,.bl _=>true| .bl _,.non=>true| .non,.str _=>true| .str _,.non=>true
 | .int _,.int _=>true| .bl _,.bl _=>true| .str _,.str _=>true| .iO _,.iO _=>true
 | .int _,.str _=>true| .str _,.int _=>true| .bl _,.str _=>true| .str _,.bl _=>true
 |_,_=>false
def l7:R2:=λx y H Q=>wm x y=true/\Q (.bl (decide (x=y))) H
def DN:R2:=λx y H Q=>wm x y=true/\Q (.bl (!decide (x=y))) H
theorem wo:decide (V.int i=V.int j)=(i == j):=by
 rw[Bool.eq_iff_iff];simp
theorem wq:decide (V.bl i=V.bl j)=(i == j):=by
 rw[Bool.eq_iff_iff];simp
theorem wu:decide (V.str i=V.str j)=(i == j):=by
 rw[Bool.eq_iff_iff];simp
theorem wx:decide (V.iO i=V.iO j)=(i.toList == j.toList):=by
 rw[Bool.eq_iff_iff]
 cases i
 cases j;simp
section
variable {X:Cx}{a b c:Expr}{ta tb tc:TE}{pos:Pos}
theorem eN(I:Inv X pins σ H s)(q:Q (.bl k) H)(e:k=k'):EP X pins σ Q (.bool k') s:=by
 subst e;exact⟨.bl k,H,I,rfl,q⟩
theorem dO:fw X (compareOp .Eq) l7:=by
 intro pins s σ H x y v u Q I rx ry h;obtain⟨hs,q⟩:=h
 cases x with
 |non=>
  cases rx
  cases y with
  |non=>cases ry;exact PySem.EqNone.eq_none_none (eN I q (by simp))
  |bl j=>cases ry;exact PySem.EqNone.eq_none_bool (eN I q (by simp))
  |int j=>obtain⟨t',rfl⟩:=ry;exact PySem.EqNone.eq_none_int (eN I q (by simp))
  |str j=>obtain⟨t',rfl⟩:=ry;exact PySem.EqNone.eq_none_str (eN I q (by simp))
  |_=>exact absurd (show false=true from hs) Bool.false_ne_true
 |bl i=>
  cases rx
  cases y with
  |non=>cases ry;exact PySem.EqNone.eq_bool_none (eN I q (by simp))
  |bl j=>cases ry;exact eq_bool (eN I q wq)
  |str j=>obtain⟨t',rfl⟩:=ry;exact PySem.EqMixed.eq_bool_str (eN I q (by simp))
  |_=>exact absurd (show false=true from hs) Bool.false_ne_true
 |int i=>
  obtain⟨t,rfl⟩:=rx
  cases y with
  |non=>cases ry;exact PySem.EqNone.eq_int_none (eN I q (by simp))
  |int j=>obtain⟨t',rfl⟩:=ry;exact eq_int (eN I q wo)
  |str j=>obtain⟨t',rfl⟩:=ry;exact PySem.EqMixed.eq_int_str (eN I q (by simp))
  |_=>exact absurd (show false=true from hs) Bool.false_ne_true
 |str i=>
  obtain⟨t,rfl⟩:=rx
  cases y with
  |non=>cases ry;exact PySem.EqNone.eq_str_none (eN I q (by simp))
  |bl j=>cases ry;exact PySem.EqMixed.eq_str_bool (eN I q (by simp))
  |int j=>obtain⟨t',rfl⟩:=ry;exact PySem.EqMixed.eq_str_int (eN I q (by simp))
  |str j=>obtain⟨t',rfl⟩:=ry;exact eq_str (eN I q wu)
  |_=>exact absurd (show false=true from hs) Bool.false_ne_true
 |iO i=>
  obtain⟨t,rfl⟩:=rx
  cases y with
  |iO j=>obtain⟨t',rfl⟩:=ry;exact W.eq_bytes (eN I q wx)
  |_=>exact absurd (show false=true from hs) Bool.false_ne_true
 |_=>cases y <;> exact absurd (show false=true from hs) Bool.false_ne_true
theorem gH:fw X (compareOp .NotEq) DN:=by
 intro pins s σ H x y v u Q I rx ry h;obtain⟨hs,q⟩:=h
 cases x with
 |non=>
  cases rx
  cases y with
  |non=>cases ry;exact PySem.EqNone.ne_none_none (eN I q (by simp))
  |bl j=>cases ry;exact PySem.EqNone.ne_none_bool (eN I q (by simp))
  |int j=>obtain⟨t',rfl⟩:=ry;exact PySem.EqNone.ne_none_int (eN I q (by simp))
  |str j=>obtain⟨t',rfl⟩:=ry;exact PySem.EqNone.ne_none_str (eN I q (by simp))
  |_=>exact absurd (show false=true from hs) Bool.false_ne_true
 |bl i=>
  cases rx
  cases y with
  |non=>cases ry;exact PySem.EqNone.ne_bool_none (eN I q (by simp))
  |bl j=>cases ry;exact ne_bool (eN I q (congrArg not wq))
  |str j=>obtain⟨t',rfl⟩:=ry;exact PySem.EqMixed.ne_bool_str (eN I q (by simp))
  |_=>exact absurd (show false=true from hs) Bool.false_ne_true
 |int i=>
  obtain⟨t,rfl⟩:=rx
  cases y with
  |non=>cases ry;exact PySem.EqNone.ne_int_none (eN I q (by simp))
  |int j=>obtain⟨t',rfl⟩:=ry;exact ne_int (eN I q (congrArg not wo))
  |str j=>obtain⟨t',rfl⟩:=ry;exact PySem.EqMixed.ne_int_str (eN I q (by simp))
  |_=>exact absurd (show false=true from hs) Bool.false_ne_true
 |str i=>
  obtain⟨t,rfl⟩:=rx
  cases y with
  |non=>cases ry;exact PySem.EqNone.ne_str_none (eN I q (by simp))
  |bl j=>cases ry;exact PySem.EqMixed.ne_str_bool (eN I q (by simp))
  |int j=>obtain⟨t',rfl⟩:=ry;exact PySem.EqMixed.ne_str_int (eN I q (by simp))
  |str j=>obtain⟨t',rfl⟩:=ry;exact ne_str (eN I q (congrArg not wu))
  |_=>exact absurd (show false=true from hs) Bool.false_ne_true
 |iO i=>
  obtain⟨t,rfl⟩:=rx
  cases y with
  |iO j=>obtain⟨t',rfl⟩:=ry;exact W.ne_bytes (eN I q (congrArg not wx))
  |_=>exact absurd (show false=true from hs) Bool.false_ne_true
 |_=>cases y <;> exact absurd (show false=true from hs) Bool.false_ne_true
theorem l8:fw X (compareOp .Lt) (lZ λi j=>.bl (decide (i<j))):=sI λ_ _ _ _ _ _ _ q=>lt_int q
theorem sM:fw X (compareOp .LtE) (lZ λi j=>.bl (decide (i<=j))):=sI λ_ _ _ _ _ _ _ q=>le_int q
theorem m7:fw X (compareOp .Gt) (lZ λi j=>.bl (decide (j<i))):=sI λ_ _ _ _ _ _ _ q=>gt_int q
theorem sN:fw X (compareOp .Is) (λx y H Q=>y=.non/\Q (.bl (decide (x=.non))) H):=by
 intro pins s σ H x y v u Q I rx ry h;obtain⟨rfl,q⟩:=h
 cases ry;refine is_none_gen (eN I q ?_)
 cases x <;> first
  |(cases rx;rfl)
  |(obtain⟨t,rfl⟩:=rx;rfl)
theorem jj:fw X (compareOp .IsNot) (λx y H Q=>y=.non/\Q (.bl (!decide (x=.non))) H):=by
 intro pins s σ H x y v u Q I rx ry h;obtain⟨rfl,q⟩:=h
 cases ry;refine isnot_none_gen (eN I q ?_)
 cases x <;> first
  |(cases rx;rfl)
  |(obtain⟨t,rfl⟩:=rx;rfl)
theorem c9 (b:Expr)(h:op≠ .In:=by decide)(h2:op≠ .NotIn:=by decide):behindInMarks op b=false:=by
 have e1:(op == CmpOp.In)=false:=by cases op <;> first|rfl|exact absurd rfl h
 have e2:(op == CmpOp.NotIn)=false:=by cases op <;> first|rfl|exact absurd rfl h2
 cases b <;> simp[behindInMarks,e1,e2]
theorem fX(ho:fw X (compareOp op) r)(ha:PE X a ta)(hb:PE X b tb)(hm:behindInMarks op b=false):PE X (.Compare a [op] [b] pos) (d6 r ta tb):=by
 intro pins s σ H Q I h;exact wpAny_Compare1 (sH ha hb I h λv u s2 x y H2 I2 rx ry q=>ho pins s2 σ H2 x y v u Q I2 rx ry q) hm
inductive wy (Q:Bool->Hp->Prop) (x:V) (H':Hp):Prop
 |mk (k:_) (h0:x=.bl k) (h1:Q k H'):wy Q x H'
def iG (t:TE):TT:=λσ H Q=>t σ H (wy Q)
theorem di(ho:fw X (compareOp op) r)(ha:PE X a ta)(hb:PE X b tb)(hm:behindInMarks op b=false):PT X (.Compare a [op] [b] pos) (iG (d6 r ta tb)):=by
 intro pins s σ H Q I h
 refine wpAny_isTrue_Compare1 (dg (ha pins s σ H _ I h) λv s1 ⟨x,H1,I1,r1,q1⟩=>dg (hb pins s1 σ H1 _ I1 q1) λu s2 ⟨y,H2,I2,r2,q2⟩=>
  dg (ho pins s2 σ H2 x y v u _ I2 r1 r2 q2) λc s3 ⟨z,H3,I3,r3,k,e,q3⟩=>?_) hm
 subst e
 cases r3;exact wpAny_truthy_bool ⟨H3,I3,q3⟩
theorem m8:(sizeLine:Nat)<2 ^ 63:=by rw[sizeLine_eq];decide
theorem m_:fw X (binaryOp .Add) (λx y H Q=>∃i j,x=.str i/\y=.str j/\i.length+j.length<=sizeLine/\Q (.str (i++j)) H):=by
 intro pins s σ H x y v u Q I rx ry h;obtain⟨i,j,rfl,rfl,hz,q⟩:=h;obtain⟨t,rfl⟩:=rx;obtain⟨t',rfl⟩:=ry;exact add_str (λt' tk=>⟨.str (i++j),H,I.tok _,⟨_,rfl⟩,q⟩) hz
theorem vals1(r:Vals [x] us):∃u,us=[u]/\RelV x u:=by
 cases r with
 |cons r1 r2=>cases r2;exact⟨_,rfl,r1⟩
theorem vals2(r:Vals [x,y] us):∃u w',us=[u,w']/\RelV x u/\RelV y w':=by
 cases r with
 |cons r1 r2=>
  cases r2 with
  |cons r3 r4=>cases r4;exact⟨_,_,rfl,r1,r3⟩
end
structure l9 (h:Heap) (x dx C:Addr) (mA:Str->Option Value):Prop where
 obj:h.get? x=some (W.instObj C dx)
 ns:h.Ns1 dx mA
 ne:dx≠x
theorem DO {h:Heap}{mA:Str->Option Value}(n:h.Ns1 dx mA):∃od,h.get? dx=some od/\∀name,W.lookIn name od=some (mA name):=by
 obtain⟨o,es,ep,ho,hd,hk,_,hm⟩:=n;refine⟨o,ho,λname=>?_⟩;have e:=hm name;unfold nsFind findBy at e;rw[<-Array.find?_toList] at e;unfold W.lookIn;rw[hd];dsimp only;split
 . rename_i y q;rw[q] at e;exact congrArg some e
 . rename_i q;rw[q] at e
   have a:es.toList.any (·.refKey)=false:=by
    rw[List.any_eq_false];intro y hy;obtain⟨z,t,aa⟩:=hk y (Array.mem_toList_iff.mp hy);simp[DictEntry.refKey,aa]
   have a':¬es.toList.any (·.refKey)=true:=by rw[a];exact Bool.false_ne_true
   rw[if_neg a'];exact congrArg some e
theorem l9.look(I:l9 h x dx C mA):∃od,W.InstAt h x (W.instObj C dx) C (some od)/\∀name,W.lookIn name od=some (mA name):=
 let⟨od,ho,hl⟩:=DO I.ns
 ⟨od,⟨I.obj,rfl,rfl,ho⟩,hl⟩
section
variable {prog:Program}{w:World}{A:Around}{E:Value->Shared->Prop}{s:Shared}{K:W.Frag}{x dx C f:Addr}{mA:Str->Option Value}{name:Str}{v:Value}
theorem get_map(X:K.In s.heap)(I:l9 s.heap x dx C mA)(hg:W.plainGet K C name=true)(hh:W.hasDictIn K C=true)
 (ha:W.findIn K (.ref C) name=some none) (hv:mA name=some v) (aa:W.handedIn v=true) (h:Q v { s with toks:=s.toks+1 }):
 wpAny (model prog w) A (getAttr (.ref x) name expr) Q E s:=by
 obtain⟨od,J,hl⟩:=I.look;exact W.get_value X J (W.plainGet_of hg).1 (W.findObj_own hh ha rfl (by rw[hl,hv])) aa h
theorem DP(X:K.In s.heap)(I:l9 s.heap x dx C mA)(hg:W.plainGet K C name=true)
 (hf:W.findIn K (.ref C) name=some (some (.ref f))) (ht:W.isFn K (.ref f)=true) (hv:mA name=none) (h:Q (.ref f,[.ref x]) s):
 wpAny (model prog w) A (getMethod (.ref x) name pl) Q E s:=by
 obtain⟨od,J,hl⟩:=I.look;exact W.method_fn X J (W.plainGet_of hg).1 (W.plainGet_of hg).2 hf (beq_iff_eq.mp ht) (by show(W.lookIn name od).map (·.isSome)=some false;rw[hl,hv];rfl) h
theorem DQ(X:K.In s.heap)(I:l9 s.heap x dx C mA)
 (hs:W.findIn K (.ref C) "__setattr__"=some (some (.builtin "object.__setattr__"))) (hp:W.plainOver K C=true) (ht:W.takerIn K C name=some none) (hh:W.hasDictIn K C=true)
 (hw:PySem.Within mA ns) (hsz:ns.length<=sizeLine)
 (h:∀h',l9 h' x dx C (λy=>if y=name then some v else mA y)->Heap.SameBut dx s.heap h'->Q () { s with heap:=h',toks:=s.toks+2 }):
 wpAny (model prog w) A (setAttr (.ref x) name v) Q E s:=by
 obtain⟨od,J,hl⟩:=I.look;refine W.set_plain X J hs (W.osa_open (s:={ s with toks:=s.toks+1 }) (r:=none) X J hp ht λb=>?_);obtain⟨cd,hc,ae⟩:=W.any_some hh;have hx:s.heap.get? x=some ⟨.ref C,some dx,.plain,#[]⟩:=I.obj;refine Q00 (Q0a (Q00 (Q00 (wpAny_loadPart hx (Q00 (W.Looks.here (s:={ s with toks:=s.toks+1 }) (W.looks_clsIn X hc) ?_))))));rw[ae];refine Q0a (a:=some dx) (Q00 (Q0a (Q00 ?_)));refine wpAny_nsSet1 (s:={ s with toks:=s.toks+1 }) I.ns λh' aa ab=>?_;obtain⟨oD,ai,aj,af,ag,ah⟩:=aa.count (PySem.Within.cons name v hw);refine Q00 (wpAny_lookBehind af (by rw[ag];exact pastItsLine_dict (Q0b ah (by rw[Q0j];omega))) ?_);exact Q0a (h _ ⟨(ab.2 _ (Ne.symm I.ne)).trans I.obj,aa,I.ne⟩ ab)
theorem DT(X:K.In s.heap)(hm:W.makesIn K C=true)
 (hi:W.findIn K (.ref C) "__init__"=some (some (.ref f))) (hf:W.typeIn K (.ref f)=some (.type "function"))
 (h:codeAny (model prog w) (A.under (.builtin "type.__call__" ⟨.ref C::vs,kw⟩)) (.call (.ref f) ⟨.ref (s.heap.objs.size+1)::vs,kw⟩) (W.InitBack (s.heap.objs.size+1) R)
   { s with heap:=(s.heap.push W.emptyDict).push (W.instObj C s.heap.objs.size) }):
 codeAny (model prog w) A (.call (.ref C) ⟨vs,kw⟩) R s:=by
 obtain⟨hh,g,d,t,os⟩:=s;exact W.make_core (W.makes_of X hm) (W.looks_findIn X hi) (λself=>W.bind_fn X self hf) (.inl rfl) h
theorem DU(X:K.In s.heap)(hm:W.makesIn K C=true)
 (hi:W.findIn K (.ref C) "__init__"=some (some (.builtin "object.__init__")))
 (hb:∀self,W.Looks (model prog w) s.heap (bindSpecial (.builtin "object.__init__") self) (.builtin "object.__init__",[self]))
 (h:codeAny (model prog w) (A.under (.builtin "type.__call__" ⟨[.ref C],[]⟩)) (.call (.builtin "object.__init__") ⟨[.ref (s.heap.objs.size+1)],[]⟩) (W.InitBack (s.heap.objs.size+1) R)
   { s with heap:=(s.heap.push W.emptyDict).push (W.instObj C s.heap.objs.size) }):
 codeAny (model prog w) A (.call (.ref C) ⟨[],[]⟩) R s:=by
 obtain⟨hh,g,d,t,os⟩:=s;exact W.make_core (W.makes_of X hm) (W.looks_findIn X hi) hb (.inr ⟨rfl,rfl⟩) h
end
noncomputable def dE (f:Str) (v:V):List (Str × V)->List (Str × V)
 |[]=>[(f,v)]
 |(g,x)::r=>if g=f then(g,v)::r else(g,x)::dE f v r
theorem wA (f g:Str)(v:V):∀fs:List (Str × V),(dE f v fs).lookup g=if g=f then some v else fs.lookup g
 |[]=>by
  show List.lookup g [(f,v)]=_;by_cases h:g=f
  . have hb:(g == f)=true:=beq_iff_eq.mpr h;simp only[List.lookup,hb,if_pos h]
  . have hb:(g == f)=false:=beq_eq_false_iff_ne.mpr h;simp only[List.lookup,hb,if_neg h]
 |(k,x)::r=>by
  have ih:=wA f g v r;rw[show dE f v ((k,x)::r)=(if k=f then(k,v)::r else(k,x)::dE f v r) from rfl];by_cases hk:k=f
  . rw[if_pos hk];by_cases h:g=k
    . have hb:(g == k)=true:=beq_iff_eq.mpr h;simp only[List.lookup,hb,if_pos (h.trans hk)]
    . have hb:(g == k)=false:=beq_eq_false_iff_ne.mpr h;simp only[List.lookup,hb,if_neg (λe:g=f=>h (e.trans hk.symm))]
  . rw[if_neg hk];by_cases h:g=k
    . have hb:(g == k)=true:=beq_iff_eq.mpr h;simp only[List.lookup,hb,if_neg (λe:g=f=>hk (h.symm.trans e))]
    . have hb:(g == k)=false:=beq_eq_false_iff_ne.mpr h;simp only[List.lookup,hb];exact ih
theorem sO (f:Str)(v:V):∀fs:List (Str × V),f∈(dE f v fs).map (·.1)/\∀g,g∈fs.map (·.1)->g∈(dE f v fs).map (·.1)
 |[]=>⟨by simp[dE],λg h=>by simp at h⟩
 |(k,x)::r=>by
  obtain⟨i1,i2⟩:=sO f v r;rw[show dE f v ((k,x)::r)=(if k=f then(k,v)::r else(k,x)::dE f v r) from rfl];by_cases hk:k=f
  . rw[if_pos hk];subst hk;exact⟨by simp,λg h=>by simpa using h⟩
  . rw[if_neg hk];refine⟨?_,λg h=>?_⟩
    . rw[Q0m];exact Q09 _ i1
    . rw[Q0m] at h ⊢;rcases List.mem_cons.mp h with e|e
      . exact List.mem_cons.mpr (.inl e)
      . exact Q09 _ (i2 g e)
theorem wB (f:Str)(v:V):∀fs:List (Str × V),(dE f v fs).length<=fs.length+1
 |[]=>by simp[dE]
 |(k,x)::r=>by
  have ih:=wB f v r;rw[show dE f v ((k,x)::r)=(if k=f then(k,v)::r else(k,x)::dE f v r) from rfl];by_cases hk:k=f
  . rw[if_pos hk,Q0j,Q0j];omega
  . rw[if_neg hk,Q0j,Q0j];omega
theorem gN.some_of(r:gN (some v) o):∃u,o=some u/\RelV v u:=by
 cases o with
 |none=>exact(show False from r).elim
 |some u=>exact⟨u,rfl,r⟩
theorem gN.none_of(r:gN none o):o=none:=by
 cases o with
 |none=>rfl
 |some u=>exact(show False from r).elim
theorem DV(r:RelV v u):W.handedIn u=true:=by
 cases v with
 |non=>cases(show u=Value.none from r);rfl
 |bl b=>cases(show u=Value.bool b from r);rfl
 |int i=>obtain⟨t,e⟩:=(show ∃t,u=Value.int i t from r);cases e;rfl
 |str x=>obtain⟨t,e⟩:=(show ∃t,u=Value.str x t from r);cases e;rfl
 |iO b=>obtain⟨t,e⟩:=(show ∃t,u=Value.bytes b t from r);cases e;rfl
 |flt b=>obtain⟨t,e⟩:=(show ∃t,u=Value.float b t from r);cases e;rfl
 |ref a=>cases(show u=Value.ref a from r);rfl
 |ty n=>cases(show u=Value.type n from r);rfl
section
variable {P:Program}{w:World}{H H':Hp}{h h':Heap}{a C dx:Addr}{fs fs':List (Str × V)}
theorem qA (aa:eL P w H h)(e:H a=some (.ins C dx fs)):∃mA,l9 h a dx C mA/\(∀f,gN (fs.lookup f) (mA f))/\PySem.Within mA (fs.map (·.1))/\fs.length<=1000/\H dx=some (.own a):=by
 obtain⟨d,z,ne,ob,mA,n,r,q⟩:=(show fc P w H h a (.ins C dx fs) from aa a _ e);exact⟨mA,⟨ob,n,ne⟩,r,q,z,d⟩
end
structure Cls (K:W.Frag) (C:Addr):Prop where
 pg:W.plainGet K C Str.empty=true
 hd:W.hasDictIn K C=true
 po:W.plainOver K C=true
 sa:W.findIn K (.ref C) "__setattr__"=some (some (.builtin "object.__setattr__"))
theorem Cls.get {K:W.Frag}(c:Cls K C)(f:Str):W.plainGet K C f=true:=c.pg
def l_ (K:W.Frag) (C:Addr) (f:Str):Prop:=W.findIn K (.ref C) f=some none
theorem l_.taker {K:W.Frag}(n:l_ K C f):W.takerIn K C f=some none:=by
 unfold W.takerIn;rw[show W.findIn K (.ref C) f=some none from n];rfl
structure Meth (K:W.Frag) (C:Addr) (m:Str) (f:Addr):Prop where
 at_:W.findIn K (.ref C) m=some (some (.ref f))
 fn:W.isFn K (.ref f)=true
 kp:W.keepIn K (.ref f)=true
section
variable {X:Cx}{pins:List (Addr × Obj)}{σ:St}{H:Hp}{s:Shared}{a C dx:Addr}{fs:List (Str × V)}{f:Str}{v:V}{A:Around}{E:Value->Shared->Prop}
theorem DW(I:Inv X pins σ H s)(e:H a=some (.ins C dx fs))(c:Cls X.K C)(n:l_ X.K C f)(l:fs.lookup f=some v)
 (h:∀u s',Inv X pins σ H s'->RelV v u->Q u s'):wpAny (model X.prog X.w) A (getAttr (.ref a) f b) Q E s:=by
 obtain⟨mA,O,r,_,_,_⟩:=qA I.hok e;obtain⟨u,hu,ru⟩:=gN.some_of (v:=v) (o:=mA f) (by rw[<-l];exact r f);exact get_map I.fm O (c.get f) c.hd n hu (DV ru) (h u _ (I.tok _) ru)
theorem DX(I:Inv X pins σ H s)(e:H a=some (.ins C dx fs))(c:Cls X.K C)(k:Meth X.K C m g)(l:fs.lookup m=none)
 (h:Q (.ref g,[.ref a]) s):wpAny (model X.prog X.w) A (getMethod (.ref a) m pl) Q E s:=by
 obtain⟨mA,O,r,_,_,_⟩:=qA I.hok e;have hn:mA m=none:=gN.none_of (by rw[<-l];exact r m);exact DP I.fm O (c.get m) k.at_ k.fn hn h
theorem DY(I:Inv X pins σ H s)(e:H a=some (.ins C dx fs))(c:Cls X.K C)(n:l_ X.K C f)(hl:fs.length<1000)(ry:RelV y u)
 (h:∀s',Inv X pins σ (upd H a (.ins C dx (dE f y fs))) s'->Q () s'):wpAny (model X.prog X.w) A (setAttr (.ref a) f u) Q E s:=by
 obtain⟨mA,O,r,wi,_,ho⟩:=qA I.hok e;have hz:(fs.map (·.1)).length<=sizeLine:=by rw[Q01,sizeLine_eq];omega
 refine DQ I.fm O c.sa c.po n.taker c.hd wi hz λh' O' sb=>h _ ?_;have hd:∃o,h'.get? dx=some o:=let⟨o,_,_,e',_⟩:=O'.ns;⟨o,e'⟩
 refine I.write (x:=a) (e:=dx) (by rw[e];exact True.intro) (.inr ho) (λb q hb z=>(sb.2 b hb).trans z) hd ?_;refine⟨by rw[cQ O.ne];exact ho,?_,O.ne,O'.obj,_,O'.ns,λg=>?_,λg hg=>?_⟩
 . have:=wB f y fs;omega
 . show gN ((dE f y fs).lookup g) (if g=f then some u else mA g);rw[wA];by_cases q:g=f
   . rw[if_pos q,if_pos q];exact ry
   . rw[if_neg q,if_neg q];exact r g
 . by_cases q:g=f
   . rw[q];exact(sO f y fs).1
   . refine(sO f y fs).2 g (wi g λz=>hg ?_);show(if g=f then some u else mA g)=none;rw[if_neg q];exact z
theorem Inv.made (I:Inv X pins σ H s):Inv X pins σ (upd (upd H s.heap.objs.size (.own (s.heap.objs.size+1))) (s.heap.objs.size+1) (.ins C s.heap.objs.size []))
 { s with heap:=(s.heap.push W.emptyDict).push (W.instObj C s.heap.objs.size) }:=by
 have e1:(s.heap.push W.emptyDict).get? s.heap.objs.size=some W.emptyDict:=Q0i s.heap rfl
 have e2:((s.heap.push W.emptyDict).push (W.instObj C s.heap.objs.size)).get? (s.heap.objs.size+1)=some (W.instObj C s.heap.objs.size):=by
  have:=Q0i (s.heap.push W.emptyDict) (o:=W.instObj C s.heap.objs.size) rfl
  rwa [Q18] at this
 have e3:(s.heap.push W.emptyDict).Ns s.heap.objs.size (λ_=>none):=⟨W.emptyDict,#[],_,e1,rfl,(λe he=>absurd he (by simp)),λ_=>rfl⟩;have I1:=I.laid (a:=s.heap.objs.size) (o:=.own (s.heap.objs.size+1)) (h':=s.heap.push W.emptyDict) (t':=s.toks) (λb u q=>Q06 _ q) (Q0 _) ⟨_,e1⟩;refine I1.laid (a:=s.heap.objs.size+1) (o:=.ins C s.heap.objs.size []) (t':=s.toks) (λb u q=>Q06 _ q) (Q1v (Q18 _ _)) ?_;have ne:s.heap.objs.size≠s.heap.objs.size+1:=Q08 (Q14 _);refine⟨by rw[cQ ne,cV],Q0c _,ne,e2,λ_=>none,(Heap.Ns1.of_empty e3).at λo q=>Q06 _ q,λ_=>True.intro,λy hy=>absurd rfl hy⟩
theorem DZ(hb:attributeBase e f env (eval e env)=eval e env)
 (h:wpAny (model prog w) A (eval e env) (λo aa=>wpAny (model prog w) A (getAttr o f true) Q E aa) E s):wpAny (model prog w) A (eval (.Attribute e f pos) env) Q E s:=
 Attribute_any_ h (by rw[arm_eval_Attribute,hb])
end
inductive wC (K:W.Frag) (f:Str) (Q:V->Hp->Prop) (x:V) (H1:Hp):Prop
 |mk (a:_) (C:_) (dx:_) (fs:_) (v:_) (h0:x=.ref a) (h1:H1 a=some (.ins C dx fs)) (h2:Cls K C) (h3:l_ K C f) (h4:fs.lookup f=some v) (h5:Q v H1):wC K f Q x H1
def D0 (K:W.Frag) (ta:TE) (f:Str):TE:=λσ H Q=>ta σ H (wC K f Q)
inductive wD (K:W.Frag) (f:Str) (D:Ends) (σ:L2.St) (y:V) (x:V) (H2:Hp):Prop
 |mk (a:_) (C:_) (dx:_) (fs:_) (h0:x=.ref a) (h1:H2 a=some (.ins C dx fs)) (h2:Cls K C) (h3:l_ K C f) (h4:fs.length<1000) (h5:D.nx σ (upd H2 a (.ins C dx (dE f y fs)))):wD K f D σ y x H2
def D1 (K:W.Frag) (ta tv:TE) (f:Str):TS:=λD σ H=>tv σ H λy H1=>ta σ H1 (wD K f D σ y)
section
variable {X:Cx}{o e value:Expr}{f:Str}{pos pos' tpos:Pos}{ta tv:TE}
theorem dI (he:PE X e ta)(hb:attributeBase e f X.env (eval e X.env)=eval e X.env):PE X (.Attribute e f pos) (D0 X.K ta f):=by
 intro pins s σ H Q I h;refine DZ hb (dg (he pins s σ H _ I h) λu s1 zq=>?_);obtain⟨x,H1,I1,rx,a,C,dx,fs,v,ex,ea,c,n,l,q⟩:=zq;subst ex;obtain rfl:u=Value.ref a:=rx;exact DW I1 ea c n l λu' s2 I2 ru=>⟨v,H1,I2,ru,q⟩
theorem jF (ha:PE X o ta)(hv:PE X value tv)(hs:swapsWith value (some (.Attribute o f pos')) pos.line X.env=pure false):PS X (.Assign [.Attribute o f pos'] value pos) (D1 X.K ta tv f):=by
 intro pins s σ H D I h;refine plainObj_wpAny_Assign_Attribute (dg (hv pins s σ H _ I h) λu s1 ⟨y,H1,I1,ry,q⟩=>dg (ha pins s1 σ H1 _ I1 q) λov s2 zq=>?_) hs;obtain⟨x,H2,I2,rx,a,C,dx,fs,ex,ea,c,n,l,q2⟩:=zq;subst ex;obtain rfl:ov=Value.ref a:=rx;exact DY I2 ea c n l ry λs3 I3=>⟨σ,_,I3,q2⟩
end
section
variable {X:Cx}{pins:List (Addr × Obj)}{σ:St}{H:Hp}{s:Shared}{A:Around}{E:Value->Shared->Prop}{Q:Value->Shared->Prop}{c:Value}{b:Bool}
inductive iH (K:W.Frag) (H:Hp):V->Value->Prop where
 |non:iH K H .non (.type "NoneType")
 |bl (x:Bool):iH K H (.bl x) (.type "bool")
 |int (i:Int):iH K H (.int i) (.type "int")
 |str (x:Str):iH K H (.str x) (.type "str")
 |flt (x:UInt64):iH K H (.flt x) (.type "float")
 |lst {a:Addr} {xs:List V} (e:H a=some (.lst xs)):iH K H (.ref a) (.type "list")
 |e_ {a:Addr} {o:Obj} {xs:List V} (e:H a=some (.e_ o (.lst xs))):iH K H (.ref a) (.type "list")
 |tup {a:Addr} {xs:List V} (e:H a=some (.tup xs)):iH K H (.ref a) (.type "tuple")
 |dK {a:Addr} {kvs:List (Key × V)} (e:H a=some (.dK kvs)):iH K H (.ref a) (.type "dict")
 |dT {a:Addr} {kvs:List (List Key × V)} (e:H a=some (.dT kvs)):iH K H (.ref a) (.type "dict")
 |ins {a C dx:Addr} {fs:List (Str × V)} (e:H a=some (.ins C dx fs)) (cl:Cls K C) (ha:W.findIn K (.ref C) "__class__"=some (some (.builtin "object.__class__")))
   (hn:W.specialIn K (.builtin "object.__class__") "__get__"=some (some (.builtin "getset_descriptor.__get__"))) (htk:W.takesIn K (.builtin "object.__class__")=some true)
   (hm:W.mroIn K C (.type "object")=some true):iH K H (.ref a) (.ref C)
theorem D2(I:Inv X pins σ H s)(rx:RelV x u)(ty:iH X.K H x t)(e:W.kitOne X.K t c=some b)(h:∀tk,Q (.bool b) { s with toks:=tk }):
 wpAny (model X.prog X.w) A (call (.builtin "isinstance") [u,c]) Q E s:=by
 cases ty with
 |non=>cases(show u=Value.none from rx);exact W.kia_one W.kitx_none I.fm True.intro e (λz=>nomatch z) h
 |bl y=>cases(show u=Value.bool y from rx);exact W.kia_one W.kitx_bool I.fm True.intro e (λz=>nomatch z) h
 |int i=>obtain⟨t,q⟩:=(show ∃t,u=Value.int i t from rx);cases q;exact W.kia_one W.kitx_int I.fm True.intro e (λz=>nomatch z) h
 |str y=>obtain⟨t,q⟩:=(show ∃t,u=Value.str y t from rx);cases q;exact W.kia_one W.kitx_str I.fm True.intro e (λz=>nomatch z) h
 |flt y=>obtain⟨t,q⟩:=(show ∃t,u=Value.float y t from rx);cases q;exact W.kia_one W.kitx_float I.fm True.intro e (λz=>nomatch z) h
 |@lst a xs ea=>
  cases(show u=Value.ref a from rx);obtain⟨_,_,n,_,h1⟩:=(show fc X.prog X.w H s.heap a (.lst xs) from I.hok a _ ea);exact W.kia_one W.kitx_list I.fm ⟨_,h1,rfl⟩ e (λz=>nomatch z) h
 |@e_ a ob xs ea=>
  cases(show u=Value.ref a from rx);obtain⟨_,_,_,n,_,h1⟩:=(show fc X.prog X.w H s.heap a (.e_ ob (.lst xs)) from I.hok a _ ea);exact W.kia_one W.kitx_list I.fm ⟨_,h1,rfl⟩ e (λz=>nomatch z) h
 |@tup a xs ea=>
  cases(show u=Value.ref a from rx);obtain⟨_,_,_,p⟩:=(show fc X.prog X.w H s.heap a (.tup xs) from I.hok a _ ea);obtain⟨o,h1,h2,_⟩:=p;exact W.kia_one W.kitx_tuple I.fm ⟨o,h1,h2⟩ e (λz=>nomatch z) h
 |@dK a kvs ea=>
  cases(show u=Value.ref a from rx);obtain⟨_,_,vs,_,p⟩:=(show fc X.prog X.w H s.heap a (.dK kvs) from I.hok a _ ea);obtain⟨o,es,ep,h1,h2,_⟩:=p;exact W.kia_one W.kitx_dict I.fm ⟨o,h1,h2.1⟩ e (λz=>nomatch z) h
 |@dT a kvs ea=>
  cases(show u=Value.ref a from rx);obtain⟨_,_,xs,_,o,es,ep,h1,h2,_⟩:=(show fc X.prog X.w H s.heap a (.dT kvs) from I.hok a _ ea);exact W.kia_one W.kitx_dict I.fm ⟨o,h1,h2.1⟩ e (λz=>nomatch z) h
 |@ins a C dx fs ea cl ha hn aa hm=>
  cases(show u=Value.ref a from rx);obtain⟨mA,O,_⟩:=qA I.hok ea;obtain⟨od,J,_⟩:=O.look;exact W.kia_one (W.kitx_own (cl.get _) cl.hd ha hn aa hm) I.fm J e (λz=>nomatch z) h
end
structure d4 (k:Nat) (A:Around):Prop where
 hd:A.handled=none
 dp:A.depth+3 * k+5<recursionLimit
 un:A.units+16 * k+200<cLine
theorem d4.mono(r:d4 k A)(h:j<=k):d4 j A:=⟨r.hd,by have:=r.dp;omega,by have:=r.un;omega⟩
theorem d4.deeper(r:d4 (k+1) A)(env:Env):d4 k (A.deeper env):=
 ⟨r.hd,by have:=r.dp;show A.depth+1+3 * k+5<_;omega,by have:=r.un;show A.units+3+16 * k+200<_;omega⟩
theorem d4.in1(r:d4 (k+1) A):d4 k A.in1:=
 ⟨r.hd,by have:=r.dp;show A.depth+3 * k+5<_;omega,by have:=r.un;show A.units+1+16 * k+200<_;omega⟩
theorem D3 {A:Around}:(A.under (.builtin "type.__call__" ⟨.ref C::us,kw⟩)).depth=A.depth+1:=by
 first|rfl|simp[Around.under,Code.weight,Code.isCreation,Code.isGuard,Code.isCaller,Code.frames,Code.isFrame,guardIds]
theorem D4 {A:Around}:(A.under (.builtin "type.__call__" ⟨.ref C::us,kw⟩)).units=A.units+1:=by
 first|rfl|simp[Around.under,Code.cUnits,Code.frames,Code.isFrame]
theorem d4.make(r:d4 (k+1) A)(C:Addr)(us:List Value)(kw:List (Str × Value)):d4 k (A.under (.builtin "type.__call__" ⟨.ref C::us,kw⟩)):=
 ⟨r.hd,by have:=r.dp;rw[D3];omega,by have:=r.un;rw[D4];omega⟩
theorem d4.depth(r:d4 k A):A.depth<recursionLimit:=by have:=r.dp;omega
theorem d4.units(r:d4 k A):A.units+64<cLine:=by have:=r.un;omega
theorem d4.wF(r:d4 k A):A.units<cLine:=by have:=r.un;omega
def gU:TA:=λ_ H Q=>Q [] H
def D5 (Q:List V->Hp->Prop) (x:V):List V->Hp->Prop:=λxs H2=>Q (x::xs) H2
def sP (tr:TA) (σ:St) (Q:List V->Hp->Prop):V->Hp->Prop:=λx H1=>tr σ H1 (D5 Q x)
def fA (ta:TE) (tr:TA):TA:=λσ H Q=>ta σ H (sP tr σ Q)
section
variable {X:Cx}{e:Expr}{es:List Expr}{te:TE}{t:TA}{pos:Pos}
theorem cG:PA X [] gU:=λ_ _ _ _ H Q I h=>Calls.spliced_nil ⟨[],H,I,.nil,h⟩
theorem a_ (ha:PE X e te)(hr:PA X es t)(hs:starEach (e::es) X.env=(false,eval e X.env)::starEach es X.env:=by rfl):PA X (e::es) (fA te t):=by
 intro pos pins s σ H Q I h;rw[hs];show wpAny _ _ (spliced ((false,eval e X.env)::backTo pos (starEach es X.env))) _ _ s;refine Calls.spliced_cons (dg (ha pins s σ H _ I h) λu s1 zq=>?_);obtain⟨x,H1,I1,r1,q1⟩:=zq;exact dg (hr pos pins s1 σ H1 _ I1 q1) λus s2 ⟨xs,H2,I2,r2,q2⟩=>⟨x::xs,H2,I2,.cons r1 r2,q2⟩
inductive sQ (Q:V->Hp->Prop) (xs:List V) (H1:Hp):Prop
 |mk (h0:xs.length<=sizeLine) (h1:∀p,H1 p=none->Q (.ref p) (upd H1 p (.tup xs))):sQ Q xs H1
def sR (t:TA):TE:=λσ H Q=>t σ H (sQ Q)
inductive sS (Q:V->Hp->Prop) (xs:List V) (H1:Hp):Prop
 |mk (h0:xs.length<=sizeLine) (h1:∀p,H1 p=none->Q (.ref p) (upd H1 p (.lst xs))):sS Q xs H1
def D6 (t:TA):TE:=λσ H Q=>t σ H (sS Q)
theorem gc {x1}(h:PA X es t):PE X (.Tuple es x1 pos) (sR t):=by
 intro pins s σ H Q I hq;refine wpAny_Tuple_spliced (dg (h pos pins s σ H _ I hq) λus s1 ⟨xs,H1,I1,r,z,q⟩=>⟨by rw[<-r.length];exact z,?_⟩);have hf:H1 s1.heap.objs.size=none:=I1.hok.fresh (Q0 _);refine⟨.ref s1.heap.objs.size,upd H1 s1.heap.objs.size (.tup xs),I1.laid (t':=s1.toks) (λb u e=>Q06 _ e) (Q0 _) ?_,rfl,q _ hf⟩;exact⟨z,us,r,⟨_,Q0i _ rfl,rfl,_,rfl⟩⟩
theorem eR (h:PA X es t):PE X (.List es pos) (D6 t):=by
 intro pins s σ H Q I hq;refine wpAny_List_spliced (dg (h pos pins s σ H _ I hq) λus s1 ⟨xs,H1,I1,r,z,q⟩=>⟨by rw[<-r.length];exact z,?_⟩);have hf:H1 s1.heap.objs.size=none:=I1.hok.fresh (Q0 _);refine⟨.ref s1.heap.objs.size,upd H1 s1.heap.objs.size (.lst xs),I1.laid (t':=s1.toks) (λb u e=>Q06 _ e) (Q0 _) ?_,rfl,q _ hf⟩;exact⟨z,us,0,r,Q0i _ rfl⟩
end
noncomputable abbrev Sp:=List V->Hp->VK->XK->Prop
noncomputable abbrev gf:=List Env->Hp->Shared->XK->Value->Shared->Prop
structure ma (P:Program) (w:World) (K:W.Frag) (mg:Str->Option Value) (base:Heap) (A:Around) (outer:List Env) (s:Shared) (H:Hp):Prop where
 frames:A.frames=some outer
 mod:Mod K mg base
 bs:∀b o,base.get? b=some o->s.heap.get? b=some o/\H b=none
 jg:base.objs.size<=s.heap.objs.size
 iF:s.heap.FunFrames base outer
 k7:∀b∈frs outer,H b=none
 hok:eL P w H s.heap
 bare:AllBare s.gens
def CE (outer:List Env) (P:Program) (w:World) (H:Hp) (s:Shared) (Q:VK) (u:Value) (s':Shared):Prop:=
 ∃v H',s'.os=s.os/\AllBare s'.gens/\Un (frs outer) [] H H' s.heap s'.heap/\eL P w H' s'.heap/\RelV v u/\Q v H'
def CR (CX:gf) (outer:List Env) (P:Program) (w:World) (H:Hp) (s:Shared) (Q:VK) (E:XK) (r:Result) (s':Shared):Prop:=
 match r with
 | .ok (.ret u)=>CE outer P w H s Q u s'
 | .ok _=>False
 | .error e=>CX outer H s E e s'
structure fY (P:Program) (w:World) (K:W.Frag) (mg:Str->Option Value) (base:Heap) (CX:gf) (k:Nat) (f:Addr) (fd:FuncData) (ps:List Str) (sp:Sp):Prop where
 len:∀vs H Q E,sp vs H Q E->vs.length=ps.length
 run:∀(A:Around) (outer:List Env) (s:Shared) (H:Hp) (args:Args) (us:List Value) (vs:List V) (Q:VK) (E:XK),d4 k A->ma P w K mg base A outer s H->BindsTo s fd args (ps.zip us)->Vals vs us->sp vs H Q E->
  codeAny (model P w) A (.call (.ref f) args) (CR CX outer P w H s Q E) s
theorem fY.mono {P:Program}{w:World}{K:W.Frag}{mg:Str->Option Value}(F:fY P w K mg base CX j f fd ps sp)(h:j<=k):
 fY P w K mg base CX k f fd ps sp:=⟨F.len,λA outer s H args us vs Q E hr=>F.run A outer s H args us vs Q E (hr.mono h)⟩
theorem fY.imp {P:Program}{w:World}{K:W.Frag}{mg:Str->Option Value}(F:fY P w K mg base CX k f fd ps sp)
 (h:∀vs H Q E,me vs H Q E->sp vs H Q E):fY P w K mg base CX k f fd ps me:=
 ⟨λvs H Q E q=>F.len vs H Q E (h _ _ _ _ q),λA outer s H args us vs Q E hr he hb hv hs=>F.run A outer s H args us vs Q E hr he hb hv (h _ _ _ _ hs)⟩
theorem ma.make {P:Program}{w:World}{K:W.Frag}{mg:Str->Option Value}{base:Heap}{A:Around}{outer:List Env}(e:ma P w K mg base A outer s H)(C:Addr)(us:List Value)(kw:List (Str × Value)):
 ma P w K mg base (A.under (.builtin "type.__call__" ⟨.ref C::us,kw⟩)) outer s H:=⟨by first|exact e.frames|(simpa[Around.under,Code.envs,Code.isFrame,pushEnvs] using e.frames),e.mod,e.bs,e.jg,e.iF,e.k7,e.hok,e.bare⟩
section
variable {X:Cx}{pins:List (Addr × Obj)}{σ:St}{H:Hp}{s s':Shared}
theorem Inv.env0 (I:Inv X pins σ H s):ma X.prog X.w X.K X.mg X.base X.A X.stack s H:=
 ⟨I.ok.frames,I.ok.mod,I.bs,Q0b I.ok.jg I.sz,I.stack,I.qj,I.hok,I.bare⟩
theorem Inv.after(I:Inv X pins σ H s)(h:CE X.stack X.prog X.w H s Q u s'):EP X pins σ Q u s':=by
 obtain⟨v,H',os,bare,un,aa,r,q⟩:=h;obtain⟨hh,g,d,t,ab⟩:=s';obtain rfl:ab=s.os:=os;exact⟨v,H',I.call (h':=hh) (g':=g) (d':=d) (t':=t) (ch:=[]) un aa bare (λb z=>absurd z (by simp)),r,q⟩
end
def wG (sp:Sp) (fB:List V) (E:XK) (Q:V->Hp->Prop):List V->Hp->Prop:=λvs H1=>sp (vs++fB) H1 Q E
def kg (sp:Sp) (fB:List V) (E:XK) (t:TA):TE:=λσ H Q=>t σ H (wG sp fB E Q)
inductive wH (C:Addr) (m:Str) (sp:Sp) (fB:List V) (E:XK) (t:TA) (σ:L2.St) (Q:V->Hp->Prop) (x:V) (H1:Hp):Prop
 |mk (a:_) (dx:_) (fs:_) (h0:x=.ref a) (h1:H1 a=some (.ins C dx fs)) (h2:fs.lookup m=none) (h3:t σ H1 λvs H2=>sp (x::(vs++fB)) H2 Q E):wH C m sp fB E t σ Q x H1
def sT (C:Addr) (m:Str) (sp:Sp) (fB:List V) (E:XK) (ta:TE) (t:TA):TE:=λσ H Q=>ta σ H (wH C m sp fB E t σ Q)
def wI (C:Addr) (sp:Sp) (fB:List V) (E:XK) (t:TA):TE:=λσ H Q=>t σ H λvs H1=>∀x dx,H1 x=none->H1 dx=none->dx≠x->
 sp (.ref x::(vs++fB)) (upd (upd H1 dx (.own x)) x (.ins C dx [])) (λv H2=>v=.non/\Q (.ref x) H2) E
def Binds (K:W.Frag) (fd:FuncData) (ps:List Str) (ds:List Value):Prop:=
 ∀(s:Shared) (us:List Value),K.In s.heap->(us++ds).length=ps.length->BindsTo s fd ⟨us,[]⟩ (ps.zip (us++ds))
theorem Binds.all {K:W.Frag}(h:∀us:List Value,us.length=ps.length->bindArgs fd ⟨us,[]⟩=pure (ps.zip us)):Binds K fd ps []:=λs us _ hl=>by
 rw[Q19] at hl ⊢;exact .of_eq (h us hl)
def Passes (CX:gf) (X:Cx) (E:XK):Prop:=∀(pins:List (Addr × Obj)) (σ:St) (H:Hp) (s:Shared) (e:Value) (s':Shared),Inv X pins σ H s->CX X.stack H s E e s'->X.xe e s'
section
variable {X:Cx}{CX:gf}{k:Nat}{f C:Addr}{fd:FuncData}{ps:List Str}{sp:Sp}{fB:List V}{ds:List Value}{E:XK}{x m:Str}{p pos apos:Pos}{e o:Expr}{es:List Expr}{ta:TE}{t:TA}
theorem wJ(F:fY X.prog X.w X.K X.mg X.base CX k f fd ps sp)(hr:d4 k X.A)(hb:Binds X.K fd ps ds)(hd:Vals fB ds)(hx:Passes CX X E)
 (I:Inv X pins σ H s) (r:Vals vs us) (h:sp (vs++fB) H Q E):wpAny (model X.prog X.w) X.A (call (.ref f) us) (EP X pins σ Q) X.xe s:=by
 have r2:Vals (vs++fB) (us++ds):=r.append hd;have hl:(us++ds).length=ps.length:=by rw[<-r2.length];exact F.len _ _ _ _ h
 refine wpAny_call (codeAny_mono (F.run X.A X.stack s H ⟨us,[]⟩ (us++ds) (vs++fB) Q E hr I.env0 (hb s us I.fm hl) r2 h) λr s' hq=>?_)
 cases r with
 |error e=>exact hx pins σ H s e s' I hq
 |ok fl=>
  cases fl with
  |ret u=>exact I.after hq
  |next=>exact False.elim hq
  |brk=>exact False.elim hq
  |cont=>exact False.elim hq
theorem D7 (F:fY X.prog X.w X.K X.mg X.base CX k f fd ps sp)(hr:d4 k X.A)(hg:Gl X x)(hm:X.mg x=some (.ref f))(hk:W.keepIn X.K (.ref f)=true)(hb:Binds X.K fd ps ds)(hd:Vals fB ds)(hx:Passes CX X E)
 (ha:PA X (e::es) t) (aa:(x == ("__debug__":Str))=false:=by decide) (he:starEach (e::es) X.env=(false,eval e X.env)::starEach es X.env:=by rfl) (ab:(backTo pos (starEach es X.env)).any (·.1)=false:=by rfl):
 PE X (.Call (.Name x p) (e::es) [] pos) (kg sp fB E t):=by
 intro pins s σ H Q I h;refine wpAny_Call_Name_kw (qo I hg hm ?_ aa);refine W.callWith_K (h₀:=X.base) I.ok.mod.oB hk (dg (ha pos pins s σ H _ I h) λus s1 ⟨vs,H1,I1,r,q⟩=>⟨I1.fm,?_⟩) he ab;exact wJ F hr hb hd hx I1 r q
theorem D8(he:PE X o ta)(c:Cls X.K C)(hm:Meth X.K C m f)(F:fY X.prog X.w X.K X.mg X.base CX k f fd ps sp)(hr:d4 k X.A)(hb:Binds X.K fd ps ds)(hd:Vals fB ds)(hx:Passes CX X E)(ha:PA X (e::es) t)
 (aa:starEach (e::es) X.env=(false,eval e X.env)::starEach es X.env:=by rfl) (ab:(backTo pos (starEach es X.env)).any (·.1)=false:=by rfl)
 (ht:eval (.Call (.Attribute o m apos) (e::es) [] pos) X.env=(do
   let ov <-eval o X.env
   standAt apos.atName
   let(f,first) <-holding [ov] (getMethod ov m pl)
   callWith pos f first (backTo pos (starEach (e::es) X.env)) (backToKw pos (keywordEach [] X.env))):=by rfl):
 PE X (.Call (.Attribute o m apos) (e::es) [] pos) (sT C m sp fB E ta t):=by
 intro pins s σ H Q I h;refine W.methodCall_KW (pl:=pl) (dg (he pins s σ H _ I h) λu s1 zq=>?_) ht;obtain⟨x,H1,I1,rx,a,dx,fs,ex,ea,l,q⟩:=zq;subst ex;obtain rfl:u=Value.ref a:=rx;refine DX I1 ea c hm l ?_;refine W.callWith_K (first:=[.ref a]) (h₀:=X.base) I.ok.mod.oB hm.kp (dg (ha pos pins s1 σ H1 _ I1 q) λus s2 ⟨vs,H2,I2,r,q2⟩=>⟨I2.fm,?_⟩) aa ab;exact wJ (us:=.ref a::us) (vs:=.ref a::vs) F hr hb hd hx I2 (.cons rfl r) q2
structure Mk (K:W.Frag) (C f:Addr):Prop where
 makes:W.makesIn K C=true
 init:W.findIn K (.ref C) "__init__"=some (some (.ref f))
 fn:W.isFn K (.ref f)=true
 kp:W.keepIn K (.ref C)=true
theorem D9(M:Mk X.K C f)(F:fY X.prog X.w X.K X.mg X.base CX k f fd ps sp)(hr:d4 (k+1) X.A)(hb:Binds X.K fd ps ds)(hd:Vals fB ds)
 (hx:Passes CX X E) (I:Inv X pins σ H s) (r:Vals vs us)
 (h:∀x dx,H x=none->H dx=none->dx≠x->sp (.ref x::(vs++fB)) (upd (upd H dx (.own x)) x (.ins C dx [])) (λv H2=>v=.non/\Q (.ref x) H2) E):
 wpAny (model X.prog X.w) X.A (call (.ref C) us) (EP X pins σ Q) X.xe s:=by
 have hq:=h (s.heap.objs.size+1) s.heap.objs.size (I.hok.fresh (Q15 _)) (I.hok.fresh (Q0 _)) (Q08 (Q14 _));have I2:=Inv.made (C:=C) I;have r2:Vals (V.ref (s.heap.objs.size+1)::(vs++fB)) (Value.ref (s.heap.objs.size+1)::(us++ds)):=.cons rfl (r.append hd)
 have hl:(Value.ref (s.heap.objs.size+1)::us++ds).length=ps.length:=by
  have e:=r2.length;rw[F.len _ _ _ _ hq] at e;exact e.symm
 refine wpAny_call (DT (f:=f) I.fm M.makes M.init (beq_iff_eq.mp M.fn) (codeAny_mono (F.run _ X.stack _ _ ⟨Value.ref (s.heap.objs.size+1)::us,[]⟩ (Value.ref (s.heap.objs.size+1)::(us++ds)) _ _ E (hr.make C us [])
  (I2.env0.make C us []) (hb _ (Value.ref (s.heap.objs.size+1)::us) I2.fm hl) r2 hq) λr s' aa=>?_))
 cases r with
 |error e=>exact hx pins σ _ _ e s' I2 aa
 |ok fl=>
  cases fl with
  |ret u=>
   obtain⟨v,H',I3,rv,ev,q3⟩:=I2.after aa;subst ev;exact⟨rv,⟨V.ref (s.heap.objs.size+1),H',I3,rfl,q3⟩⟩
  |next=>exact False.elim aa
  |brk=>exact False.elim aa
  |cont=>exact False.elim aa
theorem D_ (M:Mk X.K C f)(F:fY X.prog X.w X.K X.mg X.base CX k f fd ps sp)(hr:d4 (k+1) X.A)(hg:Gl X x)(hm:X.mg x=some (.ref C))(hb:Binds X.K fd ps ds)(hd:Vals fB ds)(hx:Passes CX X E)
 (ha:PA X (e::es) t) (aa:(x == ("__debug__":Str))=false:=by decide) (he:starEach (e::es) X.env=(false,eval e X.env)::starEach es X.env:=by rfl) (ab:(backTo pos (starEach es X.env)).any (·.1)=false:=by rfl):
 PE X (.Call (.Name x p) (e::es) [] pos) (wI C sp fB E t):=by
 intro pins s σ H Q I h;refine wpAny_Call_Name_kw (qo I hg hm ?_ aa);refine W.callWith_K (h₀:=X.base) I.ok.mod.oB M.kp (dg (ha pos pins s σ H _ I h) λus s1 ⟨vs,H1,I1,r,q⟩=>⟨I1.fm,?_⟩) he ab;exact D9 M F hr hb hd hx I1 r q
end
section
variable {X:Cx}{CX:gf}{k:Nat}{f C:Addr}{fd:FuncData}{ps ks:List Str}{sp:Sp}{E:XK}{x m:Str}{p pos apos kpos:Pos}{e o:Expr}{es:List Expr}{kws:List Keyword}{te ta:TE}{t tk:TA}{nm:Option Str}
variable {g:List Value->List Value->List Value}{gV:List V->List V->List V}
end
structure ng (N P:List Str) (sc:Scope):Prop where
 kind:sc.kind=.function
 co:sc.isCoroutine=false
 gen:sc.isGenerator=false
 nd:N.Nodup
 pre:N.take P.length=P
 par:∀x∈P,sc.names.lookup x=some .local\/sc.names.lookup x=some .cell
 Ea:∀y∈sc.names,y.2≠ .free
theorem J3(h1:sc.kind=.function:=by rfl)(h2:sc.isCoroutine=false:=by rfl)(h3:sc.isGenerator=false:=by rfl)(h4:N.Nodup:=by decide +kernel)(h5:N.take Q.length=Q:=by rfl)(h6:∀x∈Q,sc.names.lookup x=some .local\/sc.names.lookup x=some .cell:=by decide +kernel)(h7:∀y∈sc.names,y.2≠ .free:=by decide +kernel):ng N Q sc:=⟨h1,h2,h3,h4,h5,h6,h7⟩
theorem wK {kindOf:Str->Option NameKind}:∀{binds:List (Str × Value)}{m:Str->Option Value},(∀v,(x,v) ∉ binds)->bindL kindOf binds m x=m x
 |[],_,_=>rfl
 |(n,v)::r,m,h=>by
  unfold bindL;rw[wK λw hw=>h w (Q09 _ hw)];split
  . have:x≠n:=by rintro rfl;exact h v Q04
    simp[this]
  . rfl
theorem wM {kindOf:Str->Option NameKind}:∀{binds:List (Str × Value)}{m:Str->Option Value},(∀v,(x,v) ∉ binds)->bindC kindOf binds m x=m x
 |[],_,_=>rfl
 |(n,v)::r,m,h=>by
  unfold bindC;rw[wM λw hw=>h w (Q09 _ hw)];split
  . rfl
  . have:x≠n:=by rintro rfl;exact h v Q04
    simp[this]
theorem wN {kindOf:Str->Option NameKind}:∀{P:List Str}{vs:List Value}{i:Nat}{m:Str->Option Value},P.Nodup->P[i]? =some x->vs[i]? =some v->kindOf x=some .local->
 bindL kindOf (P.zip vs) m x=some v
 |[],_,_,_,_,h,_,_=>by simp at h
 |_::_,[],_,_,_,_,h,_=>by simp at h
 |p::P,w::vs,0,m,nd,h1,h2,hk=>by
  simp at h1 h2;subst h1;subst h2;show bindL kindOf ((p,w)::P.zip vs) m p=_;unfold bindL;rw[wK λv hv=>(List.nodup_cons.mp nd).1 (Q29 hv).1,if_pos hk];simp
 |p::P,w::vs,i+1,m,nd,h1,h2,hk=>by
  show bindL kindOf ((p,w)::P.zip vs) m x=_;unfold bindL;exact wN (i:=i) (List.nodup_cons.mp nd).2 (by simpa using h1) (by simpa using h2) hk
theorem wO {kindOf:Str->Option NameKind}:∀{P:List Str}{vs:List Value}{i:Nat}{m:Str->Option Value},P.Nodup->P[i]? =some x->vs[i]? =some v->kindOf x≠some .local->
 bindC kindOf (P.zip vs) m x=some v
 |[],_,_,_,_,h,_,_=>by simp at h
 |_::_,[],_,_,_,_,h,_=>by simp at h
 |p::P,w::vs,0,m,nd,h1,h2,hk=>by
  simp at h1 h2;subst h1;subst h2;show bindC kindOf ((p,w)::P.zip vs) m p=_;unfold bindC;rw[wM λv hv=>(List.nodup_cons.mp nd).1 (Q29 hv).1,if_neg hk];simp
 |p::P,w::vs,i+1,m,nd,h1,h2,hk=>by
  show bindC kindOf ((p,w)::P.zip vs) m x=_;unfold bindC;exact wO (i:=i) (List.nodup_cons.mp nd).2 (by simpa using h1) (by simpa using h2) hk
noncomputable def start (N:List Str) (vs:List V):St:=vs.map some++List.replicate (N.length - vs.length) none
noncomputable def cY (CX:gf) (P:Program) (w:World) (K:W.Frag) (mg:Str->Option Value) (base:Heap) (N:List Str) (qual:Str) (scope:Scope) (f:Addr) (cd:Value) (A:Around) (outer:List Env) (s:Shared) (H:Hp) (E:XK):Cx where
 prog:=P
 w:=w
 K:=K
 mg:=mg
 base:=base
 A:=A.deeper (envOfC qual scope s.heap.objs.size f cd)
 N:=N
 s₀:=s
 H₀:=H
 env:=envOfC qual scope s.heap.objs.size f cd
 outer:=outer
 stack:=envOfC qual scope s.heap.objs.size f cd::outer
 ex:=[]
 calm:=true
 fn:=λ_=>true
 pn:=[]
 xe:=λe s'=>wpAny (model P w) (A.deeper (envOfC qual scope s.heap.objs.size f cd)) (leaving (envOfC qual scope s.heap.objs.size f cd) e) (λ_ aa=>CX outer H s E e aa) (λe' aa=>CX outer H s E e' aa) s'
theorem wQ {sc:Scope}(h:sc.names.lookup x=some .cell):∃c,(cellsFrom n sc.names []).lookup x=some c:=by
 have q:=W.cellsFrom_some sc.names n [] (.inl h);exact Option.isSome_iff_exists.mp q
theorem Eb {CX:gf}{P:Program}{w:World}{K:W.Frag}{mg:Str->Option Value}{base:Heap}{N ps:List Str}{qual:Str}{scope:Scope}{f:Addr}{cd:Value}{A:Around}{s s1:Shared}{vs:List V}
 (S:ng N ps scope) (hd:A.handled=none) (e0:ma P w K mg base A outer s H) (hl:vs.length=ps.length) (r:Vals vs us)
 (x:InCallC s s.heap.objs.size (bindL (envOfC qual scope s.heap.objs.size f cd).kindOf (ps.zip us) λ_=>none) (cellsFrom (s.heap.objs.size+1) scope.names []) (bindC (envOfC qual scope s.heap.objs.size f cd).kindOf (ps.zip us) λ_=>none) s1):
 Inv (cY CX P w K mg base N qual scope f cd A outer s H E) [] (start N vs) H s1:=by
 have ae:ps.length<=N.length:=by have:=congrArg List.length S.pre;rw[Q0n] at this;omega
 obtain⟨h1,tk,rfl,hk⟩:=x.done;have aa:∀b:Addr,b ∉ (cY CX P w K mg base N qual scope f cd A outer s H E).ex:=λb z=>absurd (show b∈([]:List Addr) from z) (by simp)
 refine⟨⟨e0.mod,S.kind,rfl,rfl,Q0 _,λy z c h1 h2=>?_,λy hy=>?_,λy c _ h=>?_,λ_=>hd,Around.frames_deeper e0.frames,.inr ⟨rfl,rfl⟩,λb z=>absurd z (aa b),e0.bs,e0.jg,λb _ _=>aa b,λb z=>absurd z (aa b),e0.iF,e0.k7⟩,
  rfl,e0.bare,Un.kept hk,⟨_,x.toInCall.ns,λi y v h1 h2 h3=>?_⟩,λy c h=>⟨_,x.cell y c h⟩,e0.hok.fresh (Q0 _),λy c h=>?_,λp hp=>absurd (show p∈([]:List (Addr × Obj)) from hp) (by simp),e0.hok.kept hk,?_⟩
 . exact name_of_addr x.apart (PySem.mem_of_lookup h1) (PySem.mem_of_lookup h2)
 . have hy:scope.names.lookup y=some .cell\/scope.names.lookup y=some .free:=hy;rcases hy with hy|hy
   . exact wQ hy
   . exact absurd rfl (S.Ea _ (PySem.mem_of_lookup hy))
 . exact Q0t (x.above y c (PySem.mem_of_lookup h))
 . have hi:i<vs.length:=by
    unfold start at h2;by_cases hi:i<vs.length
    . exact hi
    . rw[Q1w (by simpa using hi)] at h2;rw[Q2o] at h2;split at h2 <;> cases h2
   have ha:vs[i]? =some v:=by
    unfold start at h2;rw[Q2a (by simpa using hi),Q0g] at h2
    cases e:vs[i]? with
    |none=>rw[e] at h2;cases h2
    |some a=>rw[e] at h2;cases h2;rfl
   obtain⟨u,hu,rv⟩:=r.get ha
   have hp:ps[i]? =some y:=by
    rw[<-S.pre,List.getElem?_take_of_lt (by omega)];exact h1
   have ab:ps.Nodup:=by rw[<-S.pre];exact S.nd.sublist (List.take_sublist _ _)
   refine⟨u,rv,?_⟩;rcases S.par y (Q16 hp) with k|k
   . exact .inl ⟨k,wN ab hp hu k⟩
   . obtain⟨c,e⟩:=wQ (n:=s.heap.objs.size+1) k;refine .inr ⟨.inl k,c,e,?_⟩;have q:=x.cell y c e;rw[wO ab hp hu (by show scope.names.lookup y≠_;rw[k];decide)] at q;exact q
 . exact e0.hok.fresh (Q0t (x.above y c (PySem.mem_of_lookup h)))
 . unfold start;show _=N.length;rw[Q0d,Q01,Q1e];omega
theorem Ec {CX:gf}{P:Program}{w:World}{K:W.Frag}{mg:Str->Option Value}{base:Heap}{k:Nat}{f:Addr}{name qual:Str}{params:Arguments}{body:List Stmt}{scope:Scope}{dV kV doc pm aa ct oc:Value}{an od:Option Addr} {N ps:List Str} (lk:K.lookup f=some ⟨oc,od,.func (W.fnOf name qual params body scope dV kV doc pm an aa ct),ah⟩) (ai:W.codeIn K aa qual=true) (S:ng N ps scope)
 (len:∀vs H Q E,sp vs H Q E->vs.length=ps.length)
 (ae:∀(A:Around) (outer:List Env) (s:Shared) (H:Hp) (vs:List V) (Q:VK) (E:XK),d4 k (A.deeper (envOfC qual scope s.heap.objs.size f aa))->sp vs H Q E->
   ∃t,g9 (cY CX P w K mg base N qual scope f aa A outer s H E) body t/\t { nx:=λ_ H'=>Q .non H',rt:=Q } (start N vs) H):
 fY P w K mg base CX (k+1) f (W.fnOf name qual params body scope dV kV doc pm an aa ct) ps sp:=by
 refine⟨len,λA outer s H args us vs Q E hr e0 hb r ag=>?_⟩;have hl:=len _ _ _ _ ag;have KX:K.In s.heap:=e0.mod.oB.keeps λb o e=>(e0.bs b o e).1;have lim:s.heap.NoLimit:=e0.mod.nolimit.keeps λb o e=>(e0.bs b o e).1
 have af:∀y∈ps.zip us,scope.names.lookup y.1=some .local\/(scope.names.lookup y.1=some .cell/\((cellsFrom (s.heap.objs.size+1) scope.names []).lookup y.1).isSome=true):=λ⟨n,v⟩ hy=>by
  rcases S.par n (Q29 hy).1 with q|q
  . exact .inl q
  . exact .inr ⟨q,W.cellsFrom_some _ _ _ (.inl q)⟩
 refine codeAny_call_function hr.depth (KX _ _ lk) rfl S.co S.gen rfl (W.codeRec_of KX ai) (hb _ _ _ _ ?_);refine wpAny_newFunctionEnv_cells S.kind af λenv he s1 x=>?_;subst he;refine⟨lim.keeps x.toInCall.keep,codeAny_func ?_⟩;obtain⟨t,ht,hq⟩:=ae A outer s H vs Q E (hr.deeper _) ag;have I:Inv (cY CX P w K mg base N qual scope f aa A outer s H E) [] (start N vs) H s1:=Eb S hr.hd e0 hl r x;refine Q0r (ht [] s1 (start N vs) H _ I hq) (λfl s' hs=>?_) λe s' hs=>hs
 have fin:∀{ab:St} {H':Hp} {v:V} {u:Value},Inv (cY CX P w K mg base N qual scope f aa A outer s H E) [] ab H' s'->RelV v u->Q v H'->CE outer P w H s Q u s':=
  λ{ab H' v u} J rv q=>⟨v,H',J.os,J.bare,J.base,J.hok,rv,q⟩
 cases fl with
 |ret u=>
  obtain⟨v,ab,H',J,rv,q⟩:=hs;exact fin J rv q
 |next=>
  obtain⟨ab,H',J,q⟩:=hs;exact fin (v:=V.non) (u:=Value.none) J rfl q
 |brk=>
  obtain⟨_,_,_,q⟩:=hs;exact False.elim q
 |cont=>
  obtain⟨_,_,_,q⟩:=hs;exact False.elim q
section
variable {X:Cx}{x:Str}{p pos:Pos}{e:Expr}{es:List Expr}{t:TA}{id T:String}{r:List V->Hp->VK->Prop}
def Ed (r:List V->Hp->VK->Prop) (Q:V->Hp->Prop):List V->Hp->Prop:=λvs H1=>r vs H1 Q
def sU (r:List V->Hp->VK->Prop) (t:TA):TE:=λσ H Q=>t σ H (Ed r Q)
theorem dG (hc:iq X (.builtin id) r)(hg:Gl X x)(hm:X.mg x=none)(hv:bootBuiltins x=some (.builtin id))(ha:PA X (e::es) t)(hn:x≠"__name__":=by decide)(aa:(x == ("__debug__":Str))=false:=by decide)
 (he:starEach (e::es) X.env=(false,eval e X.env)::starEach es X.env:=by rfl) (ab:(backTo pos (starEach es X.env)).any (·.1)=false:=by rfl):PE X (.Call (.Name x p) (e::es) [] pos) (sU r t):=by
 intro pins s σ H Q I h;refine wpAny_Call_Name_kw (jD I hg hm hv ?_ hn aa);exact PyProof.Rows.callWith_builtin1 (dg (ha pos pins s σ H _ I h) λus s1 ⟨vs,H1,I1,r1,q1⟩=>hc pins s1 σ H1 vs us Q I1 r1 q1) he ab
theorem jG (hc:iq X (.type T) r)(hg:Gl X x)(hm:X.mg x=none)(hv:bootBuiltins x=some (.type T))(ha:PA X (e::es) t)(hn:x≠"__name__":=by decide)(aa:(x == ("__debug__":Str))=false:=by decide)
 (he:starEach (e::es) X.env=(false,eval e X.env)::starEach es X.env:=by rfl) (ab:(backTo pos (starEach es X.env)).any (·.1)=false:=by rfl):PE X (.Call (.Name x p) (e::es) [] pos) (sU r t):=by
 intro pins s σ H Q I h;refine wpAny_Call_Name_kw (jD I hg hm hv ?_ hn aa);exact PyProof.Rows.callWith_type1 (dg (ha pos pins s σ H _ I h) λus s1 ⟨vs,H1,I1,r1,q1⟩=>hc pins s1 σ H1 vs us Q I1 r1 q1) he ab
end
end L2
local macro_rules|`(tactic|ac_rfl)=>`(tactic|try dsimp only[L2.cY,L2.Cx.c7])
namespace HT
open PyProof.Rows
section
open SeqAt
open PySem.AutoSeq1 (wpAny_loadPart')
open MeetsSeq MeetsSeq2 MeetsSeq3
end
section
variable {prog:Program}{w:World}{A:Around}{E:Value->Shared->Prop}{s:Shared}
noncomputable def gI (n d:Nat):Option Int->Nat
 |none=>d
 |some v=>if v<0 then(v+(n:Int)).toNat else min v.toNat n
end
end HT
namespace L2
open Spec PyProof.Rows
noncomputable abbrev TO:=St->Hp->(Option Int->Hp->Prop)->Prop
def PO (X:Cx) (e:Option Expr) (t:TO):Prop:=
 ∀(pins:List (Addr × Obj)) (s:Shared) (σ:St) (H:Hp) (Q:Option Int->Hp->Prop),Inv X pins σ H s->t σ H Q->
  wpAny (model X.prog X.w) X.A (evalPart e X.env) (λu s'=>∃o H',Inv X pins σ H' s'/\IsPart u o/\Q o H') X.xe s
def Ee:TO:=λ_ H Q=>Q none H
inductive wR (Q:Option Int->Hp->Prop) (x:V) (H1:Hp):Prop
 |mk (i:_) (h0:x=.int i) (h1:Q (some i) H1):wR Q x H1
def Ef (t:TE):TO:=λσ H Q=>t σ H (wR Q)
section
variable {X:Cx}{e:Expr}{te:TE}{lo hi:Option Expr}{tl th:TO}{pos p2:Pos}
theorem qB:PO X none Ee:=by
 intro pins s σ H Q I h;rw[evalPart_none];exact Q0a ⟨none,H,I,.none,h⟩
theorem qC (h:PE X e te):PO X (some e) (Ef te):=by
 intro pins s σ H Q I hw;rw[evalPart_some];refine dg (h pins s σ H _ I hw) λu s1 zq=>?_;obtain⟨x,H1,I1,r1,q1⟩:=zq;obtain⟨i,rfl,q⟩:=q1;obtain⟨t,rfl⟩:=r1;exact⟨some i,H1,I1,.int i t,q⟩
def sV (X:Cx) (r:V->Option Int->Option Int->Hp->VK->Prop):Prop:=
 ∀(pins:List (Addr × Obj)) (s:Shared) (σ:St) (H:Hp) (x:V) (v vl vu:Value) (lo hi:Option Int) (sl:Addr) (Q:VK),Inv X pins σ H s->RelV x v->s.heap.IsSliceOf sl vl vu .none->IsPart vl lo->IsPart vu hi->r x lo hi H Q->
  ∃T id,typeLookup (.type T) "__getitem__"=pure (some (.builtin id))/\s.TypeIs v T/\wpAny (model X.prog X.w) X.A (getItem v (.ref sl)) (EP X pins σ Q) X.xe s
def Eg (r:V->Option Int->Option Int->Hp->VK->Prop) (te:TE) (tl th:TO):TE:=λσ H Q=>te σ H λx H1=>tl σ H1 λl H2=>th σ H2 λu H3=>r x l u H3 Q
theorem qD(hr:sV X r)(he:PE X e te)(hl:PO X lo tl)(hu:PO X hi th):PE X (.Subscript e (.Slice lo hi none p2) pos) (Eg r te tl th):=by
 intro pins s σ H Q I h;refine Subscript_ (dg (he pins s σ H _ I h) λv s1 zq=>?_);obtain⟨x,H1,I1,r1,q1⟩:=zq;refine wpAny_Slice (dg (hl pins s1 σ H1 _ I1 q1) λvl s2 ⟨l,H2,I2,pl,q2⟩=>dg (hu pins s2 σ H2 _ I2 q2) λvu s3 zq=>?_);obtain⟨u,H3,I3,pu,q3⟩:=zq;rw[evalPart_none];refine Q0a ?_;have I4:Inv X pins σ H3 { s3 with heap:=s3.heap.push { cls:=.type "slice",data:=.fields #[vl,vu,.none] } }:=I3.kept (t':=s3.toks) λb ob q=>Q06 _ q;obtain⟨T,id,hT,ht,hg⟩:=hr pins { s3 with heap:=s3.heap.push { cls:=.type "slice",data:=.fields #[vl,vu,.none] } } σ H3 x v vl vu l u s3.heap.objs.size Q I4 r1 (Heap.IsSliceOf.new ..) pl pu q3;show wpAny (model X.prog X.w) X.A (subscriptTail e (.Slice lo hi none p2) v (.ref s3.heap.objs.size)) (EP X pins σ Q) X.xe { s3 with heap:=s3.heap.push { cls:=.type "slice",data:=.fields #[vl,vu,.none] } };exact tail_any (ops:=[.ref s3.heap.objs.size,v]) ht hT hg (by with_unfolding_all rfl)
noncomputable def kh (xs:List V) (lo hi:Option Int):List V:=(xs.drop (HT.gI xs.length 0 lo)).take (HT.gI xs.length xs.length hi - HT.gI xs.length 0 lo)
theorem wU (xs:List V)(lo hi:Option Int):(kh xs lo hi).length<=xs.length:=by
 unfold kh;rw[Q0n,Q2p];omega
end
noncomputable def jH (n:Nat) (i:Int):Option Nat:=if 0<=i then(if i<n then some i.toNat else none) else if -(n:Int)<=i then some (i+n).toNat else none
noncomputable def fS {α:Type}(xs:List α) (i:Int):Option α:=(jH xs.length i).bind λj=>xs[j]?
theorem wV {n:Nat}(h:jH n i=some j):seqIndex? i n=some j/\j<n/\ -(n:Int)<=i/\i<n:=by
 unfold jH at h;by_cases h0:0<=i
 . rw[if_pos h0] at h;by_cases h1:i<n
   . rw[if_pos h1] at h;have e:i.toNat=j:=Option.some.inj h;exact⟨by rw[seqIndex_of h0 h1,e],by omega,by omega,h1⟩
   . rw[if_neg h1] at h;cases h
 . rw[if_neg h0] at h;by_cases h1: -(n:Int)<=i
   . rw[if_pos h1] at h;have e:(i+n).toNat=j:=Option.some.inj h;exact⟨by rw[seqIndex_neg (by omega) h1,e],by omega,h1,by omega⟩
   . rw[if_neg h1] at h;cases h
theorem sW {α:Type}{xs:List α}{i:Int}{v:α}(h:fS xs i=some v):∃j,seqIndex? i xs.length=some j/\xs[j]? =some v/\j<xs.length/\ -(xs.length:Int)<=i/\i<xs.length:=by
 unfold fS at h
 cases e:jH xs.length i with
 |none=>rw[e] at h;cases h
 |some j=>
  rw[e] at h;obtain⟨h1,h2,h3,h4⟩:=wV e;exact⟨j,h1,h,h2,h3,h4⟩
theorem fe {α:Type}{xs:List α}{j:Nat}{v:α}(h:xs[j]? =some v):fS xs (j:Int)=some v:=by
 have hj:j<xs.length:=(List.getElem?_eq_some_iff.mp h).1
 have e:jH xs.length (j:Int)=some j:=by
  unfold jH;rw[if_pos (by omega),if_pos (by omega)];simp
 unfold fS;rw[e];exact h
def sX (b:Expr):Prop:=∀o i,subscripted b false o i=operate [o,i] (getItem o i)
def qE (X:Cx) (r:R2):Prop:=
 ∀(value slice:Expr) (pins:List (Addr × Obj)) (s:Shared) (σ:St) (H:Hp) (x y:V) (v u:Value) (Q:VK),Inv X pins σ H s->RelV x v->RelV y u->r x y H Q->
  subscripted slice false v u=operate [v,u] (getItem v u)->wpAny (model X.prog X.w) X.A (subscriptTail value slice v u) (EP X pins σ Q) X.xe s
def sY (X:Cx) (id:String) (r:V->List V->Hp->VK->Prop):Prop:=
 ∀(pins:List (Addr × Obj)) (s:Shared) (σ:St) (H:Hp) (x:V) (xs:List V) (v:Value) (us:List Value) (Q:VK),Inv X pins σ H s->RelV x v->Vals xs us->r x xs H Q->
  wpAny (model X.prog X.w) X.A (call (.builtin id) (v::us)) (EP X pins σ Q) X.xe s
section
variable {X:Cx}{a b:Expr}{ta tb:TE}{pos:Pos}
theorem km(hr:qE X r)(ha:PE X a ta)(hb:PE X b tb)(hs:sX b):PE X (.Subscript a b pos) (d6 r ta tb):=by
 intro pins s σ H Q I h;exact Subscript_ (sH ha hb I h λv u s2 x y H2 I2 rx ry q=>hr a b pins s2 σ H2 x y v u Q I2 rx ry q (hs _ _))
inductive wW (K:W.Frag) (x:V) (y:V) (H:Hp) (Q:V->Hp->Prop):Prop
 |mk (p:_) (xs:_) (i:_) (v:_) (h0:x=.ref p) (h1:y=.int i) (h2:cM K H p xs) (h3:fS xs i=some v) (h4:Q v H):wW K x y H Q
def wX (K:W.Frag):R2:=λx y H Q=>wW K x y H Q
inductive wY (K:W.Frag) (x:V) (y:V) (H:Hp) (Q:V->Hp->Prop):Prop
 |mk (p:_) (xs:_) (i:_) (v:_) (h0:x=.ref p) (h1:y=.int i) (h2:cJ K H p xs) (h3:fS xs i=some v) (h4:Q v H):wY K x y H Q
def gm (K:W.Frag):R2:=λx y H Q=>wY K x y H Q
inductive wZ (x:V) (y:V) (H:Hp) (Q:V->Hp->Prop):Prop
 |mk (z:_) (i:_) (c:_) (h0:x=.str z) (h1:y=.int i) (h2:z.length<=sizeLine) (h3:fS z.cps.toList i=some c) (h4:Q (.str ⟨#[c]⟩) H):wZ x y H Q
def Eh:R2:=λx y H Q=>wZ x y H Q
theorem Ej:qE X (wX X.K):=by
 intro value slice pins s σ H x y v u Q I rx ry h hs;obtain⟨p,xs,i,z,rfl,rfl,hq,he,q⟩:=h
 cases rx;obtain⟨t,rfl⟩:=ry;obtain⟨aa,r,pl,hz⟩:=I.list hq;obtain⟨j,h1,h2,h3,h4,h5⟩:=sW he;obtain⟨w,ew,ab⟩:=r.get h2;have hl:=r.length;have hn:=m8;have fin:EP X pins σ Q w s:=⟨z,H,I,ab,q⟩;by_cases h0:0<=i
 . have hj:i.toNat=j:=by
    rw[seqIndex_of h0 h5] at h1;exact Option.some.inj h1
   exact item_listR pl.isList h0 (by omega) (by rw[hj];simpa using ew) fin hs
 . have hj:(i+(aa.toArray.size:Int)).toNat=j:=by
    rw[seqIndex_neg (by omega) h4] at h1;rw[Q05,<-hl];exact Option.some.inj h1
   exact subscriptTail_builtinR (x:=w) pl.isList.typeIs slot_list_getitem.lookup
    (wpAny_getItem_list_neg (Q:=λr s'=>r=w/\EP X pins σ Q r s') pl.isList (by omega) (by rw[Q05] <;> omega) (by omega) (by rw[hj];simpa using ew) ⟨rfl,fin⟩) hs
theorem El:qE X (gm X.K):=by
 intro value slice pins s σ H x y v u Q I rx ry h hs;obtain⟨p,xs,i,z,rfl,rfl,hq,he,q⟩:=h
 cases rx;obtain⟨t,rfl⟩:=ry;obtain⟨ab,r,pl,hz⟩:=I.tuple hq;obtain⟨j,h1,h2,h3,h4,h5⟩:=sW he;obtain⟨w,ew,aa⟩:=r.get h2;have hl:=r.length;have hn:=m8;have fin:EP X pins σ Q w s:=⟨z,H,I,aa,q⟩
 exact subscriptTail_builtinR (x:=w) pl.typeIs slot_tuple_getitem.lookup
  (getItem_tuple (j:=j) (Q:=λr s'=>r=w/\EP X pins σ Q r s') pl (by omega) (by omega) (by rw[Q05,<-hl];exact h1) (by simpa using ew) ⟨rfl,fin⟩) hs
theorem mf:qE X Eh:=by
 intro value slice pins s σ H x y v u Q I rx ry h hs;obtain⟨z,i,c,rfl,rfl,hz,he,q⟩:=h;obtain⟨t,rfl⟩:=rx;obtain⟨t',rfl⟩:=ry;obtain⟨j,h1,h2,h3,h4,h5⟩:=sW he;have hl:z.cps.toList.length=z.length:=by simp[Str.length]
 rw[hl] at h1 h4 h5;have hn:=m8
 exact tail_any (typeIs_str s z t) slot_str_getitem.lookup (getItem_str (c:=c) (by
  have e1:decide (i< -(2 ^ 63:Int))=false:=decide_eq_false (by omega);have e2:decide (i ≥ 2 ^ 63)=false:=decide_eq_false (by omega);rw[e1,e2,Bool.or_false]) (by rw[h1];simpa using h2) ⟨.str ⟨#[c]⟩,H,I.tok _,⟨_,rfl⟩,q⟩) hs
theorem Em (aa:List Value)(n j:Nat)(u:Value):Obj.mapSeq (·.setIfInBounds j u) { cls:=.type "list",data:=.seq aa.toArray n }={ cls:=.type "list",data:=.seq (aa.set j u).toArray n }:=by
 simp[Obj.mapSeq]
theorem Inv.lst(I:Inv X pins σ H s)(h:H p=some (.lst xs)):
 ∃(aa:List Value) (n:Nat),Vals xs aa/\s.heap.get? p=some { cls:=.type "list",data:=.seq aa.toArray n }/\xs.length<=sizeLine:=by
 obtain⟨z,aa,n,r,e⟩:=I.hok p _ h;exact⟨aa,n,r,e,z⟩
theorem Inv.Eo{s:Shared}{xs ys:List V}{aa its':List Value}{f:Obj->Obj}(I:Inv X pins σ H s)(h:H p=some (.lst xs))
 (ho:s.heap.get? p=some { cls:=.type "list",data:=.seq aa.toArray n }) (hf:f { cls:=.type "list",data:=.seq aa.toArray n }={ cls:=.type "list",data:=.seq its'.toArray n' }) (r:Vals ys its') (hz:ys.length<=sizeLine) (t:Nat):
 Inv X pins σ (upd H p (.lst ys)) { s with heap:=s.heap.update p f,toks:=t }:=by
 have e:(s.heap.update p f).get? p=some { cls:=.type "list",data:=.seq its'.toArray n' }:=by
  rw[Q1x f ho (by rw[hf] <;> rfl),hf]
 refine I.write (x:=p) (e:=p) (by rw[h];trivial) (.inl rfl) (λb u hb q=>(Q1a _ _ (Ne.symm hb)).trans q) ⟨_,e⟩ ?_;exact⟨hz,its',n',r,e⟩
def Ep:V->V->V->Hp->(Hp->Prop)->Prop:=λo i v H Q=>∃p xs k j,o=.ref p/\i=.int k/\H p=some (.lst xs)/\jH xs.length k=some j/\Q (upd H p (.lst (xs.set j v)))
theorem set_list:vV X Ep:=by
 intro pins s σ H o i v ov iv u Q I ro ri rv h;obtain⟨p,xs,k,j,rfl,rfl,hp,hj,q⟩:=h
 cases ro;obtain⟨t,rfl⟩:=ri;obtain⟨aa,n,r,ho,hz⟩:=I.lst hp;obtain⟨h1,h2,h3,h4⟩:=wV hj;have hl:=r.length;have hn:=m8
 have I':Inv X pins σ (upd H p (.lst (xs.set j v))) { s with heap:=s.heap.update p (Obj.mapSeq (·.setIfInBounds j u)) }:=
  I.Eo hp ho (Em aa n j u) (r.set rv j) (by rw[List.length_set];exact hz) s.toks
 by_cases h0:0<=k
 . have hk:k.toNat=j:=by
    rw[seqIndex_of h0 h4] at h1;exact Option.some.inj h1
   exact W.ki_setAt ho h0 (by omega) (by rw[Q05,<-hl];exact h4) (by rw[hk];exact⟨_,I',q⟩)
 . have hk:(k+(aa.toArray.size:Int)).toNat=j:=by
    rw[seqIndex_neg (by omega) h3] at h1;rw[Q05,<-hl];exact Option.some.inj h1
   exact W.ki_setBack ho (by omega) (by rw[Q05,<-hl];exact h3) (by omega) (by rw[hk];exact⟨_,I',q⟩)
theorem Er (lo hi:Option Int)(n:Nat):(sliceBounds lo hi none n).1=((HT.gI n 0 lo:Nat):Int)/\(sliceBounds lo hi none n).2.1=((HT.gI n n hi:Nat):Int)/\(sliceBounds lo hi none n).2.2=1:=by
 refine⟨?_,?_,rfl⟩
 . cases lo with
   |none=>simp[sliceBounds,HT.gI]
   |some i=>
    simp only[sliceBounds,HT.gI,Q2q,show(1:Int) > 0 by decide,if_true];by_cases h:i<0
    . simp only[h,if_true] <;> omega
    . simp only[h,if_false] <;> omega
 . cases hi with
   |none=>simp[sliceBounds,HT.gI]
   |some i=>
    simp only[sliceBounds,HT.gI,Q2q,show(1:Int) > 0 by decide,if_true];by_cases h:i<0
    . simp only[h,if_true] <;> omega
    . simp only[h,if_false] <;> omega
theorem Es (aa:List Value)(lo hi:Option Int):slicePick aa.toArray lo hi none=((aa.drop (HT.gI aa.length 0 lo)).take (HT.gI aa.length aa.length hi - HT.gI aa.length 0 lo)).toArray:=by
 obtain⟨h1,h2,h3⟩:=Er lo hi aa.toArray.size;unfold slicePick;rw[h1,h2,h3];simp only[sliceRange_one,pick_run,Q05] <;> rfl
inductive w5 (K:W.Frag) (x:V) (lo:Option Int) (hi:Option Int) (H:Hp) (Q:V->Hp->Prop):Prop
 |mk (a:_) (xs:_) (h0:x=.ref a) (h1:cM K H a xs) (h2:∀p,H p=none->Q (.ref p) (upd H p (.lst (kh xs lo hi)))):w5 K x lo hi H Q
def Et (K:W.Frag):V->Option Int->Option Int->Hp->VK->Prop:=λx lo hi H Q=>w5 K x lo hi H Q
theorem w6:sV X (Et X.K):=by
 intro pins s σ H x v vl vu lo hi sl Q I rx hs pl pu h;obtain⟨a,xs,rfl,hx,q⟩:=h
 cases rx;obtain⟨aa,r,ht,hz⟩:=I.list hx;have hlen:=r.length;refine⟨"list",_,slot_list_getitem.lookup,ht.isList.typeIs,?_⟩;refine wpAny_getItem_list_slice ht.isList hs pl pu .none (by simp) ?_ (by rw[Q05] <;> omega);rw[Es,<-hlen];refine⟨.ref s.heap.objs.size,_,I.laid (t':=s.toks) (o:=.lst (kh xs lo hi)) (λb ob q=>Q06 _ q) (Q0 _) ?_,rfl,q _ (I.hok.fresh (Q0 _))⟩;exact⟨Q0b (wU xs lo hi) hz,_,0,(r.drop (HT.gI xs.length 0 lo)).take (HT.gI xs.length xs.length hi - HT.gI xs.length 0 lo),Q0i _ rfl⟩
noncomputable def ko:V->Bool
 | .non=>true
 | .bl _=>true
 | .int _=>true
 | .str _=>true
 |_=>false
noncomputable def kq:V->V->Bool
 | .non,.non=>true
 | .bl a,.bl b=>a == b
 | .bl a,.int b=>(if a then 1 else 0) == b
 | .int a,.bl b=>a == (if b then 1 else 0)
 | .int a,.int b=>a == b
 | .str a,.str b=>a == b
 |_,_=>false
theorem Eu(ry:RelV y u)(rx:RelV x v)(fy:ko y=true)(fx:ko x=true):SeqAt.EqAt A s u v (kq y x):=by
 cases y with
 |non=>
  cases ry
  cases x with
  |non=>cases rx;exact SeqAt.EqAt.same _
  |bl b=>cases rx;exact SeqAt.EqAt.none_bool b
  |int b=>obtain⟨t,rfl⟩:=rx;exact SeqAt.EqAt.none_int b t
  |str b=>obtain⟨t,rfl⟩:=rx;exact SeqAt.EqAt.none_str b t
  |_=>exact absurd (show false=true from fx) Bool.false_ne_true
 |bl a=>
  cases ry
  cases x with
  |non=>cases rx;exact SeqAt.EqAt.bool_none a
  |bl b=>cases rx;exact SeqAt.EqAt.bool_bool a b
  |int b=>obtain⟨t,rfl⟩:=rx;exact SeqAt.EqAt.bool_int a b t
  |str b=>obtain⟨t,rfl⟩:=rx;exact SeqAt.EqAt.bool_str a b t
  |_=>exact absurd (show false=true from fx) Bool.false_ne_true
 |int a=>
  obtain⟨t',rfl⟩:=ry
  cases x with
  |non=>cases rx;exact SeqAt.EqAt.int_none a t'
  |bl b=>cases rx;exact SeqAt.EqAt.int_bool a t' b
  |int b=>obtain⟨t,rfl⟩:=rx;exact SeqAt.EqAt.int_int a t' b t
  |str b=>obtain⟨t,rfl⟩:=rx;exact SeqAt.EqAt.int_str a t' b t
  |_=>exact absurd (show false=true from fx) Bool.false_ne_true
 |str a=>
  obtain⟨t',rfl⟩:=ry
  cases x with
  |non=>cases rx;exact SeqAt.EqAt.str_none a t'
  |bl b=>cases rx;exact SeqAt.EqAt.str_bool a t' b
  |int b=>obtain⟨t,rfl⟩:=rx;exact SeqAt.EqAt.str_int a t' b t
  |str b=>obtain⟨t,rfl⟩:=rx;exact SeqAt.EqAt.str_str a t' b t
  |_=>exact absurd (show false=true from fx) Bool.false_ne_true
 |_=>exact absurd (show false=true from fy) Bool.false_ne_true
noncomputable def h_ (x:V) (u:Value):Bool:=match u with
 | .none=>kq .non x
 | .bool b=>kq (.bl b) x
 | .int i _=>kq (.int i) x
 | .str z _=>kq (.str z) x
 |_=>false
theorem w_(r:RelV y u)(f:ko y=true):h_ x u=kq y x:=by
 cases y with
 |non=>cases r;rfl
 |bl b=>cases r;rfl
 |int i=>obtain⟨t,rfl⟩:=r;rfl
 |str z=>obtain⟨t,rfl⟩:=r;rfl
 |_=>exact absurd (show false=true from f) Bool.false_ne_true
theorem oP:∀{xs:List V}{us:List Value},Vals xs us->xs.all ko=true->us.any (h_ x)=xs.any λy=>kq y x
 |_,_,.nil,_=>rfl
 |y::xs,u::us,.cons r t,f=>by
  rw[Q1y,Bool.and_eq_true] at f;rw[Q1f,Q1f,w_ r f.1,oP t f.2]
theorem oQ(rx:RelV x v)(fx:ko x=true):∀{xs:List V}{us:List Value},Vals xs us->xs.all ko=true->∀u∈us,SeqAt.EqAt A s u v (h_ x u)
 |_,_,.nil,_=>λu hu=>by cases hu
 |y::xs,u::us,.cons r t,f=>λu' hu=>by
  rw[Q1y,Bool.and_eq_true] at f;rcases List.mem_cons.mp hu with rfl|hu
  . rw[w_ r f.1];exact Eu r rx f.1 fx
  . exact oQ rx fx t f.2 u' hu
noncomputable def inV (x:V) (xs:List V):Bool:=xs.any λy=>kq y x
inductive xa (K:W.Frag) (neg:Bool) (x:V) (y:V) (H:Hp) (Q:V->Hp->Prop):Prop
 |mk (p:_) (xs:_) (h0:y=.ref p) (h1:(cM K H p xs\/cJ K H p xs)) (h2:ko x=true) (h3:xs.all ko=true) (h4:Q (.bl (if neg then !inV x xs else inV x xs)) H):xa K neg x y H Q
def mh (K:W.Frag) (neg:Bool):R2:=λx y H Q=>xa K neg x y H Q
theorem qF:fw X (compareOp .In) (mh X.K false):=by
 intro pins s σ H x y v u Q I rx ry h;obtain⟨p,xs,rfl,hq,fx,fs,q⟩:=h
 cases ry;rcases hq with hq|hq
 . obtain⟨aa,r,pl,hz⟩:=I.list hq;refine SeqAt.in_listAt (h_ x) pl.isList (λw hw=>oQ rx fx r fs w (by simpa using hw)) ⟨.bl _,H,I,rfl,?_⟩;rw[show aa.toArray.any (h_ x)=aa.any (h_ x) by simp,oP r fs];exact q
 . obtain⟨aa,r,pl,hz⟩:=I.tuple hq;refine SeqAt.in_tupleAt (h_ x) pl (λw hw=>oQ rx fx r fs w (by simpa using hw)) ⟨.bl _,H,I,rfl,?_⟩;rw[show aa.toArray.any (h_ x)=aa.any (h_ x) by simp,oP r fs];exact q
theorem qG:fw X (compareOp .NotIn) (mh X.K true):=by
 intro pins s σ H x y v u Q I rx ry h;obtain⟨p,xs,rfl,hq,fx,fs,q⟩:=h
 cases ry;rcases hq with hq|hq
 . obtain⟨aa,r,pl,hz⟩:=I.list hq;refine SeqAt.notIn_listAt (h_ x) pl.isList (λw hw=>oQ rx fx r fs w (by simpa using hw)) ⟨.bl _,H,I,rfl,?_⟩;rw[show aa.toArray.any (h_ x)=aa.any (h_ x) by simp,oP r fs];exact q
 . obtain⟨aa,r,pl,hz⟩:=I.tuple hq;refine SeqAt.notIn_tupleAt (h_ x) pl (λw hw=>oQ rx fx r fs w (by simpa using hw)) ⟨.bl _,H,I,rfl,?_⟩;rw[show aa.toArray.any (h_ x)=aa.any (h_ x) by simp,oP r fs];exact q
inductive sZ (K:W.Frag) (xs:List V) (H:Hp) (Q:V->Hp->Prop):Prop
 |mk (p:_) (ys:_) (h0:xs=[.ref p]) (h1:(cM K H p ys\/cJ K H p ys)) (h2:Q (.int ys.length) H):sZ K xs H Q
theorem fC:iq X (.builtin "len") (sZ X.K):=by
 intro pins s σ H xs us Q I r h;obtain⟨p,ys,rfl,hq,q⟩:=h;obtain⟨u,rfl,rx⟩:=vals1 r
 cases rx;have hn:=m8;rcases hq with hq|hq
 . obtain⟨aa,r',pl,hz⟩:=I.list hq;have hlen:=r'.length;exact Calls.call_len_list pl.isList (by simp only[Q05] <;> omega) ⟨.int ys.length,H,I.tok _,⟨s.toks+1,by rw[Q05,hlen]⟩,q⟩
 . obtain⟨aa,r',pl,hz⟩:=I.tuple hq;have hlen:=r'.length;exact len_tuple pl (by simp only[Q05] <;> omega) ⟨.int ys.length,H,I.tok _,⟨s.toks+1,by rw[Q05,hlen]⟩,q⟩
inductive xc (xs:List V) (H:Hp) (Q:V->Hp->Prop):Prop
 |mk (z:_) (h0:xs=[.str z]) (h1:z.length<=sizeLine) (h2:Q (.int z.length) H):xc xs H Q
theorem Ew:iq X (.builtin "len") xc:=by
 intro pins s σ H xs us Q I r h;obtain⟨z,rfl,hz,q⟩:=h;obtain⟨u,rfl,t,rfl⟩:=vals1 r;have hn:=m8;exact len_str (by omega) ⟨.int z.length,H,I.tok _,⟨_,rfl⟩,q⟩
inductive xf (K:W.Frag) (xs:List V) (H:Hp) (Q:V->Hp->Prop):Prop
 |mk (p:_) (ys:_) (h0:xs=[.ref p]) (h1:(cM K H p ys\/cJ K H p ys)) (h2:∀l,H l=none->Q (.ref l) (upd H l (.lst ys))):xf K xs H Q
theorem qH:iq X (.type "list") (xf X.K):=by
 intro pins s σ H xs us Q I r h;obtain⟨p,ys,rfl,hq,q⟩:=h;obtain⟨u,rfl,rx⟩:=vals1 r
 cases rx
 have fin:∀(aa:List Value),Vals ys aa->ys.length<=sizeLine->∀(h':Heap) (c':Nat),(∀b o',s.heap.get? b=some o'->h'.get? b=some o')->
  h'.get? s.heap.objs.size=some { cls:=.type "list",dict:=none,data:=.seq aa.toArray c',slots:=#[] }->EP X pins σ Q (.ref s.heap.objs.size) { s with heap:=h' }:=λaa r' hz h' c' kp e=>
  ⟨.ref s.heap.objs.size,_,I.laid (t':=s.toks) kp (Q0 _) (show fc X.prog X.w _ h' _ (.lst ys) from⟨hz,aa,c',r',e⟩),rfl,q _ (I.hok.fresh (Q0 _))⟩
 rcases hq with hq|hq
 . obtain⟨aa,r',pl,hz⟩:=I.list hq;have hlen:=r'.length;obtain⟨o,ho,hc,n,hd⟩:=pl.isList;exact call_list_seq p (.inl rfl) ho hc hd (λh' c' kp e=>fin aa r' hz h' c' kp e) (by simp only[Q05] <;> omega)
 . obtain⟨aa,r',pl,hz⟩:=I.tuple hq;have hlen:=r'.length;obtain⟨o,ho,hc,n,hd⟩:=pl;exact call_list_seq p (.inr rfl) ho hc hd (λh' c' kp e=>fin aa r' hz h' c' kp e) (by simp only[Q05] <;> omega)
inductive xg (K:W.Frag) (xs:List V) (H:Hp) (Q:V->Hp->Prop):Prop
 |mk (p:_) (ys:_) (h0:xs=[.ref p]) (h1:((cM K H p ys/\∀l,H l=none->Q (.ref l) (upd H l (.tup ys)))\/(cJ K H p ys/\Q (.ref p) H))):xg K xs H Q
theorem s_:iq X (.type "tuple") (xg X.K):=by
 intro pins s σ H xs us Q I r h;obtain⟨p,ys,rfl,h⟩:=h;obtain⟨u,rfl,rx⟩:=vals1 r
 cases rx;rcases h with⟨hq,q⟩|⟨hq,q⟩
 . obtain⟨aa,r',pl,hz⟩:=I.list hq;have hlen:=r'.length;refine call_tuple_list pl.isList (λh' kp=>?_) (by simp only[Q05] <;> omega);have I1:Inv X pins σ H { s with heap:=h' }:=I.kept (t':=s.toks) kp
   have I2:Inv X pins σ (upd H h'.objs.size (.tup ys)) { s with heap:=h'.push { cls:=.type "tuple",data:=.seq aa.toArray } }:=
    I1.laid (t':=s.toks) (λb o e=>Q06 _ e) (Q0 _) (show fc X.prog X.w _ _ _ (.tup ys) from⟨hz,aa,r',IsTup.new _ _⟩)
   exact⟨.ref h'.objs.size,_,I2,rfl,q _ (I1.hok.fresh (Q0 _))⟩
 . obtain⟨aa,r',pl,hz⟩:=I.tuple hq;exact call_tuple_same pl ⟨.ref p,H,I,rfl,q⟩
def xh (K:W.Frag) (T:String) (x:V) (H:Hp):Prop:=match x with
 | .str _=>T="str"
 | .int _=>T="int"
 | .ref p=>(T="list"/\∃xs,cM K H p xs)\/(T="tuple"/\∃o,K.lookup p=some o/\o.cls=.type "tuple"/\o.dict=none)\/
    (T="dict"/\((∃kvs,H p=some (.dK kvs))\/∃kvs,H p=some (.dT kvs)))\/(T="set"/\∃S n,H p=some (.set S n))
 |_=>False
theorem Ex(I:Inv X pins σ H s)(r:RelV x v)(ty:xh X.K T x H):
 s.TypeIs v T/\∀a,v=.ref a->∃ob,s.heap.get? a=some ob/\ob.dict=none:=by
 cases x with
 |str z=>
  obtain⟨t,rfl⟩:=r
  cases(show T="str" from ty);exact⟨typeIs_str s z t,λ_ e=>nomatch e⟩
 |int i=>
  obtain⟨t,rfl⟩:=r
  cases(show T="int" from ty);exact⟨typeIs_int s i t,λ_ e=>nomatch e⟩
 |ref p=>
  cases r;rcases ty with⟨rfl,xs,hq⟩|⟨rfl,o,hk,hc,hd⟩|⟨rfl,hk⟩|⟨rfl,S,n,hk⟩
  . obtain⟨aa,_,pl,_⟩:=I.list hq;refine⟨pl.isList.typeIs,λa e=>?_⟩
    cases e;obtain⟨o,n,e,c,hd,_⟩:=pl;exact⟨o,e,hd⟩
  . refine⟨⟨o,I.fm p o hk,hc⟩,λa e=>?_⟩
    cases e;exact⟨o,I.fm _ o hk,hd⟩
  . have z:∃o,s.heap.get? p=some o/\o.ExactDict:=by
     rcases hk with⟨kvs,hk⟩|⟨kvs,hk⟩
     . obtain⟨_,_,_,_,o,_,_,e,ex,_⟩:=I.hok p _ hk;exact⟨o,e,ex⟩
     . obtain⟨_,_,_,_,o,_,_,e,ex,_⟩:=I.hok p _ hk;exact⟨o,e,ex⟩
    obtain⟨o,e,ex⟩:=z;refine⟨⟨o,e,ex.1⟩,λa e2=>?_⟩
    cases e2;exact⟨o,e,ex.2.1⟩
  . obtain⟨o,_,_,_,e,ex,_⟩:=I.hok p _ hk;refine⟨⟨o,e,ex.1⟩,λa e2=>?_⟩
    cases e2;exact⟨o,e,ex.2.1⟩
 |_=>exact False.elim ty
def Ey (K:W.Frag) (T:String) (r:V->List V->Hp->VK->Prop) (to:TE) (t:TA):TE:=λσ H Q=>to σ H λx H1=>xh K T x H1/\t σ H1 λxs H2=>r x xs H2 Q
variable {o e:Expr}{es:List Expr}{to:TE}{t:TA}{name:Str}{apos cpos:Pos}{T id:String}{r:V->List V->Hp->VK->Prop}
theorem jI (pa:PlainAttrs T)(slot:Slot T name id)(ah:typeOf (.builtin id)=pure (.type "method_descriptor"))(hm:sY X id r)(ho:PE X o to)(ha:PA X (e::es) t)
 (ab:attributeBase o name X.env (eval o X.env)=eval o X.env:=by rfl)
 (ag:((backTo cpos (starEach (e::es) X.env)).all (λx=> !x.1) && (backToKw cpos (keywordEach [] X.env)).all (λx=>x.1.isSome)
   && decide ((e::es).length+([]:List Keyword).length+(if([]:List Keyword).isEmpty then 0 else 1)<30))=true:=by rfl)
 (ae:(apos.endLine == cpos.line)=true:=by rfl) (hs:starEach (e::es) X.env=(false,eval e X.env)::starEach es X.env:=by rfl) (aa:(backTo cpos (starEach es X.env)).any (·.1)=false:=by rfl):
 PE X (.Call (.Attribute o name apos) (e::es) [] cpos) (Ey X.K T r to t):=by
 intro pins s σ H Q I h;refine wpAny_Call_method_late ab ag ae rfl (dg (ho pins s σ H _ I h) λv s1 zq=>?_);obtain⟨x,H1,I1,r1,ty,q1⟩:=zq;obtain⟨h1,h2⟩:=Ex I1 r1 ty;refine⟨T,id,pa,slot,ah,h1,h2,?_⟩;have hA:=ha cpos pins s1 σ H1 _ I1 q1;rw[hs] at hA ⊢;refine Calls.callWith_builtin (by show(false || (backTo cpos (starEach es X.env)).any (·.1))=false;rw[aa] <;> rfl) (Calls.evalArgs_plain ?_);exact dg hA λus s2 ⟨vs,H2,I2,r2,q2⟩=>hm pins s2 σ H2 x vs v us Q I2 r1 r2 q2
/- xs.append(e),list.index on a af tuple .. are sY facts of 06m -/
end
def xi (X:Cx) (id:String) (r:V->List V->Hp->VK->Prop):Prop:=
 ∀(pins:List (Addr × Obj)) (s:Shared) (σ:St) (H:Hp) (x:V) (xs:List V) (v:Value) (us:List Value) (Q:VK),Inv X pins σ H s->RelV x v->Vals xs us->r x xs H Q->
  wpAny (model X.prog X.w) X.A (call (.builtin id) (v::us)) (EP X pins σ Q) X.xe s
theorem Vals.one:∀{x:V}{us:List Value},Vals [x] us->∃u,us=[u]/\RelV x u
 |_,_,.cons r .nil=>⟨_,rfl,r⟩
section
variable {X:Cx}{pins:List (Addr × Obj)}{σ:St}{H:Hp}{s:Shared}{l b:Addr}{xs ys zs:List V}
theorem Inv.xj {aa its':List Value}{f:Array Value->Array Value}(I:Inv X pins σ H s)(hH:H l=some (.lst xs))
 (e:s.heap.get? l=some { cls:=.type "list",data:=.seq aa.toArray n }) (hf:f aa.toArray=its'.toArray) (hv:Vals ys its') (hz:ys.length<=sizeLine):
 Inv X pins σ (upd H l (.lst ys)) { s with heap:=s.heap.update l (Obj.mapSeq f),toks:=t' }:=by
 have q:=PySem.IsL.update e f;rw[hf] at q;refine I.write (x:=l) (e:=l) (by rw[hH];exact trivial) (.inl rfl) (λb' u hb hu=>(Q1a s.heap (Obj.mapSeq f) (Ne.symm hb)).trans hu) ⟨_,q⟩ ?_;exact⟨hz,its',_,hv,q⟩
theorem Inv.Ez(I:Inv X pins σ H s)(hv:Vals ys aa)(hz:ys.length<=sizeLine):
 Inv X pins σ (upd H s.heap.objs.size (.lst ys)) { s with heap:=s.heap.push { cls:=.type "list",data:=.seq aa.toArray },toks:=t' }:=
 I.laid (λ_ _ q=>Q06 _ q) (Q0 _) ⟨hz,aa,0,hv,Q0i _ rfl⟩
theorem Inv.fresh (I:Inv X pins σ H s):H s.heap.objs.size=none:=I.hok.fresh (Q0 _)
theorem Inv.qI (I:Inv X pins σ H s)(hH:H l=some (.lst xs)):xs.length<=sizeLine/\∃(aa:List Value) (n:Nat),Vals xs aa/\xs.length=aa.length/\s.heap.get? l=some { cls:=.type "list",data:=.seq aa.toArray n }:=by
 obtain⟨z,aa,n,r,e⟩:=I.hok l _ hH;exact⟨z,aa,n,r,r.length,e⟩
end
section
variable {X:Cx}
inductive xl (x:V) (vs:List V) (H:Hp) (Q:V->Hp->Prop):Prop
 |mk (l:_) (xs:_) (y:_) (h0:x=.ref l) (h1:vs=[y]) (h2:H l=some (.lst xs)) (h3:xs.length<sizeLine) (h4:Q .non (upd H l (.lst (xs++[y])))):xl x vs H Q
def EA:V->List V->Hp->VK->Prop:=λx vs H Q=>xl x vs H Q
theorem mj:xi X "list.append" EA:=by
 intro pins s σ H x vs v us Q I rx rv h;obtain⟨l,xs,y,rfl,rfl,hH,hz,q⟩:=h
 cases rx;obtain⟨u,rfl,ru⟩:=rv.one;obtain⟨z,aa,n,r,hl,e⟩:=I.qI hH;refine call_meets F.slot_list_append ⟨_,e,rfl⟩ F.entry_list_append (F.args_list_append_2 _ _) (PySem.list_append l aa.toArray n u (by rw[Q05];omega)) ⟨e,?_⟩;refine⟨.non,_,I.xj (its':=aa++[u]) hH e (by simp) (r.append (.cons ru .nil)) ?_,rfl,q⟩;rw[Q0d,Q1l];omega
inductive xm (x:V) (y:V) (H:Hp) (Q:V->Hp->Prop):Prop
 |mk (l:_) (b:_) (xs:_) (zs:_) (h0:x=.ref l) (h1:y=.ref b) (h2:H l=some (.lst xs)) (h3:H b=some (.lst zs)) (h4:xs.length+zs.length<=sizeLine) (h5:∀p,H p=none->Q (.ref p) (upd H p (.lst (xs++zs)))):xm x y H Q
def tf:R2:=λx y H Q=>xm x y H Q
theorem oR:fw X (binaryOp .Add) tf:=by
 intro pins s σ H x y v u Q I rx ry h;obtain⟨l,b,xs,zs,rfl,rfl,hH,hB,hz,q⟩:=h
 cases rx
 cases ry;obtain⟨z,ab,n,r,hl,e⟩:=I.qI hH;obtain⟨z2,aa,n2,r2,ae,e2⟩:=I.qI hB;refine PySem.P.add_list e e2 ?_ (by rw[Q05,Q05];omega);have ea:ab.toArray++aa.toArray=(ab++aa).toArray:=by simp
 rw[ea];exact⟨.ref _,_,I.Ez (t':=s.toks) (r.append r2) (by rw[Q0d];omega),rfl,q _ I.fresh⟩
end
section
variable {prog:Program}{w:World}{A:Around}{E:Value->Shared->Prop}{s:Shared}
end
section
variable {X:Cx}
end
section
variable {κ:Type} [DecidableEq κ]
noncomputable def e6 (kvs:List (κ × V)) (k:κ):Option V:=(kvs.find? λkv=>decide (kv.1=k)).map (·.2)
noncomputable def putK (kvs:List (κ × V)) (k:κ) (v:V):List (κ × V):=
 if(kvs.any λkv=>decide (kv.1=k))=true then kvs.map (λkv=>if kv.1=k then(kv.1,v) else kv) else kvs++[(k,v)]
theorem oS {p:κ × V}(e:p.1=k):e6 (p::r) k=some p.2:=by simp[e6,Q1b,e]
theorem oU {p:κ × V}(e:¬p.1=k):e6 (p::r) k=e6 r k:=by simp[e6,Q1b,e]
theorem nh (k:κ):∀kvs:List (κ × V),(kvs.any λkv=>decide (kv.1=k))=(e6 kvs k).isSome
 |[]=>rfl
 |p::r=>by
  rw[Q1f];by_cases e:p.1=k
  . simp only[oS e,decide_eq_true e,Bool.true_or,Option.isSome_some]
  . rw[oU e,decide_eq_false e,Bool.false_or];exact nh k r
theorem xn (kvs:List (κ × V))(k:κ)(v:V):(putK kvs k v).length<=kvs.length+1:=by
 unfold putK;split
 . rw[Q01];omega
 . rw[Q0d,Q0j,Q2r];omega
theorem gN.oV(r:gN o u):o.isSome=u.isSome:=by
 cases o with
 |none=>cases u with
  |none=>rfl
  |some _=>exact(show False from r).elim
 |some _=>cases u with
  |none=>exact(show False from r).elim
  |some _=>rfl
theorem KV.val(r:KV kvs vs)(k:κ):gN (e6 kvs k) (valueAt vs k):=by
 unfold KV at r
 induction r with
 |nil=>exact True.intro
 |@cons p q ps qs h t ih=>
  obtain⟨h1,h2⟩:=h;by_cases e:p.1=k
  . have e':q.1=k:=h1.symm.trans e;have b:valueAt (q::qs) k=some q.2:=by simp[valueAt,Q1b,e']
    rw[oS e,b];exact h2
  . have e':¬q.1=k:=λz=>e (h1.trans z);have b:valueAt (q::qs) k=valueAt qs k:=by simp[valueAt,Q1b,e']
    rw[oU e,b];exact ih
theorem KV.any(r:KV kvs vs)(k:κ):(kvs.any λkv=>decide (kv.1=k))=vs.any λkv=>decide (kv.1=k):=by
 unfold KV at r
 induction r with
 |nil=>rfl
 |cons h t ih=>rw[Q1f,Q1f,ih,h.1]
theorem KV.repl(r:KV kvs vs)(k:κ)(ry:RelV y u):
 KV (kvs.map λkv=>if kv.1=k then(kv.1,y) else kv) (vs.map λkv=>if kv.1=k then(kv.1,u) else kv):=by
 unfold KV at r ⊢
 induction r with
 |nil=>exact .nil
 |@cons p q ps qs h t ih=>
  rw[Q0m,Q0m];refine .cons ?_ ih;obtain⟨h1,h2⟩:=h;by_cases e:p.1=k
  . rw[if_pos e,if_pos (h1.symm.trans e)];exact⟨h1,ry⟩
  . rw[if_neg e,if_neg (λz=>e (h1.trans z))];exact⟨h1,h2⟩
theorem KV.put(r:KV kvs vs)(k:κ)(ry:RelV y u):KV (putK kvs k y) (stored vs k u):=by
 unfold putK stored;rw[r.any k];by_cases e:(vs.any λkv=>decide (kv.1=k))=true
 . rw[if_pos e,if_pos e];exact r.repl k ry
 . rw[if_neg e,if_neg e];exact Paired.snoc r ⟨rfl,ry⟩
theorem KV.length(r:KV kvs vs):kvs.length=vs.length:=Paired.length r
end
theorem oW(r:RelV (kV k) u):(eQ P w).is k u=true:=by
 cases k with
 |inl i=>obtain⟨t,e⟩:=(show ∃t,u=Value.int i t from r);subst e;exact CZ P w i t
 |inr x=>obtain⟨t,e⟩:=(show ∃t,u=Value.str x t from r);subst e;exact C2 P w x t
theorem xo:∀{ks:List Key}{us:List Value},Vals (ks.map kV) us->ItemsAre (eQ P w) ks us
 |[],_,r=>by rw[List.map_nil] at r;cases r;exact .nil
 |k::ks,_,r=>by
  rw[Q0m] at r
  cases r with
  |cons h t=>exact .cons (oW h) (xo t)
abbrev KT (H:Hp):List (List Key × V)->List (List Key × Addr × Value)->Prop:=Paired λp q=>p.1=q.1/\H q.2.1=some (.tup (p.1.map kV))/\RelV p.2 q.2.2
theorem KT.val(r:KT H kvs xs)(k:List Key):gN (e6 kvs k) ((atKey xs k).map (·.2)):=by
 induction r with
 |nil=>exact True.intro
 |@cons p q ps qs h t ih=>
  obtain⟨h1,_,h2⟩:=h;by_cases e:p.1=k
  . have e':q.1=k:=h1.symm.trans e;have b:atKey (q::qs) k=some q.2:=by simp[atKey,Q1b,e']
    rw[oS e,b];exact h2
  . have e':¬q.1=k:=λz=>e (h1.trans z);have b:atKey (q::qs) k=atKey qs k:=by simp[atKey,Q1b,e']
    rw[oU e,b];exact ih
theorem KT.repl(r:KT H kvs xs)(k:List Key)(ry:RelV y u):
 KT H (kvs.map λkv=>if kv.1=k then(kv.1,y) else kv) (xs.map (putAt k u)):=by
 induction r with
 |nil=>exact .nil
 |@cons p q ps qs h t ih=>
  rw[Q0m,Q0m];refine .cons ?_ ih;obtain⟨h1,h2,h3⟩:=h;unfold putAt;by_cases e:p.1=k
  . rw[if_pos e,if_pos (h1.symm.trans e)];exact⟨h1,h2,ry⟩
  . rw[if_neg e,if_neg (λz=>e (h1.trans z))];exact⟨h1,h2,h3⟩
theorem KT.put(r:KT H kvs xs)(k:List Key)(hb:H b=some (.tup (k.map kV)))(ry:RelV y u):
 KT H (putK kvs k y) (storedH xs k b u):=by
 have e:(kvs.any λkv=>decide (kv.1=k))=(atKey xs k).isSome:=by
  rw[nh,(r.val k).oV,Q2b]
 unfold putK storedH;rw[e];by_cases q:(atKey xs k).isSome=true
 . rw[if_pos q,if_pos q];exact r.repl k ry
 . rw[if_neg q,if_neg q];exact Paired.snoc r ⟨rfl,hb,ry⟩
theorem KT.keeps(r:KT H kvs xs)(ht:∀b ys,H b=some (.tup ys)->H' b=some (.tup ys)):KT H' kvs xs:=
 Paired.qh r λ_ _ z=>⟨z.1,ht _ _ z.2.1,z.2.2⟩
section
variable {P:Program}{w:World}{H:Hp}{h:Heap}{a:Addr}
theorem xp(ok:eL P w H h)(e:Rd H a u):fc P w H h a u:=e.ok ok
theorem ni(ok:eL P w H h)(e:Rd H a (.dK kvs)):kvs.length<=sizeLine/\(a == sysModules)=false/\∃vs,KV kvs vs/\h.DictOf (eQ P w) a vs:=
 show fc P w H h a (.dK kvs) from xp ok e
theorem qJ(ok:eL P w H h)(e:H a=some (.dK kvs)):kvs.length<=sizeLine/\(a == sysModules)=false/\∃vs,KV kvs vs/\h.DictOf (eQ P w) a vs:=ni ok (.inl e)
theorem oX(ok:eL P w H h)(e:H a=some (.tup (ks.map kV))):(tupleKind (eQ P w)).is h ks a:=by
 obtain⟨_,aa,r,o,h1,h2,n,h3⟩:=(show fc P w H h a (.tup (ks.map kV)) from ok a _ e);exact⟨o,aa.toArray,n,h1,h2,h3,by simpa using xo r⟩
theorem oY(ok:eL P w H h)(e:Rd H a (.dT kvs)):kvs.length<=sizeLine/\(a == sysModules)=false/\
 ∃xs,KT H kvs xs/\h.DictOfH (tupleKind (eQ P w)) a xs:=by
 obtain⟨z,y,xs,r,o,es,ep,h1,h2,h3,h4,h5⟩:=(show fc P w H h a (.dT kvs) from xp ok e);refine⟨z,y,xs,r,o,es,ep,h1,h2,h3,h4,λx hx=>?_,h5⟩
 have all:∀{l:List (List Key × V)} {m:List (List Key × Addr × Value)},KT H l m->∀x∈m,(tupleKind (eQ P w)).is h x.1 x.2.1:=by
  intro l m q
  induction q with
  |nil=>intro x hx;exact nomatch hx
  |@cons p q ps qs hq t ih=>
   intro x hx;rcases List.mem_cons.mp hx with e|hx
   . subst e;exact oX ok (by rw[<-hq.1];exact hq.2.1)
   . exact ih x hx
 exact all r x hx
theorem EB(ok:eL P w H h)(e:H a=some (.dT kvs)):kvs.length<=sizeLine/\(a == sysModules)=false/\
 ∃xs,KT H kvs xs/\h.DictOfH (tupleKind (eQ P w)) a xs:=oY ok (.inl e)
end
def d5 (H:Hp) (a:Addr) (y:V) (r:Option V):Prop:=
 (∃kvs k,Rd H a (.dK kvs)/\y=kV k/\r=e6 kvs k)\/∃kvs k b,Rd H a (.dT kvs)/\y=.ref b/\H b=some (.tup (k.map kV))/\r=e6 kvs k
def jJ (H:Hp) (a:Addr) (y v:V) (H':Hp):Prop:=
 (∃kvs k,H a=some (.dK kvs)/\y=kV k/\kvs.length<sizeLine/\H'=upd H a (.dK (putK kvs k v)))\/
 ∃kvs k b,H a=some (.dT kvs)/\y=.ref b/\H b=some (.tup (k.map kV))/\kvs.length<sizeLine/\H'=upd H a (.dT (putK kvs k v))
theorem d5.k{k:Key}(e:H a=some (.dK kvs)):d5 H a (kV k) (e6 kvs k):=.inl ⟨kvs,k,.inl e,rfl,rfl⟩
theorem jJ.k{k:Key}(e:H a=some (.dK kvs))(hl:kvs.length<sizeLine):jJ H a (kV k) v (upd H a (.dK (putK kvs k v))):=.inl ⟨kvs,k,e,rfl,hl,rfl⟩
section
variable {X:Cx}{pins:List (Addr × Obj)}{σ:St}{H:Hp}{s:Shared}{a:Addr}{y v:V}{u r:Value}{o:Option V}{A:Around}{E:Value->Shared->Prop}
theorem Inv.big (I:Inv X pins σ H s):sysModules<s.heap.objs.size:=by
 have h:mainGlobals<s.heap.objs.size:=(I.mod.glob.keeps I.bk).lt;exact Nat.lt_trans (by decide) h
theorem EC(hu:A.units+1<cLine)(I:Inv X pins σ H s)(g:d5 H a y (some v))(ry:RelV y u)(h:∀w' s',Inv X pins σ H s'->RelV v w'->Q w' s'):
 wpAny (model X.prog X.w) A (getItem (.ref a) u) Q E s:=by
 rcases g with⟨kvs,k,e,ey,l⟩|⟨kvs,k,b,e,ey,eb,l⟩
 . subst ey;obtain⟨z,hd,vs,rel,dd⟩:=ni I.hok e;obtain⟨w',hw,aa⟩:=gN.some_of (v:=v) (o:=valueAt vs k) (by rw[l];exact rel.val k);exact wpAny_getItem_of (oW ry) dd.mapOf hw (h w' _ (I.tok _) aa)
 . subst ey
   cases(show u=Value.ref b from ry);obtain⟨z,hd,xs,rel,dd⟩:=oY I.hok e;obtain⟨w',hw,aa⟩:=gN.some_of (v:=v) (o:=(atKey xs k).map (·.2)) (by rw[l];exact rel.val k);obtain⟨p,hp,ab⟩:=Option.map_eq_some_iff.mp hw;refine wpAny_getItem_heap (tupleKind_room_in1 hu) (oX I.hok eb) dd hp ?_;rw[ab];exact h w' _ (I.tok _) aa
theorem ED(hu:A.units+1<cLine)(I:Inv X pins σ H s)(g:d5 H a y o)(ry:RelV y u)(h:∀s',Inv X pins σ H s'->Q (.bool o.isSome) s'):
 wpAny (model X.prog X.w) A (compareOp .In u (.ref a)) Q E s:=by
 rcases g with⟨kvs,k,e,ey,l⟩|⟨kvs,k,b,e,ey,eb,l⟩
 . subst ey;obtain⟨z,hd,vs,rel,dd⟩:=ni I.hok e;refine wpAny_in_of (oW ry) hd dd.mapOf ?_;rw[<-(rel.val k).oV,<-l];exact h _ (I.tok _)
 . subst ey
   cases(show u=Value.ref b from ry);obtain⟨z,hd,xs,rel,dd⟩:=oY I.hok e;refine wpAny_in_heap (tupleKind_room_in1 hu) (oX I.hok eb) hd dd ?_;have q:=(rel.val k).oV;rw[Q2b] at q;rw[<-q,<-l];exact h _ (I.tok _)
theorem EE(hu:A.units+1<cLine)(I:Inv X pins σ H s)(g:d5 H a y o)(ry:RelV y u)(h:∀s',Inv X pins σ H s'->Q (.bool (!o.isSome)) s'):
 wpAny (model X.prog X.w) A (compareOp .NotIn u (.ref a)) Q E s:=by
 rcases g with⟨kvs,k,e,ey,l⟩|⟨kvs,k,b,e,ey,eb,l⟩
 . subst ey;obtain⟨z,hd,vs,rel,dd⟩:=ni I.hok e;refine wpAny_notIn_of (oW ry) hd dd.mapOf ?_;rw[<-(rel.val k).oV,<-l];exact h _ (I.tok _)
 . subst ey
   cases(show u=Value.ref b from ry);obtain⟨z,hd,xs,rel,dd⟩:=oY I.hok e;refine wpAny_notIn_heap (tupleKind_room_in1 hu) (oX I.hok eb) hd dd ?_;have q:=(rel.val k).oV;rw[Q2b] at q;rw[<-q,<-l];exact h _ (I.tok _)
theorem tm(I:Inv X pins σ H s)(mu:oA (H a))(hs:Heap.SameBut a s.heap h')(he:∃q,h'.get? a=some q)(new:fc X.prog X.w (upd H a ob) h' a ob):
 Inv X pins σ (upd H a ob) { s with heap:=h',toks:=t' }:=
 I.write (x:=a) (e:=a) mu (.inl rfl) (λb q hb z=>(hs.2 b hb).trans z) he new
theorem xq(z:kvs.length<=sizeLine)(hd:(a == sysModules)=false)(rel:KV kvs vs)(dd:h'.DictOf (eQ P w) a vs):
 fc P w H' h' a (.dK kvs):=⟨z,hd,vs,rel,dd⟩
theorem EF(hu:A.units+1<cLine)(I:Inv X pins σ H s)(g:jJ H a y v H')(ry:RelV y u)(rv:RelV v r)(h:∀s',Inv X pins σ H' s'->Q () s'):
 wpAny (model X.prog X.w) A (setItem (.ref a) u r) Q E s:=by
 rcases g with⟨kvs,k,e,ey,l,eH⟩|⟨kvs,k,b,e,ey,eb,l,eH⟩
 . subst ey eH;obtain⟨z,hd,vs,rel,dd⟩:=qJ I.hok e;have hz:vs.length<=sizeLine:=by rw[<-rel.length];exact z
   have hl:(putK kvs k v).length<=sizeLine:=by have:=xn kvs k v;omega
   refine wpAny_setItem_pairs (hsz:=hz) (oW ry) dd λh' aa hs=>h _ ?_;have he:∃q,h'.get? a=some q:=let⟨q,_,_,hq,_⟩:=aa;⟨q,hq⟩
   exact tm I (by rw[e];exact True.intro) hs he (xq hl hd (rel.put k rv) aa)
 . subst ey eH
   cases(show u=Value.ref b from ry);obtain⟨z,hd,xs,rel,dd⟩:=EB I.hok e;have hz:xs.length<=sizeLine:=by rw[<-Paired.length rel];exact z
   have hl:(putK kvs k v).length<=sizeLine:=by have:=xn kvs k v;omega
   refine wpAny_setItem_heap (hsz:=hz) (tupleKind_room_in1 hu) (oX I.hok eb) dd λh' aa hs=>h _ ?_;obtain⟨q,es,ep,hq,h2,h3,h4,_,h5⟩:=aa;refine tm I (by rw[e];exact True.intro) hs ⟨q,hq⟩ ⟨hl,hd,_,(rel.put k eb rv).keeps λc ys ec=>?_,q,es,ep,hq,h2,h3,h4,h5⟩;rw[cQ (eK ec e (λz=>nomatch z))];exact ec
end
section
variable {X:Cx}{pins:List (Addr × Obj)}{σ:St}{H:Hp}{s:Shared}{a:Addr}{kvs:List (Key × V)}{k:Key}{u:Value}{A:Around}{E:Value->Shared->Prop}
theorem EG(I:Inv X pins σ H s)(e:Rd H a (.dK kvs))(h:∀t s',Inv X pins σ H s'->Q (.int kvs.length t) s'):wpAny (model X.prog X.w) A (call (.builtin "len") [.ref a]) Q E s:=by
 obtain⟨z,hd,vs,rel,dd⟩:=ni I.hok e;refine call_len_dict hd dd (by rw[<-rel.length];rw[sizeLine_eq] at z;omega) ?_;rw[<-rel.length];exact h _ _ (I.tok _)
end
def xr (i:Expr):Prop:=∀ov iv,subscripted i false ov iv=operate [ov,iv] (getItem ov iv)
theorem EH {prog:Program}{w:World}{A:Around}{E:Value->Shared->Prop}{s:Shared}{env:Env}{value slice:Expr}{pos:Pos}{T id:String}{Q:Value->Shared->Prop}
 (hl:typeLookup (.type T) "__getitem__"=pure (some (.builtin id))) (hs:xr slice)
 (h:wpAny (model prog w) A (eval value env) (λo ae=>wpAny (model prog w) A (eval slice env) (λi aa=>aa.TypeIs o T/\wpAny (model prog w) A (getItem o i) Q E aa) E ae) E s):
 wpAny (model prog w) A (eval (.Subscript value slice pos) env) Q E s:=by
 refine Subscript_ (Q0r h (λo ae ag=>Q0r ag (λi aa ab=>?_) λ_ _ x=>x) λ_ _ x=>x);obtain⟨hT,ab⟩:=ab;unfold subscriptTail;refine Q00 ?_;rw[getitemInPython_of_ne hT.not_modules];refine Q00 (wpAny_specialOf hT hl ?_)
 have fin:wpAny (model prog w) A (subscripted slice false o i) (λr af=>wpAny (model prog w) A (letTemporaryGo value o r >>= λ_=>pure r) Q E af) E aa:=by
  rw[hs o i];exact wpAny_operating (Q0r ab (λr af ah=>Q00 (wpAny_letTemporaryGo (Q0a ah))) λ_ _ x=>x)
 first
  |exact Q0a (Q00 fin)
  |exact Q00 (Q0a (Q00 fin))
  |exact Q00 fin
theorem EI(I:Inv X pins σ H s)(g:d5 H a y o):s.TypeIs (.ref a) "dict":=by
 rcases g with⟨kvs,k,e,_,_⟩|⟨kvs,k,b,e,_,_,_⟩
 . obtain⟨_,_,vs,_,dd⟩:=ni I.hok e;exact dd.typeIs
 . obtain⟨_,_,xs,_,dd⟩:=oY I.hok e;exact dd.typeIs
inductive xt (Q:V->Hp->Prop) (x:V) (y:V) (H2:Hp):Prop
 |mk (a:_) (v:_) (h0:x=.ref a) (h1:d5 H2 a y (some v)) (h2:Q v H2):xt Q x y H2
def EJ (ty:TE) (σ:St) (Q:V->Hp->Prop):V->Hp->Prop:=λx H1=>ty σ H1 (xt Q x)
def EK (td ty:TE):TE:=λσ H Q=>td σ H (EJ ty σ Q)
inductive xu (Q:V->Hp->Prop) (y:V) (x:V) (H2:Hp):Prop
 |mk (a:_) (o:_) (h0:x=.ref a) (h1:d5 H2 a y o) (h2:Q (.bl o.isSome) H2):xu Q y x H2
def EL (ty td:TE):TE:=λσ H Q=>ty σ H λy H1=>td σ H1 (xu Q y)
inductive xv (Q:V->Hp->Prop) (y:V) (x:V) (H2:Hp):Prop
 |mk (a:_) (o:_) (h0:x=.ref a) (h1:d5 H2 a y o) (h2:Q (.bl (!o.isSome)) H2):xv Q y x H2
def EM (ty td:TE):TE:=λσ H Q=>ty σ H λy H1=>td σ H1 (xv Q y)
inductive xw (D:Ends) (σ:L2.St) (v:V) (x:V) (y:V) (H3:Hp):Prop
 |mk (a:_) (H4:_) (h0:x=.ref a) (h1:jJ H3 a y v H4) (h2:D.nx σ H4):xw D σ v x y H3
def EN (td ty tv:TE):TS:=λD σ H=>tv σ H λv H1=>td σ H1 λx H2=>ty σ H2 (xw D σ v x)
section
variable {X:Cx}{o i e value:Expr}{pos pos' tpos:Pos}{td ty tv:TE}
theorem fL (hu:X.A.units+1<cLine)(ho:PE X o td)(hi:PE X i ty)(hs:xr i):PE X (.Subscript o i pos) (EK td ty):=by
 intro pins s σ H Q I h;refine EH PySem.F.slot_dict_getitem.lookup hs (dg (ho pins s σ H _ I h) λu s1 ⟨x,H1,I1,rx,q1⟩=>dg (hi pins s1 σ H1 _ I1 q1) λiv s2 zq=>?_);obtain⟨y,H2,I2,ry,a,v,ex,g,q2⟩:=zq;subst ex;obtain rfl:u=Value.ref a:=rx;exact⟨EI I2 g,EC hu I2 g ry λw' s3 I3 aa=>⟨v,H2,I3,aa,q2⟩⟩
theorem xx (hu:X.A.units+1<cLine)(hi:PE X i ty)(ho:PE X o td):PC X .In i o (EL ty td):=by
 intro pins s σ H Q I h;refine dg (hi pins s σ H _ I h) λiv s1 ⟨y,H1,I1,ry,q1⟩=>dg (ho pins s1 σ H1 _ I1 q1) λu s2 zq=>?_;obtain⟨x,H2,I2,rx,a,ov,ex,g,q2⟩:=zq;subst ex;obtain rfl:u=Value.ref a:=rx;exact ED hu I2 g ry λs3 I3=>⟨.bl ov.isSome,H2,I3,rfl,q2⟩
theorem xy (hu:X.A.units+1<cLine)(hi:PE X i ty)(ho:PE X o td):PC X .NotIn i o (EM ty td):=by
 intro pins s σ H Q I h;refine dg (hi pins s σ H _ I h) λiv s1 ⟨y,H1,I1,ry,q1⟩=>dg (ho pins s1 σ H1 _ I1 q1) λu s2 zq=>?_;obtain⟨x,H2,I2,rx,a,ov,ex,g,q2⟩:=zq;subst ex;obtain rfl:u=Value.ref a:=rx;exact EE hu I2 g ry λs3 I3=>⟨.bl (!ov.isSome),H2,I3,rfl,q2⟩
theorem oZ (hu:X.A.units+1<cLine)(ho:PE X o td)(hi:PE X i ty)(hv:PE X value tv)(hs:swapsWith value (some (.Subscript o i pos')) pos.line X.env=pure false):
 PS X (.Assign [.Subscript o i pos'] value pos) (EN td ty tv):=by
 intro pins s σ H D I h;refine wpAny_Assign_Subscript (dg (hv pins s σ H _ I h) λr s1 ⟨v,H1,I1,rv,q1⟩=>dg (ho pins s1 σ H1 _ I1 q1) λu s2 ⟨x,H2,I2,rx,q2⟩=>dg (hi pins s2 σ H2 _ I2 q2) λiv s3 zq=>?_) hs;obtain⟨y,H3,I3,ry,a,H4,ex,g,q3⟩:=zq;subst ex;obtain rfl:u=Value.ref a:=rx;exact EF hu I3 g ry rv λs4 I4=>⟨σ,H4,I4,q3⟩
end
theorem ER(h:Heap)(hb:sysModules<h.objs.size):fc P w H (h.push { cls:=.type "dict",data:=.dict #[] }) h.objs.size (.dK []):=
 ⟨Q0c _,beq_eq_false_iff_ne.mpr (Ne.symm (Q08 hb)),[],.nil,Heap.DictOf.new h⟩
def ES:TE:=λ_ H Q=>∀p,H p=none->Q (.ref p) (upd H p (.dK []))
section
variable {X:Cx}{pos:Pos}
theorem qK:PE X (.Dict [] [] pos) ES:=λpins s σ H Q I h=>
 wpAny_Dict_empty ⟨.ref s.heap.objs.size,_,I.laid (a:=s.heap.objs.size) (o:=.dK []) (t':=s.toks) (λ_ _ q=>Q06 _ q) (Q0 _) (ER s.heap I.big),rfl,h _ (I.hok.fresh (Q0 _))⟩
end
section
variable {X:Cx}{pins:List (Addr × Obj)}{σ:St}{H:Hp}{s:Shared}{a:Addr}{y d:V}{u r:Value}{o:Option V}{A:Around}{E:Value->Shared->Prop}
end
section
variable {X:Cx}{o e f:Expr}{apos cpos:Pos}{td ty tx:TE}
end
section
variable {X:Cx}{pins:List (Addr × Obj)}{σ:St}{H:Hp}{s:Shared}{a:Addr}{kvs:List (Key × V)}{A:Around}{E:Value->Shared->Prop}
end
section
variable {X:Cx}{pins:List (Addr × Obj)}{σ:St}{H:Hp}{s:Shared}{a:Addr}{y:V}{u:Value}{A:Around}{E:Value->Shared->Prop}
end
end L2
namespace xA
open W Calls PyProof.Rows
theorem ET:∀(ns:List Int) (vs:List Value),WellAll P h vs (ns.map WData.int)->IntsAre vs ns:=by
 intro ns
 induction ns with
 |nil=>
  intro vs w;rw[List.map_nil] at w
  cases w;exact .nil
 |cons n ns ih=>
  intro vs w;rw[Q0m] at w
  cases w with
  |cons a b=>
   cases a;exact .cons _ _ (ih _ b)
theorem EU {l:OpenLaw}(hn:l.most=some n)
 (aa:l.row.toRowW.claim.pre args=true) (ae:WellAll P h vals args):
 ∃a vs ns,vals=[Value.ref a]/\args=[WData.list (ns.map WData.int)]/\h.get? a=some { cls:=.type "list",data:=.seq vs.toArray }/\IntsAre vs ns/\ns.length<=n:=by
 have af:WShape.hasAll [] args [.list .int]=true:=(pre_splitW aa).1;have hc:l.pre.holds [] { args:=args }=true:=(pre_splitW aa).2;obtain⟨d,r,rfl,h1,h2⟩:=hasAllW_cons af;obtain rfl:=hasAllW_nil h2;obtain⟨xs,rfl,h3⟩:=hasW_list h1;obtain⟨ns,rfl⟩:=items_int h3
 have hlen:ns.length<=n:=by
  unfold OpenLaw.pre at hc
  have h4:(WTm.not (.lt (.lit (.int (n:Int))) (.len (.arg 0)))).holds [] { args:=[.list (ns.map .int)] }=true:=by
   have h4:=(holds_andW hc).1;rw[hn] at h4;exact h4
  have h5:=condW_of h4 (w_not (w_lt w_lit (w_len_list (w_arg rfl))));rw[Q01] at h5;refine Q0y λq=>?_;have q':(n:Int)<((ns.length:Nat):Int):=by omega
  first
   |(rw[decide_eq_true q'] at h5;exact absurd h5 (by decide))
   |(simp at h5;omega)
 cases ae with
 |cons w1 w2=>
  cases w2
  cases w1 with
  |list ho ab=>exact⟨_,_,ns,rfl,rfl,ho,ET ns _ ab,hlen⟩
theorem EV (l:OpenLaw)(args:List WData):l.row.toRowW.claim.post args (.bool true) args=true:=
 postW_of (r:=l.row.toRowW) (X:=(true == true))
  (show WShape.has [] (.bool true) .bool=true by first|rfl|decide|simp[WShape.has,WShape.arms,WShape.armsAll])
  (show(WTm.eq .res (.lit (.bool true))).value [] { args:=args,res:=some (.bool true),after:=args }=some (.bool (true == true)) from w_eq_bool (w_res rfl) w_lit) rfl
theorem EW {l:OpenLaw}{XP:(Str->Option Value)->Heap->Prop}{YP:World->Heap->Prop}{d:DefRec}
 (hn:l.most=some n) (af:d.params.defaults=[])
 (call:∀(w:World) (s₀ aa:Shared) (mg mb:Str->Option Value) (fa:Addr) (o:Obj) (pm cd doc:Value) (a:Addr) (vs:List Value) (ns:List Int),
   Ground q loose [] XP w s₀ mg mb aa.heap->YP w aa.heap->
   aa.heap.get? fa=some o->o.data=.func (docDef d.name d.params d.body d.scope pm cd doc)->aa.heap.CodeRec cd d.name->mg d.name=some (.ref fa)->
   aa.heap.get? a=some { cls:=.type "list",data:=.seq vs.toArray }->IntsAre vs ns->ns.length<=n->aa.gens=#[]->
   codeAny (model l.prog w) callerA (.call (.ref fa) ⟨[.ref a],[]⟩) (λr s'=>r=.ok (.ret (.bool true))/\OldK aa.heap s'.heap/\s'.os=aa.os/\AllBare s'.gens) aa):
 WalkO q loose XP YP l.row.toRowW d [] (λf vs=>PySem.call f vs):=by
 intro w s₀ aa mg mb G Y fa o pm cd doc dV kV ho hd ag hD ah hg args vals as ab aj ak ai ao;obtain rfl:dV=.none:=Dflts.none hD af;obtain rfl:kV=.none:=Dflts.noKw hD;obtain⟨a,vs,ns,rfl,rfl,ae,hints,hlen⟩:=EU hn ab ai;refine enter_call (codeAny_mono (call w s₀ aa mg mb fa o pm cd doc a vs ns G Y ho (fd_plain hd) ag ah ae hints hlen hg) λr s' hq=>?_);obtain⟨rfl,h2,h3,h4⟩:=hq;exact⟨.inl ⟨.bool true,.bool true,[],rfl,λ_=>rfl,.bool true,EV l _,λ_=>⟨List.Pairwise.nil,λ_ hm=>(nomatch hm)⟩⟩,h2,h3,h4⟩
section
variable {prog:Program}{w:World}{A:Around}{E:Value->Shared->Prop}{s:Shared}{K:Frag}
end
end xA
namespace L2
open Spec PyProof.Rows
theorem xB:∀{vs:List Value}{ns:List Int},IntsAre vs ns->Vals (ns.map V.int) vs
 |_,_,.nil=>.nil
 |_,_,.cons n t h=>.cons ⟨t,rfl⟩ (xB h)
abbrev cH:gf:=λ_ _ _ _ _ _=>False
abbrev E0:XK:=λ_ _ _=>False
theorem fG:Passes cH X E0:=λ_ _ _ _ _ _ _ h=>h.elim
structure o3 (K:W.Frag) (x qual:Str) (st:Stmt) (f:Addr) (fd:FuncData):Prop where
 ex:∃(oc:Value) (od:Option Addr) (kV doc pm:Value) (an:Option Addr) (cdv ct:Value) (osl:Array (Option Value)),
  fd=W.fnOf x qual (qc st) (k5 st) (eP st) .none kV doc pm an cdv ct/\K.lookup f=some ⟨oc,od,.func fd,osl⟩/\W.codeIn K cdv qual=true
 kp:W.keepIn K (.ref f)=true
variable {P:Program}{w:World}{K:W.Frag}{mg:Str->Option Value}{base:Heap}
theorem xC(hr:d4 k A):A.units+1<cLine:=Q1z (Q2s (by decide:1<=64) _) hr.units
theorem eE(h:n<=1000):n<sizeLine:=Q1z h (by decide)
section
variable {X:Cx}
theorem pv (i:Nat)(hN:X.N[i]? =some x:=by rfl)(hv:sd X.env.scope x:=by first|exact Or.inl rfl|exact Or.inr (Or.inl rfl)|exact Or.inr (Or.inr rfl))(hd:(x == ("__debug__":Str))=false:=by decide)
 (aa:(x == ("__classdict__":Str))=false:=by decide):PE X (.Name x pos) (dF i):=C9 hN hv hd aa
end
theorem dX {A B:Prop}(h:B):if false=true then A else B:=by
 rw[if_neg Bool.false_ne_true];exact h
theorem fo {A B:Prop}(h:A):if true=true then A else B:=by
 rw[if_pos rfl];exact h
theorem dz {c A B:Prop} [Decidable c](h1:c->A)(h2:¬c->B):if c then A else B:=by
 by_cases h:c
 . rw[if_pos h];exact h1 h
 . rw[if_neg h];exact h2 h
theorem lb {c A B:Prop} [Decidable c](hc:c)(h:B):if(!decide c)=true then A else B:=by
 rw[decide_eq_true hc];exact dX h
def Same (H H':Hp):Prop:=∀b o,H b=some o->H' b=some o
theorem Same.refl (H:Hp):Same H H:=λ_ _ h=>h
theorem Same.trans(a:Same H H1)(b:Same H1 H2):Same H H2:=λc o h=>b c o (a c o h)
theorem Same.free(e:Same H H')(h:H' l=Option.none):H l=Option.none:=by
 cases q:H l with
 |none=>rfl
 |some o=>
  rw[e l o q] at h
  cases h
section
variable {X:Cx}
inductive tq (xs:List V) (H:Hp) (Q:V->Hp->Prop):Prop
 |mk (a:_) (kvs:_) (h0:xs=[V.ref a]) (h1:H a=some (.dK kvs)) (h2:Q (.int kvs.length) H):tq xs H Q
theorem xD:iq X (.builtin "len") tq:=by
 intro pins s σ H xs us Q I r h;obtain⟨a,kvs,rfl,ha,q⟩:=h;obtain⟨u,rfl,ru⟩:=vals1 r
 cases ru;exact EG I (.inl ha) λt s' I'=>⟨.int kvs.length,H,I',⟨t,rfl⟩,q⟩
end
section
variable {κ:Type} [DecidableEq κ]
theorem EX {kvs:List (κ × V)}(h:e6 kvs k=some v):k∈kvs.map (·.1):=by
 have q:(kvs.any λkv=>decide (kv.1=k))=true:=by
  rw[nh,h]
  all_goals rfl
 obtain⟨p,hp,e⟩:=List.any_eq_true.mp q;exact List.mem_map.mpr ⟨p,hp,of_decide_eq_true e⟩
end
theorem xE {g:Str->NameKind->NameKind}:∀names:List (Str × NameKind),
 (names.map λy=>(y.1,g y.1 y.2)).lookup x=(names.lookup x).map (g x)
 |[]=>rfl
 |(n,k)::r=>by
  show List.lookup x ((n,g n k)::_)=_;rw[Q1m,Q1m,xE r]
  cases hx:x == n with
  |true=>rw[eq_of_beq hx];rfl
  |false=>rfl
noncomputable def jK (env:Env) (n:Str) (k:NameKind):NameKind:=
 if(k == .free && env.scope.kind == .function && env.kindOf n == some .cell)=true then .cell else k
theorem xF (scope:Scope)(env:Env)(x:Str):
 (relabel scope env).names.lookup x=(scope.names.lookup x).map (jK env x):=by
 rw[<-xE (g:=jK env) scope.names];show List.lookup x (scope.names.map _)=_;congr 1;apply Q1c;rintro⟨n,k⟩ _;show(if _ then _ else _)=(n,jK env n k);unfold jK;split <;> rfl
theorem EY(h:jK env x k=.local):k=.local:=by
 unfold jK at h;split at h
 . cases h
 . exact h
theorem EZ(h:jK env x k=.cell):k=.free\/k=.cell:=by
 unfold jK at h;split at h
 . rename_i c;left;simp only[Bool.and_eq_true] at c;exact eq_of_beq c.1.1
 . exact .inr h
theorem E1(h:jK env x k=.free):k=.free:=by
 unfold jK at h;split at h
 . cases h
 . exact h
theorem tw:∀(names:List (Str × NameKind)) (acc:List (Str × Addr)),(∀y∈names,y.2=.free->∃c,env.cells.lookup y.1=some c)->
 (∀x c,acc.lookup x=some c->env.cells.lookup x=some c)->
 ∃cl:List (Str × Addr),(forIn names acc λy cs=>if(y.2 == NameKind.free)=true then(do let a <-cellOf env y.1;pure (ForInStep.yield ((y.1,a)::cs))) else pure (ForInStep.yield cs))=(pure cl:Sem _)/\
  (∀x c,cl.lookup x=some c->env.cells.lookup x=some c)/\(∀x,((x,NameKind.free)∈names\/(acc.lookup x).isSome=true)->cl.lookup x=env.cells.lookup x)
 |[],acc,_,ha=>⟨acc,rfl,ha,λx hx=>by
    rcases hx with hx|hx
    . cases hx
    . obtain⟨c,e⟩:=Option.isSome_iff_exists.mp hx;rw[e,ha x c e]⟩
 |(n,k)::r,acc,hn,ha=>by
  by_cases hk:k=.free
  . subst hk;obtain⟨c,e⟩:=hn (n,.free) Q04 rfl;have e:env.cells.lookup n=some c:=e
    have aa:∀x d,((n,c)::acc).lookup x=some d->env.cells.lookup x=some d:=λx d h=>by
     rw[Q1m] at h
     cases hx:x == n with
     |true=>
      rw[hx] at h
      cases h;rw[eq_of_beq hx];exact e
     |false=>
      rw[hx] at h;exact ha x d h
    obtain⟨cl,h1,h2,h3⟩:=tw r ((n,c)::acc) (λy hy=>hn y (Q09 _ hy)) aa;refine⟨cl,?_,h2,λx hx=>h3 x ?_⟩
    . rw[Q2t];have ec:cellOf env n=pure c:=by unfold cellOf;rw[e]
      simp only[beq_self_eq_true,if_true,ec,pure_bind];exact h1
    . rcases hx with hx|hx
      . rcases List.mem_cons.mp hx with q|q
        . right
          cases q;rw[Q1m,beq_self_eq_true];rfl
        . exact .inl q
      . right;rw[Q1m]
        cases x == n with
        |true=>rfl
        |false=>exact hx
  . obtain⟨cl,h1,h2,h3⟩:=tw r acc (λy hy=>hn y (Q09 _ hy)) ha;refine⟨cl,?_,h2,λx hx=>h3 x ?_⟩
    . rw[Q2t];have eb:(k == NameKind.free)=false:=by simpa using hk
      simp only[eb,Bool.false_eq_true,if_false,pure_bind];exact h1
    . rcases hx with hx|hx
      . rcases List.mem_cons.mp hx with q|q
        . cases q;exact absurd rfl hk
        . exact .inl q
      . exact .inr hx
theorem qL(hn:∀y∈scope.names,y.2=.free->∃c,env.cells.lookup y.1=some c):
 ∃cl:List (Str × Addr),closureFor scope env=pure cl/\(∀x c,cl.lookup x=some c->env.cells.lookup x=some c)/\(∀x,(x,NameKind.free)∈scope.names->cl.lookup x=env.cells.lookup x):=by
 obtain⟨cl,h1,h2,h3⟩:=tw scope.names [] hn (λx c h=>by cases h);refine⟨cl,?_,h2,λx hx=>h3 x (.inl hx)⟩;unfold closureFor
 have e:(forIn scope.names ([]:List (Str × Addr)) λy cs=>do
  let mut cs:=cs
  match y with
  |(name,kind)=>if(kind == NameKind.free)=true then cs:=(name,<-cellOf env name)::cs
  pure (ForInStep.yield cs))=(pure cl:Sem _):=by
  rw[<-h1]
 first
  |exact(by simpa using e)
  |(show(forIn scope.names ([]:List (Str × Addr)) _ >>= λcs=>pure cs)=_;rw[bind_pure];exact e)
structure ir (X:Cx) (own:List Str) (scope:Scope):Prop where
 kind:scope.kind=.function
 cell:∀y∈scope.names,y.2≠ .cell
 names:∀y∈scope.names,y.2=.local->scope.names.lookup y.1=some .local
 free:∀y∈scope.names,y.2=.free->X.env.kindOf y.1=some .cell\/X.env.kindOf y.1=some .free
 nd:(own++X.N).Nodup
 outer:∀x∈X.N,scope.names.lookup x≠some .local
noncomputable def gn (X:Cx) (own:List Str) (scope:Scope) (cl:List (Str × Addr)) (C:Addr) (fp:List Addr) (aa:Shared) (ab:Hp):Cx:=
 { X with N:=own++X.N,s₀:=aa,H₀:=ab,env:=compEnvC scope cl C X.env,outer:=X.stack,ex:=fp,fn:=λ_=>false,pn:=[],xe:=λ_ _=>False }
def o4 (X:Cx) (ifs:List Expr) (t:TT):Prop:=
 ∀(pins:List (Addr × Obj)) (s:Shared) (σ:St) (H:Hp) (Q:Bool->Hp->Prop),Inv X pins σ H s->t σ H Q->
  wpAny (model X.prog X.w) X.A (forIn ifs true λc r=>if r=true then do let ok <-isTrue c X.env (eval c X.env);pure (ForInStep.yield ok) else pure (ForInStep.yield r)) (TP X pins σ Q) X.xe s
def jk:TT:=λ_ H Q=>Q true H
theorem kr:o4 X [] jk:=λpins s σ H Q I h=>wpAny_tests_nil ⟨H,I,h⟩
theorem ku(h:PT X c t):o4 X [c] t:=λpins s σ H Q I q=>wpAny_tests_one (h pins s σ H Q I q)
def qM (k:Nat) (wi:TI) (g:TG) (tt:TT) (te:TE):TE:=λσ H Q=>wi σ H λJ H1=>
 ∃W:Nat->Nat->List V->Hp->Prop,(∃m,W 0 m [] H1)/\∀i m ys H,W i m ys H->
  (J.stop i H/\∀p,H p=none->Q (.ref p) (upd H p (.lst ys)))\/
  (J.go i H/\ys.length<sizeLine/\∀x H',J.iP i H x H'->g x (List.replicate k none++σ) H' λaa H2=>aa.drop k=σ/\
    tt aa H2 λb H3=>if b=true then te aa H3 λy H4=>∃m',m'<m/\W (i+1) m' (ys++[y]) H4 else ∃m',m'<m/\W (i+1) m' ys H3)
section
variable {prog:Program}{w:World}{A:Around}{R:Result->Shared->Prop}{s:Shared}
theorem E2(I:Nat->Shared->Prop)
 (turn:∀n s,I n s->wpAny (model prog w) A (pyNext it) (λr aa=>
   match r with
   |none=>R (.ok .next) aa
   |some v=>wpAny (model prog w) A (letOwnedTupleGo target it v) (λ_ ae=>wpAny (model prog w) A (assign target env v) (λ_ af=>
     wpAny (model prog w) A (forIn ifs true λc r=>if r=true then do let ok <-isTrue c env (eval c env);pure (ForInStep.yield ok) else pure (ForInStep.yield r)) (λok ab=>
      if ok=true then wpAny (model prog w) A (eval elt env) (λx ag=>
       wpAny (model prog w) A (call (.builtin "list.append") [acc,x]) (λ_ ah=>∃m,m<n/\I m ah) (λ_ _=>False) ag) (λ_ _=>False) ab
      else ∃m,m<n/\I m ab) (λ_ _=>False) af) (λ_ _=>False) ae) (λ_ _=>False) aa) (λ_ _=>False) s)
 (n:Nat) (h:I n s):
 codeAny (model prog w) A (.compLoop (.ListComp elt [⟨target,iter,ifs,0⟩] scope pos) 0 it acc env) R s:=by
 refine codeAny_loop rfl I (λn s hI=>?_) n h;show wpAny _ A ((compTurn _ 0 it acc env).onRaise _) _ _ s;refine wpAny_noted ?_;rw[compTurn_list]
 have no:∀{α:Type} {t:Sem α} {Q Q':α->Shared->Prop} {E:Value->Shared->Prop} {s:Shared},wpAny (model prog w) A t Q (λ_ _=>False) s->(∀a s,Q a s->Q' a s)->wpAny (model prog w) A t Q' E s:=
  λh k=>Q0r h k λ_ _ z=>z.elim
 refine Q00 (wpAny_standAt (Q00 (no (turn n s hI) λr aa ai=>?_)))
 cases r with
 |none=>exact Q0a ai
 |some v=>
  refine Q00 (no ai λ_ ae ak=>?_);refine Q00 (no ak λ_ af ao=>Q00 (no ao λok ab aj=>?_))
  cases ok with
  |false=>exact Q0a ⟨rfl,aj⟩
  |true=>
   refine Q00 (Q00 (no aj λx ag aq=>?_));exact Q00 (no aq λ_ ah ar=>Q0a (Q0a ⟨rfl,ar⟩))
end
noncomputable abbrev ia (us:List Value) (n:Nat):Obj:={ cls:=.type "list",data:=.seq us.toArray n }
section
variable {X:Cx}{own:List Str}{scope:Scope}
theorem ir.cells (S:ir X own scope)(I:Inv X pins σ H s):
 ∀y∈scope.names,y.2=.free->∃c,X.env.cells.lookup y.1=some c:=λy hy hf=>I.ok.has y.1 (S.free y hy hf)
theorem ir.freeOf (S:ir X own scope)(h:(relabel scope X.env).names.lookup x=some .cell\/(relabel scope X.env).names.lookup x=some .free):(x,NameKind.free)∈scope.names:=by
 rw[xF] at h
 cases e:scope.names.lookup x with
 |none=>rw[e] at h;rcases h with h|h <;> cases h
 |some k=>
  rw[e] at h;have hm:(x,k)∈scope.names:=PySem.mem_of_lookup e
  have hk:k=.free:=by
   rcases h with h|h
   . rcases EZ (Option.some.inj h) with q|q
     . exact q
     . exact absurd q (S.cell _ hm)
   . exact E1 (Option.some.inj h)
  rw[<-hk];exact hm
theorem ir.E3 (S:ir X own scope)(hx:x∈X.N):(relabel scope X.env).names.lookup x≠some .local:=λh=>by
 rw[xF] at h
 cases e:scope.names.lookup x with
 |none=>rw[e] at h;cases h
 |some k=>
  rw[e] at h;have:=EY (Option.some.inj h);subst this;exact S.outer x hx e
theorem xG(h:(List.replicate k none++σ)[i]? =some (some v)):k<=i/\σ[i - k]? =some (some v):=by
 by_cases hi:i<k
 . rw[Q2a (by simpa using hi),Q2o] at h;split at h <;> cases h
 . refine⟨Q0y hi,?_⟩;rw[Q1w (by simpa using hi)] at h;simpa using h
theorem Inv.block(I:Inv X pins σ H s)(S:ir X own scope)
 (hf:∀b∈fp,gu X pins H b) (aj:∀b∈fp,b<s.heap.objs.size)
 (aa:∀x c,cl.lookup x=some c->X.env.cells.lookup x=some c) (ae:∀x,(x,NameKind.free)∈scope.names->cl.lookup x=X.env.cells.lookup x)
 (hC:s.heap.objs.size<=C) (hD:s.heap.objs.size<=D) (ak:D≠C) (hn:ab.Ns C m) (old:∀b o,s.heap.get? b=some o->ab.get? b=some o) (ai:ab.get? D=some (ia us n)):
 Inv (gn X own scope cl C fp s H) [(D,ia us n)] (List.replicate own.length none++σ) H { s with heap:=ab,toks:=t' }:=by
 have ok:=I.ok
 have mY:∀b:Addr,s.heap.objs.size<=b->b ∉ frs X.stack:=λb hb z=>by
  rcases List.mem_cons.mp (I.oF b z) with e|e
  . exact absurd I.lt (by rw[<-e];exact Nat.not_lt.mpr hb)
  . exact I.mY hb e
 have fresh:∀b:Addr,s.heap.objs.size<=b->H b=none:=λb hb=>I.hok.fresh hb
 have au:∀x c,cl.lookup x=some c->c<s.heap.objs.size:=λx c e=>by
  obtain⟨v,q⟩:=I.cell x c (aa x c e);exact q.lt
 refine⟨⟨ok.mod,S.kind,ok.glob,ok.blt,hC,λx y c e1 e2=>ok.inj x y c (aa x c e1) (aa y c e2),λx hx=>?_,λx c hx _=>(nomatch hx),ok.hd,ok.frames,.inl rfl,λb hb=>?_,I.bs,Q0b ok.jg I.sz,λb o e hb=>?_,λb hb z=>?_,I.stack,I.qj⟩,
  rfl,I.bare,Un.kept old,⟨m,hn,λi x v e1 e2 e3=>?_⟩,λx c e=>?_,fresh C hC,λx c e=>?_,λp hp=>?_,I.hok.kept old,?_⟩
 . have hm:=S.freeOf (x:=x) hx;obtain⟨c,e⟩:=ok.has x (S.free _ hm rfl);exact⟨c,by rw[show(gn X own scope cl C fp s H).env.cells=cl from rfl,ae x hm];exact e⟩
 . refine⟨Q08 (Q0e (aj b hb) hC),λx c e z=>?_⟩;exact(hf b hb).2.2.2.2.1 x c (aa x c e) z
 . rcases(hf b hb).2.2.2.1 with z|z
   . exact ok.mW b o e z
   . exact absurd (Q0e (Q02 e) (Q0b ok.jg z)) (Q0w _)
 . rcases List.mem_cons.mp (I.oF b z) with q|q
   . exact(hf b hb).2.1 q
   . exact(hf b hb).2.2.1 q
 . obtain⟨hk,ao⟩:=xG e2
   have af:X.N[i - own.length]? =some x:=by
    have e1:(own++X.N)[i]? =some x:=e1;rw[Q1w hk] at e1;exact e1
   have aq:x∈X.N:=Q16 af
   have ag:(relabel scope X.env).names.lookup x=some .cell\/(relabel scope X.env).names.lookup x=some .free:=by
    rcases e3 with q|q
    . exact absurd q (S.E3 aq)
    . exact q
   have hm:=S.freeOf ag;have ah:=S.free _ hm rfl;obtain⟨mX,av,ar⟩:=I.loc;obtain⟨u,r,lk⟩:=ar _ x v af ao (.inr ah);refine⟨u,r,.inr ⟨ag,?_⟩⟩;rcases lk with⟨q,_⟩|⟨_,c,ec,hc⟩
   . rcases ah with z|z
     . rw[z] at q;cases q
     . rw[z] at q;cases q
   . obtain⟨o,ho,hd⟩:=hc;exact⟨c,(ae x hm).trans ec,o,old _ _ ho,hd⟩
 . obtain⟨v,o,ho,hd⟩:=I.cell x c (aa x c e);exact⟨v,o,old _ _ ho,hd⟩
 . exact I.gO x c (aa x c e)
 . have e:p=(D,ia us n):=by
    have hp:p∈([]++[(D,ia us n)]:List (Addr × Obj)):=hp;simpa using hp
   subst e
   exact⟨ai,fresh D hD,ak,mY D hD,λv z=>by
    have z:Data.seq us.toArray n=Data.cell v:=z
    cases z⟩
 . show _=(own++X.N).length;rw[Q0d,Q0d,Q1e,I.len]
theorem Inv.unblock(I:Inv X pins σ H s)
 (hf:∀b∈fp,gu X pins H b) (I3:Inv (gn X own scope cl C fp s H) pl aa H3 s3) (ab:(D,ia us n)∈pl) (hC:s.heap.objs.size<=C) (hD:s.heap.objs.size<=D) (ae:D≠C)
 (r:Vals ys us) (hz:ys.length<=sizeLine) (hs:Heap.SameBut C s3.heap h'):Inv X pins σ (upd H3 D (.lst ys)) { s3 with heap:=h' }/\H3 D=none:=by
 obtain⟨eD,nD,_,_,_⟩:=I3.pin (D,ia us n) (Q07 _ ab);have nC:H3 C=none:=I3.free;have kC:∀b o,b≠C->s3.heap.get? b=some o->h'.get? b=some o:=λb o hb e=>(hs.2 b hb).trans e;refine⟨I.call' (ch:=fp) I3.os ⟨λb o e nb hb hx=>?_,λb o e nb hb hx=>?_,λb o e nb hx=>?_,λb o e hx=>?_,λb xs e=>?_,λb o u e=>?_,λb ps e=>?_⟩ (λb o e=>?_) I3.bare (λb hb=>?_),nD⟩
 . exact kC b o (Q08 (Q0e (Q02 e) hC)) (I3.base.keep b o e nb hb hx)
 . obtain⟨sl,e1⟩:=I3.base.slot b o e nb hb hx;exact⟨sl,kC b _ (Q08 (Q0e (Q02 e) hC)) e1⟩
 . rw[cQ (Q08 (Q0e (Q02 e) hD))];exact I3.base.free b o e nb hx
 . obtain⟨o',e1⟩:=I3.base.there b o e hx;exact⟨o',kC b _ (Q08 (Q0e (Q02 e) hC)) e1⟩
 . have q:=I3.base.tups b xs e;rw[cQ (c6 q nD)];exact q
 . have q:=I3.base.ip b o u e;rw[cQ (c6 q nD)];exact q
 . obtain⟨mo,q⟩:=I3.base.iE b ps e;exact⟨mo,by rw[cQ (c6 q nD)];exact q⟩
 . by_cases hb:b=D
   . subst hb;rw[cV] at e;cases e;exact⟨hz,us,n,r,kC b _ ae eD⟩
   . rw[cQ hb] at e;refine(I3.hok b o e).stay (λc v hc q=>kC c v ?_ q) (λc q=>by rw[cQ (c6 q nD)];exact q) λc xs q=>by rw[cQ (c6 q nD)];exact q
     rcases hc with z|z
     . rw[z];exact c6 e nC
     . exact c6 z nC
 . obtain⟨_,f1,_,f3,f4,f5⟩:=hf b hb;exact⟨f3,f1,f4,f5⟩
theorem xH{tn:Nat->Heap->Prop}{Fin:List V->Hp->Prop}{W:Nat->Nat->List V->Hp->Prop}
 {RR:Value->Addr->Result->Shared->Prop} (hc:X.calm=true) (S:ir X own scope) (ak:∀x c,cl.lookup x=some c->X.env.cells.lookup x=some c) (aE:∀x,(x,NameKind.free)∈scope.names->cl.lookup x=X.env.cells.lookup x)
 (I2:Inv X pins σ H2 s2) (T:Turn X.prog X.w X.K tg J fp it tn) (az:tn 0 s2.heap) (f2:∀b∈fp,gu X pins H2 b) (w0:W 0 m0 [] H2)
 (turn:∀i m ys H,W i m ys H->(J.stop i H/\Fin ys H)\/
   (J.go i H/\ys.length<sizeLine/\∀x H',J.iP i H x H'->g x (List.replicate own.length none++σ) H' λaw H2=>aw.drop own.length=σ/\
     tt aw H2 λb H3=>if b=true then te aw H3 λy H4=>∃m',m'<m/\W (i+1) m' (ys++[y]) H4 else ∃m',m'<m/\W (i+1) m' ys H3))
 (hg:∀cl C fp af ag,PG (gn X own scope cl C fp af ag) tg g) (ht:∀cl C fp af ag,o4 (gn X own scope cl C fp af ag) ifs tt) (he:∀cl C fp af ag,PE (gn X own scope cl C fp af ag) elt te)
 (aI:∀(C D:Addr) (s5:Shared) (H5:Hp) (ys:List V) (us:List Value) (k:Nat),s2.heap.objs.size<=C->s2.heap.objs.size<=D->D≠C->Inv (gn X own scope cl C fp s2 H2) [(D,ia us k)] (List.replicate own.length none++σ) H5 s5->Vals ys us->ys.length<=sizeLine->Fin ys H5->RR (.ref D) C (.ok .next) s5):
 wpAny (model X.prog X.w) X.A (newList []) (λacc ah=>wpAny (model X.prog X.w) X.A (newFunctionEnv scope X.env.globals cl [] X.env.qual none .none (some X.env)) (λar aF=>
  codeAny (model X.prog X.w) X.A (.compStart (.ListComp elt [⟨tg,iter,ifs,0⟩] scope pos) 0 (.ref it) acc { ar with scope:=relabel scope X.env }) (RR acc ar.locals) aF) X.xe ah) X.xe s2:=by
 have aq:∀b∈fp,b<s2.heap.objs.size:=λb hb=>by
  obtain⟨o,e,_⟩:=T.obj _ _ az b hb;exact Q02 e
 refine wpAny_newObj_type (wpAny_newFunctionEnv S.cell (by intro y hy;simp at hy) (λai ab aa=>?_) S.kind);dsimp only at ab aa ⊢;generalize hG:s2.heap.push { cls:=.type "list",dict:=none,data:=.seq ([]:List Value).toArray }=G at ab aa ⊢;have aA:G.objs.size=s2.heap.objs.size+1:=by rw[<-hG,Q18]
 have hC:s2.heap.objs.size<=G.objs.size:=by rw[aA];exact Q15 _
 have ax:s2.heap.objs.size≠G.objs.size:=by rw[aA];exact Q08 (Q14 _)
 have old:∀b o,s2.heap.get? b=some o->ai.get? b=some o:=λb o e=>
  aa.extBut b o (Q08 (Q0e (Q02 e) hC)) (Q06 _ (hG ▸ Q06 _ e))
 have aG:ai.get? s2.heap.objs.size=some (ia [] 0):=aa.extBut _ _ ax (Q06 _ (hG ▸ Q0i _ rfl));have I3:=I2.block (cl:=cl) (t':=s2.toks+([]:List (Str × Value)).length) S f2 aq ak aE hC (Q0 _) ax ab old aG;have aB:tn 0 ai:=T.keep _ _ _ az λb _ o e=>old b o e;have aJ:∀b∈fp,H2 b=none:=λb hb=>(f2 b hb).1
 have ao:∀{H':Hp} {us:List Value} {n:Nat},(∀b∈fp,H' b=none)->∀b∈fp,gu (gn X own scope cl G.objs.size fp s2 H2) [(s2.heap.objs.size,ia us n)] H' b:=λ{H' us n} hn b hb=>by
  refine⟨hn b hb,Q08 (Q0e (aq b hb) hC),λz=>?_,.inl hb,λx c e=>(f2 b hb).2.2.2.2.1 x c (ak x c e),λp hp=>?_⟩
  . rcases List.mem_cons.mp (I2.oF b z) with q|q
    . exact(f2 b hb).2.1 q
    . exact(f2 b hb).2.2.1 q
  . have hp:p∈([]++[(s2.heap.objs.size,ia us n)]:List (Addr × Obj)):=hp;have e:p=(s2.heap.objs.size,ia us n):=by simpa using hp
    subst e;exact Q0v (aq b hb)
 have loop:∀ah:Shared,ah={ s2 with heap:=ai,toks:=s2.toks+([]:List (Str × Value)).length }->
  codeAny (model X.prog X.w) X.A (.compLoop (.ListComp elt [⟨tg,iter,ifs,0⟩] scope pos) 0 (.ref it) (.ref s2.heap.objs.size) (compEnvC scope cl G.objs.size X.env))
   (RR (.ref s2.heap.objs.size) G.objs.size) ah:=by
  rintro ah rfl
  refine E2 (λn s'=>∃i ys us k H',Inv (gn X own scope cl G.objs.size fp s2 H2) [(s2.heap.objs.size,ia us k)] (List.replicate own.length none++σ) H' s'/\Vals ys us/\ys.length<=sizeLine/\tn i s'.heap/\(∀b∈fp,H' b=none)/\W i n ys H')
   ?_ m0 ⟨0,[],[],0,H2,I3,.nil,Q0c _,aB,aJ,w0⟩
  intro n s4 zq;obtain⟨i,ys,us,k,H4,I4,r4,z4,aC,aD,w4⟩:=zq;rcases turn i n ys H4 w4 with⟨stop,qn⟩|⟨go,aK,step⟩
  . refine dg (T.done (gn X own scope cl G.objs.size fp s2 H2) rfl rfl rfl hc i _ s4 _ H4 (λ_ _=>False) I4 (ao aD) aC stop) λr s5 ⟨hr,I5⟩=>?_;subst hr;exact aI G.objs.size s2.heap.objs.size s5 H4 ys us k hC (Q0 _) ax I5 r4 z4 qn
  . refine dg (T.item (gn X own scope cl G.objs.size fp s2 H2) rfl rfl rfl hc i _ s4 _ H4 (λ_ _=>False) I4 (ao aD) aC go) λr s5 ⟨u,hr,h5⟩=>?_;subst hr;refine dg h5 λ_ s6 zq=>?_;obtain⟨x,H6,I6,r6,y6,aj,aL⟩:=zq;have aM:=I6.pinned (ao aL) (T.obj _ _ aj);refine dg (hg cl G.objs.size fp s2 H2 _ s6 _ H6 x u _ aM r6 (step x H6 y6)) λ_ s7 zq=>?_;obtain⟨ae,H7,I7,d7,q7⟩:=zq;refine dg (ht cl G.objs.size fp s2 H2 _ s7 ae H7 _ I7 q7) λb s8 ⟨H8,I8,q8⟩=>?_;have hlen:(List.replicate own.length none++σ).length=ae.length:=by rw[I7.len,<-I6.len]
    have back:∀(j:Nat) v,(List.replicate own.length none++σ)[j]? =some (some v)->ae[j]? =some (some v):=λj v e=>by
     obtain⟨hk,e'⟩:=xG e;rw[<-d7,List.getElem?_drop] at e';rw[<-e'];congr 1;omega
    cases b with
    |false=>
     have q8:∃m',m'<n/\W (i+1) m' ys H8:=q8;obtain⟨m',hm,w8⟩:=q8;refine⟨m',hm,i+1,ys,us,k,H8,I8.j_.weak hlen back,r4,z4,T.keep _ _ _ aj λb hb o e=>?_,λb hb=>?_,w8⟩
     . exact(I8.pin (b,o) (Q07 _ (Q07 _ (oM hb e)))).1
     . obtain⟨o,e,d⟩:=T.obj _ _ aj b hb;exact(I8.pin (b,o) (Q07 _ (Q07 _ (oM hb e)))).2.1
    |true=>
     have q8:te ae H8 λy H9=>∃m',m'<n/\W (i+1) m' (ys++[y]) H9:=q8;show wpAny _ _ _ _ _ _;refine dg (he cl G.objs.size fp s2 H2 _ s8 ae H8 _ I8 q8) λyv s9 zq=>?_;obtain⟨y,H9,I9,r9,m',hm,w9⟩:=zq;obtain⟨eD,nD,ne1,ne2,_⟩:=I9.pin (s2.heap.objs.size,ia us k) (Q07 _ (Q0o _ Q04));have hl:=r4.length;refine append_at (hsz:=by rw[Q05,<-hl];exact z4) eD λay au aH=>?_
     have av:∀b∈fp,∀o,s6.heap.get? b=some o->s9.heap.get? b=some o/\H9 b=none:=λb hb o e=>by
      have q:=I9.pin (b,o) (Q07 _ (Q07 _ (oM hb e)));exact⟨q.1,q.2.1⟩
     have aN:∀b∈fp,b≠s2.heap.objs.size:=λb hb=>Q08 (aq b hb);have aO:Inv (gn X own scope cl G.objs.size fp s2 H2) [] ae H9 s9:=I9.lU λp hp=>(nomatch hp)
     have aP:Inv (gn X own scope cl G.objs.size fp s2 H2) [] ae H9 { s9 with heap:=ay }:=
      aO.turned (t':=s9.toks) (λb o hb e=>au.extBut b o hb e) nD ne1 (.inr (Q0 _)) (λx c e z=>by
        obtain⟨v,q⟩:=I2.cell x c (ak x c e);exact absurd q.lt (by rw[z];exact Q0w _)) λp hp=>(nomatch hp)
     have aQ:Inv (gn X own scope cl G.objs.size fp s2 H2) [(s2.heap.objs.size,ia (us++[yv]) (k+1))] ae H9 { s9 with heap:=ay }:=aP.lU λp hp=>by
      have e:p=(s2.heap.objs.size,ia (us++[yv]) (k+1)):=by simpa using hp
      subst e
      refine⟨?_,nD,ne1,ne2,λv z=>by
       have z:Data.seq (us++[yv]).toArray (k+1)=Data.cell v:=z
       cases z⟩
      show ay.get? _=some { cls:=.type "list",data:=.seq (us++[yv]).toArray (k+1) };rw[<-List.push_toArray];exact aH
     refine⟨m',hm,i+1,ys++[y],us++[yv],k+1,H9,aQ.weak hlen back,r4.append (.cons r9 .nil),by rw[Q0d,Q1l];exact aK,T.keep _ _ _ aj λb hb o e=>au.extBut b o (aN b hb) (av b hb o e).1,λb hb=>?_,w9⟩;obtain⟨o,e,d⟩:=T.obj _ _ aj b hb;exact(av b hb o e).2
 exact codeAny_compStart_list (loop _ rfl) (T.self _ 0 _ _ _ aB (loop _ rfl))
theorem ib(hc:X.calm=true)(S:ir X own scope)(hi:PI X tg iter wi)
 (hg:∀cl C fp aa ab,PG (gn X own scope cl C fp aa ab) tg g) (ht:∀cl C fp aa ab,o4 (gn X own scope cl C fp aa ab) ifs tt)
 (he:∀cl C fp aa ab,PE (gn X own scope cl C fp aa ab) elt te) (hs:∀x,foldedSetIterable iter X.env x=pure x:=by intro _;rfl):
 PE X (.ListComp elt [⟨tg,iter,ifs,0⟩] scope pos) (qM own.length wi g tt te):=by
 intro pins s σ H Q I h;obtain⟨cl,ae,af,ag⟩:=qL (S.cells I);rw[eval_ListComp];refine wpAny_comprehension_free (use:=none) rfl hs ae S.kind S.names ?_;refine dg (hi pins s σ H _ I h) λv s1 h1=>dg h1 λao s2 h2=>?_;obtain⟨it,fp,tn,J,H2,ah,I2,T,ai,f2,W,⟨m0,w0⟩,turn⟩:=h2;subst ah;refine xH (RR:=λacc C=>compPost (model X.prog X.w) X.A X.xe none (EP X pins σ Q) acc C) hc S af ag I2 T ai f2 w0 turn hg ht he ?_;intro C D s5 H5 ys us k hC hD aj I5 r5 z5 fin;obtain⟨m5,n5,_⟩:=id I5.loc;refine⟨m5,n5,λh' ak=>?_⟩;obtain⟨I6,nD⟩:=I2.unblock f2 I5 Q04 hC hD aj r5 z5 ak;exact⟨.ref D,_,I6,rfl,fin _ nD⟩
theorem tz(hN:X.N.Nodup)(hy:X.N[i]? =some y)(hL:Loc X.env.scope y)(hc:X.calm=true)(S:ir X own scope)(hi:PI X tg iter wi)
 (hg:∀cl C fp aa ab,PG (gn X own scope cl C fp aa ab) tg g) (ht:∀cl C fp aa ab,o4 (gn X own scope cl C fp aa ab) ifs tt)
 (he:∀cl C fp aa ab,PE (gn X own scope cl C fp aa ab) elt te) (hf:X.fn y=true\/X.env.scope.names.lookup y=some .local:=by first|exact .inl rfl|exact .inr rfl|assumption)
 (aq:swapsWith (.ListComp elt [⟨tg,iter,ifs,0⟩] scope pos) (some (.Name y py)) ae.line X.env=pure true:=by rfl) (hs:∀x,foldedSetIterable iter X.env x=pure x:=by intro _;rfl):
 PS X (.Assign [.Name y py] (.ListComp elt [⟨tg,iter,ifs,0⟩] scope pos) ae) (m4 (qM own.length wi g tt te) (eG i)):=by
 intro pins s σ H E I h;obtain⟨cl,af,aj,ak⟩:=qL (S.cells I);rw[exec_Assign_Name_used _ _ _ _ aq];refine Q00 (wpAny_standAt (Q00 ?_));show wpAny _ _ (do let _ <-comprehension _ scope X.env _ (newList []) false (eval iter X.env) (some (assign (.Name y py) X.env))) _ _ s
 refine Q00 (dg (wpAny_comprehension_free (use:=some (assign (.Name y py) X.env)) (Q:=λ_ s'=>SP X pins E .next s') rfl hs af S.kind S.names
  (dg (hi pins s σ H _ I h) λv s1 h1=>dg h1 λax s2 h2=>?_)) λ_ s' hq=>Q0a (Q0a hq))
 obtain⟨it,fp,tn,J,H2,ar,I2,T,au,f2,W,⟨m0,w0⟩,turn⟩:=h2;subst ar;refine xH (RR:=λacc C=>compPost (model X.prog X.w) X.A X.xe (some (assign (.Name y py) X.env)) (λ_ s'=>SP X pins E .next s') acc C) hc S aj ak I2 T au f2 w0 turn hg ht he ?_;intro C D s5 H5 ys us k hC hD ah I5 r5 z5 fin;obtain⟨m5,n5,_⟩:=id I5.loc;obtain⟨I6,nD⟩:=I2.unblock f2 I5 Q04 hC hD ah r5 z5 (Heap.SameBut.refl C s5.heap);obtain⟨oC,es,ep,eC,dC,rC⟩:=id n5;have nC:upd H5 D (.lst ys) C=none:=by rw[cQ (Ne.symm ah)];exact I5.free
 have ai:C≠X.env.locals:=Q0v (Q0e I2.lt hC)
 have ag:∀x c,X.env.cells.lookup x=some c->c≠C:=λx c e z=>by
  obtain⟨v,q⟩:=I2.cell x c e;exact absurd q.lt (by rw[z];exact Nat.not_lt.mpr hC)
 have ao:∀p∈X.pn++pins,p.1≠C:=λp hp z=>by
  have:=Q02 (I2.pin p hp).1;rw[z] at this;exact absurd this (Nat.not_lt.mpr hC)
 have I7:Inv X (pins++[(C,oC)]) σ (upd H5 D (.lst ys)) s5:=by
  refine I6.lU λp hp=>?_;rcases List.mem_append.mp hp with z|z
  . exact I6.pin p (Q07 _ z)
  . have e:p=(C,oC):=by simpa using z
    subst e
    exact⟨eC,nC,ai,I2.mY hC,λv z=>by
     have z:oC.data=Data.cell v:=z;rw[dC] at z;cases z⟩
 show wpAny _ _ (assign (.Name y py) X.env (.ref D)) _ _ s5;refine wpAny_assign_Name (qm (v:=.ref D) I7 hN hy hL rfl (λs8 I8=>?_) hf);obtain⟨av,ay,_⟩:=I8.pin (C,oC) (Q07 _ (Q07 _ Q04));refine⟨_,⟨oC,es,ep,av,dC,rC⟩,λh' aw=>?_⟩
 have I9:Inv X pins (σ.set i (some (.ref D))) (upd H5 D (.lst ys)) { s8 with heap:=h' }:=
  I8.j_.turned (t':=s8.toks) (λb o hb e=>(aw.2 b hb).trans e) nC ai (.inr (Q0b I2.sz hC)) ag ao
 exact⟨_,_,I9,fin _ nD⟩
end
section
variable {X:Cx}
theorem mn:PE X e (λ_ _ _=>False):=λ_ _ _ _ _ _ h=>h.elim
theorem E4:PT X e (λ_ _ _=>False):=λ_ _ _ _ _ _ h=>h.elim
inductive xI (K:W.Frag) (xs:List V) (H:Hp) (Q:V->Hp->Prop):Prop
 |mk (x:_) (T:_) (t:_) (b:_) (h0:xs=[x,.ty T]) (h1:iH K H x t) (h2:W.kitOne K t (.type T)=some b) (h3:Q (.bl b) H):xI K xs H Q
theorem gW:iq X (.builtin "isinstance") (xI X.K):=by
 intro pins s σ H xs us Q I r h;obtain⟨x,T,t,b,rfl,ty,e,q⟩:=h;obtain⟨u,c,rfl,ru,rc⟩:=vals2 r
 cases rc;exact D2 I ru ty e λtk=>⟨.bl b,H,I.tok tk,rfl,q⟩
theorem tD:iq X (.builtin "len") (λxs H Q=>tq xs H Q\/sZ X.K xs H Q):=by
 intro pins s σ H xs us Q I r h;rcases h with h|h
 . exact xD pins s σ H xs us Q I r h
 . exact fC pins s σ H xs us Q I r h
theorem xJ:∀{ss:List Str}{vs:List Value},Vals (ss.map V.str) vs->StrsAre vs ss
 |[],_,r=>by cases r;exact .nil
 |y::r,_,h=>by
  cases h with
  |cons a b=>
   obtain⟨t,e⟩:=a;subst e;exact .cons y t (xJ b)
theorem xK:∀{vs:List Value}{ss:List Str},StrsAre vs ss->Vals (ss.map V.str) vs
 |_,_,.nil=>.nil
 |_,_,.cons y t h=>.cons ⟨t,rfl⟩ (xK h)
inductive xM (K:W.Frag) (xs:List V) (H:Hp) (Q:V->Hp->Prop):Prop
 |mk (a:_) (ss:_) (h0:xs=[.ref a]) (h1:cM K H a (ss.map V.str)) (h2:ss.length<64) (h3:∀p ss',H p=none->ss'.Perm ss->sortedS ss'=true->Q (.ref p) (upd H p (.lst (ss'.map V.str)))):xM K xs H Q
theorem E5:iq X (.builtin "sorted") (xM X.K):=by
 intro pins s σ H xs us Q I r h;obtain⟨a,ss,rfl,hq,ae,q⟩:=h;obtain⟨u,rfl,ru⟩:=vals1 r
 cases ru;obtain⟨aa,rv,pl,hz⟩:=I.list hq;have hl:aa.length=ss.length:=by rw[<-rv.length,Q01]
 refine sorted_strs pl.isList (xJ rv) (by omega) λout ab h1 h2 h3=>?_;obtain⟨e,he⟩:=sortedAll_at s.heap aa out;refine⟨.ref (s.heap.objs.size+1),upd H (s.heap.objs.size+1) (.lst (ab.map V.str)),I.laid (t':=s.toks) (λ_ _=>sortedAll_old) (Q15 _) ?_,rfl,q _ ab (I.hok.fresh (Q15 _)) h2 h3⟩;refine⟨?_,out.toList,e,xK h1,he⟩;rw[Q01,h2.length_eq];have:ss.length<=1000:=by omega
 exact Q0t (eE this)
noncomputable def mq (aa:List Value) (i:Nat):Bool:=match aa[i]? with
 |some (.bool b)=>b
 |_=>false
theorem E6:∀{bs:List Bool}{aa:List Value},Vals (bs.map V.bl) aa->(List.range aa.length).all (mq aa)=bs.all id:=by
 intro bs aa r
 have key:∀i,i<bs.length->mq aa i=bs.getD i false:=λi hi=>by
  have e:(bs.map V.bl)[i]? =some (.bl bs[i]):=by rw[Q0g,Q03 hi];rfl
  obtain⟨u,hu,ru⟩:=r.get e
  cases ru;unfold mq;rw[hu,Q0f,Q03 hi];rfl
 have hl:aa.length=bs.length:=by rw[<-r.length,Q01]
 rw[hl,Bool.eq_iff_iff,Q10,Q10];constructor
 . intro h b hb;obtain⟨i,hi,e⟩:=Q0z hb;have q:=h i (List.mem_range.mpr hi);rw[key i hi,Q0f,Q03 hi,Q2u,e] at q;exact q
 . intro h i hi;have ab:=List.mem_range.mp hi;rw[key i ab,Q0f,Q03 ab,Q2u];exact h _ (Q17 ab)
inductive xN (K:W.Frag) (xs:List V) (H:Hp) (Q:V->Hp->Prop):Prop
 |mk (a:Addr) (bs:List Bool) (h0:xs=[.ref a]) (h1:cM K H a (bs.map V.bl)) (h2:Q (.bl (bs.all id)) H):xN K xs H Q
theorem o5 (hc:X.calm=true):iq X (.builtin "all") (xN X.K):=by
 intro pins s σ H xs us Q I r h;obtain⟨a,bs,rfl,hq,q⟩:=h;obtain⟨u,rfl,ru⟩:=vals1 r
 cases ru;obtain⟨aa,rv,pl,hz⟩:=I.list hq;have ae:a<s.heap.objs.size:=by obtain⟨_,e,_⟩:=pl.isList;exact Q02 e
 refine call_all_walk (wpAny_pyIter_list pl.isList ?_);refine⟨s.heap.objs.size,_,_,_,_,_,mq aa,rfl,Walks.list (show X.A.in1.handled=none from I.ok.hd hc) s.heap.objs.size a (Q08 ae) aa.toArray,⟨⟨_,Q0i _ rfl,rfl,rfl⟩,pl.isList.push _⟩,λi v s' Q' E' hP hQ=>?_,λh' tk hk=>?_⟩
 . have e:aa[i]? =some v:=by simpa using hP
   have hi:i<aa.length:=(List.getElem?_eq_some_iff.mp e).1;have hb:i<(bs.map V.bl).length:=by rw[rv.length];exact hi
   obtain⟨w',ew,ab⟩:=rv.get (Q03 hb);rw[e] at ew;cases ew;rw[Q2c] at ab
   cases ab;refine wpAny_truthy_bool ?_;have eb:mq aa i=bs[i]'(by simpa using hb):=by unfold mq;rw[e]
   rw[eb] at hQ;exact hQ
 . have e:(List.range aa.toArray.size).all (mq aa)=bs.all id:=by rw[Q05];exact E6 rv
   rw[e];have ns:H s.heap.objs.size=none:=I.hok.fresh (Q0 _);refine⟨.bl (bs.all id),H,I.kept (h':=h') (t':=tk) λb o eb=>hk b o ?_ (Q06 _ eb),rfl,q⟩;intro hm;have:b=s.heap.objs.size:=by simpa using hm
   exact absurd (Q02 eb) (by rw[this];exact Q0w _)
noncomputable def Ite (K:W.Frag) (a:Addr):It:=
 ⟨λi H=>∃xs x,cM K H a xs/\xs[i]? =some x,
  λi H x H'=>∃p y,H p=none/\x=.ref p/\(∀xs,cM K H a xs->xs[i]? =some y)/\H'=upd H p (.tup [.int i,y]),
  λi H=>∃xs,cM K H a xs/\xs.length<=i⟩
theorem E7 {P:Program}{w:World}{K:W.Frag}{elts:List Expr}{k:Nat}{tpos:Pos}{a e it:Addr}(ab:e≠it):
 Turn P w K (.Tuple elts k tpos) (Ite K a) [e,it] e (λi h=>∃old,IsEnum h e it (i:Int) old/\h.IsListIter it a i) where
 mem:=by simp
 obj:=λi h st b hb=>by
  obtain⟨old,h1,h2⟩:=st;have hb:b=e\/b=it:=by simpa using hb
  rcases hb with rfl|rfl
  . exact⟨_,h1,λv z=>by
     have z:Data.fields _=Data.cell v:=z
     cases z⟩
  . obtain⟨o,q,c,d⟩:=h2;exact⟨o,q,λv z=>by rw[d] at z;cases z⟩
 keep:=λi h h' st k=>by
  obtain⟨old,h1,h2⟩:=st;exact⟨old,k e (by simp) _ h1,h2.at λo q=>k it (by simp) o q⟩
 item:=by
  intro X hP hw hK hc i pins s σ H E I hf st hg;subst hP hw hK;obtain⟨old,h1,h2⟩:=st;obtain⟨xs,x,hq,hx⟩:=hg;obtain⟨af,rv,p,hz⟩:=I.list hq;obtain⟨u,hu,ru⟩:=rv.get hx;obtain⟨e0,e1,e2,e3,e4,e5⟩:=hf e (by simp);obtain⟨f0,f1,f2,f3,f4,f5⟩:=hf it (by simp);have fr:H s.heap.objs.size=none:=I.hok.fresh (Q0 _);refine wpAny_pyNext_enum_item h1 h2 p.isList (x:=u) (by simpa using hu) ab λh' q1 q2 q3 q4 q5=>?_;refine⟨_,rfl,wpAny_letOwnedTupleGo_enum (s:={ s with heap:=h',toks:=s.toks+1 }) q1 λaa g1 g2=>?_⟩;have ne1:∀b o,s.heap.get? b=some o->b≠s.heap.objs.size:=λb o q=>Q08 (Q02 q);have kk:∀b o,b≠e->b≠it->s.heap.get? b=some o->aa.get? b=some o:=λb o n1 n2 q=>g2.extBut b o n1 (q5 b o n1 n2 q);have pe:s.heap.objs.size≠e:=Q0v (Q02 h1);have tup:aa.get? s.heap.objs.size=some { cls:=.type "tuple",data:=.seq #[.int i s.toks,u] }:=g2.extBut _ _ pe q3
  have I1:Inv X pins σ (upd H s.heap.objs.size (.tup [.int i,x])) { s with heap:=aa,toks:=s.toks+1 }:=by
   refine I.step (g':=s.gens) (d':=s.drawn) (ch:=[e,it]) (λb hb=>?_) (λb o _ _ hc q _=>?_) (λb o _ _ hc q _=>?_) (λb o _ q n=>?_) (λb o hc q=>?_) (λb ys q=>?_) (λb o v q=>?_) (λb ps q=>?_) (λm hm=>?_) (λb o q=>?_) I.bare
   . have hb:b=e\/b=it:=by simpa using hb
     rcases hb with rfl|rfl
     . exact⟨e3,e1,e4,e5⟩
     . exact⟨f3,f1,f4,f5⟩
   . exact kk b o (λz=>hc (by simp[z])) (λz=>hc (by simp[z])) q
   . exact⟨o.slots,kk b o (λz=>hc (by simp[z])) (λz=>hc (by simp[z])) q⟩
   . rw[cQ (ne1 b o q)];exact n
   . exact⟨o,kk b o (λz=>hc (by simp[z])) (λz=>hc (by simp[z])) q⟩
   . rw[cQ (c6 q fr)];exact q
   . rw[cQ (c6 q fr)];exact q
   . exact⟨#[],by rw[cQ (c6 q fr),q];simp⟩
   . obtain⟨o,es,ep,ho,r⟩:=hm;exact⟨o,es,ep,kk _ o (Ne.symm e1) (Ne.symm f1) ho,r⟩
   . by_cases hb:b=s.heap.objs.size
     . subst hb;rw[cV] at q;cases q;refine⟨vx,[.int i s.toks,u],.cons ⟨_,rfl⟩ (.cons ru .nil),?_⟩;exact⟨_,tup,rfl,_,rfl⟩
     . rw[cQ hb] at q;refine(I.hok b o q).stay (λc v ae z=>kk c v ?_ ?_ z) (λc z=>by rw[cQ (c6 z fr)];exact z) λc ys z=>by rw[cQ (c6 z fr)];exact z
       . rcases ae with z|z
         . rw[z];exact c6 q e0
         . exact c6 z e0
       . rcases ae with z|z
         . rw[z];exact c6 q f0
         . exact c6 z f0
  refine⟨.ref s.heap.objs.size,_,I1,rfl,⟨s.heap.objs.size,x,fr,rfl,λys hy=>by rw[I.qr hy hq];exact hx,rfl⟩,⟨u,?_,q2.extBut g2.extBut (Ne.symm ab)⟩,λb hb=>?_⟩
  . have ei:((i+1:Nat):Int)=(i:Int)+1:=by omega
    show IsEnum aa e it ((i+1:Nat):Int) u;rw[ei];exact g1
  . have ag:b=e\/b=it:=by simpa using hb
    have ah:b<s.heap.objs.size:=by
     rcases ag with rfl|rfl
     . exact Q02 h1
     . obtain⟨o,q,_⟩:=h2;exact Q02 q
    rw[cQ (Q08 ah)];exact(hf b hb).1
 done:=by
  intro X hP hw hK hc i pins s σ H E I hf st hg;subst hP hw hK;obtain⟨old,h1,h2⟩:=st;obtain⟨xs,hq,hx⟩:=hg;obtain⟨af,rv,p,hz⟩:=I.list hq;obtain⟨f0,f1,f2,f3,f4,f5⟩:=hf it (by simp);have hl:=rv.length;exact wpAny_pyNext_enum_end (I.ok.hd hc) h1 h2 p.isList (by simp;omega) λh' eb=>⟨rfl,I.turned (t':=s.toks) (λb o hb q=>eb b o hb q) f0 f1 f3 f4 f5⟩
 self:=λA i s Q E st q=>by
  obtain⟨old,h1,_⟩:=st;exact wpAny_pyIter_enum h1 q
inductive xO (K:W.Frag) (R:It->Hp->Prop) (vs:List V) (H1:Hp):Prop
 |mk (a:_) (h0:vs=[.ref a]) (h1:(∃xs,cM K H1 a xs)) (h2:R (Ite K a) H1):xO K R vs H1
def E8 (K:W.Frag) (ta:TA):TI:=λσ H R=>ta σ H (xO K R)
theorem E9:bootBuiltins "enumerate"=some (.type "enumerate"):=by decide +kernel
theorem qN(hg:Gl X "enumerate")(hm:X.mg "enumerate"=none)(ha:PA X [a] ta)(hs:starEach [a] X.env=[(false,eval a X.env)]:=by rfl):
 PI X (.Tuple elts k tpos) (.Call (.Name "enumerate" p) [a] [] pos) (E8 X.K ta):=by
 intro pins s σ H R I h;refine Call_ (jD I hg hm E9 (PyProof.Rows.callWith_type1 (dg (ha pos pins s σ H _ I h) λus s1 zq=>?_) hs rfl));obtain⟨vs,H1,I1,r1,q1⟩:=zq;obtain⟨l,e,⟨xs,hq⟩,q⟩:=q1;subst e;obtain⟨u,rfl,ru⟩:=vals1 r1
 cases ru;obtain⟨aa,rv,pl,hz⟩:=I1.list hq;refine call_enumerate_list pl.isList λh' q1 q2 q3 q4=>?_;refine wpAny_pyIter_enum q1 ?_;have I2:Inv X pins σ H1 { s1 with heap:=h' }:=I1.kept (t':=s1.toks) q4;refine⟨s1.heap.objs.size+1,[s1.heap.objs.size+1,s1.heap.objs.size],_,_,H1,rfl,I2,E7 (Q0v (Q14 _)),⟨.none,q1,q2⟩,λb hb=>?_,q⟩
 have hb:s1.heap.objs.size<=b:=by
  have hb:b=s1.heap.objs.size+1\/b=s1.heap.objs.size:=by simpa using hb
  rcases hb with z|z
  . rw[z];exact Q15 _
  . rw[z];exact Q0 _
 exact I1.j8 hb (I1.hok.fresh hb)
theorem boot_zip:bootBuiltins "zip"=some (.type "zip"):=by decide +kernel
theorem E_:fw X (binaryOp .Mult) (λx y H Q=>∃z i,x=.str z/\y=.int i/\MulOk z i/\Q (.str (Txt.mul z i)) H):=by
 intro pins s σ H x y v u Q I rx ry h;obtain⟨z,i,rfl,rfl,ok,q⟩:=h;obtain⟨t,rfl⟩:=rx;obtain⟨t',rfl⟩:=ry;exact SB.mul ok λt2 k=>⟨.str (Txt.mul z i),H,I.tok k,⟨_,rfl⟩,q⟩
theorem xP(h:IsPart v o):(v=.none/\o=none)\/∃i t,v=.int i t/\o=some i:=by
 cases h with
 |none=>exact .inl ⟨rfl,rfl⟩
 |int i t=>exact .inr ⟨i,t,rfl,rfl⟩
theorem xQ:sV X (λx lo hi H Q=>∃z,x=.str z/\z.length<=sizeLine/\Q (.str (Txt.slice z lo hi)) H):=by
 intro pins s σ H x v vl vu lo hi sl Q I rx hs pl pu h;obtain⟨z,rfl,hz,q⟩:=h;obtain⟨t,rfl⟩:=rx
 have fin:∀{lo hi:Option Int} (q:Q (.str (Txt.slice z lo hi)) H),(Txt.slice z lo hi).length<=sizeLine/\∀t' k,EP X pins σ Q (.str (Txt.slice z lo hi) t') { s with toks:=k }:=
  λq=>⟨Q0b (Txt.slice_le z _ _) hz,λt' k=>⟨.str _,H,I.tok k,⟨t',rfl⟩,q⟩⟩
 refine⟨"str",_,F.slot_str_getitem.lookup,typeIs_str _ _ _,?_⟩;obtain⟨o,ho,hc,hd⟩:=hs;rcases xP pl with⟨e1,rfl⟩|⟨i,ti,e1,rfl⟩ <;> rcases xP pu with⟨e2,rfl⟩|⟨j,tj,e2,rfl⟩ <;> subst e1 <;> subst e2
 . exact wpAny_getItem_str_slice (l:=none) (u:=none) (st:=none) ⟨o,ho,hc,hd⟩ rfl (post_val_or_str (fin q))
 . exact wpAny_getItem_str_slice (l:=none) (u:=some (j,tj)) (st:=none) ⟨o,ho,hc,hd⟩ rfl (post_val_or_str (fin q))
 . exact wpAny_getItem_str_slice (l:=some (i,ti)) (u:=none) (st:=none) ⟨o,ho,hc,hd⟩ rfl (post_val_or_str (fin q))
 . exact wpAny_getItem_str_slice (l:=some (i,ti)) (u:=some (j,tj)) (st:=none) ⟨o,ho,hc,hd⟩ rfl (post_val_or_str (fin q))
end
theorem yes(h:Q true H):jk σ H Q:=h
section
variable {K:W.Frag}{σ:St}{H:Hp}{Q:VK}{D:Ends}
theorem o6(h:σ[i]? =some (some (.str a)))(hy:decide (V.str a=V.str b)=true)(q:T D σ H):lV (iG (d6 l7 (dF i) (tC (.str b)))) T U D σ H:=
 ⟨_,h,rfl,_,rfl,by rw[hy];exact fo q⟩
theorem ic(h:σ[i]? =some (some (.str a)))(hy:decide (V.str a=V.str b)=false)(q:U D σ H):lV (iG (d6 l7 (dF i) (tC (.str b)))) T U D σ H:=
 ⟨_,h,rfl,_,rfl,by rw[hy];exact dX q⟩
theorem jL(h:σ[i]? =some (some (.ref p)))(h2:H p=some (.tup xs))(h3:xs[0]? =some (.str a))(hy:decide (V.str a=V.str b)=true)(q:T D σ H):
 lV (iG (d6 l7 (d6 (gm K) (dF i) (tC (.int 0))) (tC (.str b)))) T U D σ H:=
 ⟨_,h,p,xs,0,.str a,rfl,rfl,cJ.of h2,fe (j:=0) h3,rfl,_,rfl,by rw[hy];exact fo q⟩
theorem e7(h:σ[i]? =some (some (.ref p)))(h2:H p=some (.tup xs))(h3:xs[0]? =some (.str a))(hy:decide (V.str a=V.str b)=false)(q:U D σ H):
 lV (iG (d6 l7 (d6 (gm K) (dF i) (tC (.int 0))) (tC (.str b)))) T U D σ H:=
 ⟨_,h,p,xs,0,.str a,rfl,rfl,cJ.of h2,fe (j:=0) h3,rfl,_,rfl,by rw[hy];exact dX q⟩
end
end L2
namespace L2
noncomputable def tE (own N:List Str) (scope sc:Scope):Bool:=
 scope.names.all (λy=>decide (y.2≠ .cell)) && scope.names.all (λy=>decide (y.2=.local->scope.names.lookup y.1=some .local)) &&
 scope.names.all (λy=>decide (y.2=.free->sc.names.lookup y.1=some .cell\/sc.names.lookup y.1=some .free)) && decide (own++N).Nodup && N.all λx=>decide (scope.names.lookup x≠some .local)
theorem ir.of(aa:X.env.scope=sc)(hN:X.N=N)(k:scope.kind=.function)(c:tE own N scope sc=true):ir X own scope:=by
 unfold tE at c;simp only[Bool.and_eq_true,Q10,decide_eq_true_eq] at c;obtain⟨⟨⟨⟨c1,c2⟩,c3⟩,c4⟩,c5⟩:=c;exact⟨k,c1,c2,λy hy hf=>by rw[show X.env.kindOf y.1=X.env.scope.names.lookup y.1 from rfl,aa];exact c3 y hy hf,by rw[hN];exact c4,by rw[hN];exact c5⟩
end L2
namespace kx
open W PyProof.Rows
noncomputable def dJ {α:Type}(f:Nat->Nat->Bool):KasT α->α
 | .ret a=>a
 | .ask i j k=>dJ f (k (f i j))
theorem nj {α β:Type}(f:Nat->Nat->Bool)(g:α->KasT β):∀t:KasT α,dJ f (t.bind g)=dJ f (g (dJ f t))
 | .ret _=>rfl
 | .ask i j k=>nj f g (k (f i j))
def Bn {α:Type}(n:Nat) (R:α->Prop):KasT α->Prop
 | .ret a=>R a
 | .ask i j k=>i<n/\j<n/\∀b,Bn n R (k b)
theorem Bn.bind {α β:Type}{R:α->Prop}{S:β->Prop}{g:α->KasT β}:∀{t:KasT α},Bn n R t->(∀a,R a->Bn n S (g a))->Bn n S (t.bind g)
 | .ret a,h,k=>k a h
 | .ask i j q,h,k=>⟨h.1,h.2.1,λb=>Bn.bind (h.2.2 b) k⟩
theorem xR {α:Type}{R:α->Prop}{f:Nat->Nat->Bool}{cmp:Nat->Nat->(Bool->Shared->Prop)->Shared->Prop}{Q:α->Shared->Prop}
 (h:∀i j (C:Bool->Shared->Prop),i<n->j<n->C (f i j) s->cmp i j C s):∀{t:KasT α},Bn n R t->Q (dJ f t) s->t.kasWp cmp Q s
 | .ret a,_,q=>q
 | .ask i j k,b,q=>h i j _ b.1 b.2.1 (xR h (b.2.2 (f i j)) q)
def Lt (n:Nat) (p:Array Nat):Prop:=0<n/\∀x∈p,x<n
theorem Lt.at(h:Lt n p)(i:Nat):p.getD i 0<n:=by
 rw[Q1n]
 cases e:p[i]? with
 |none=>exact h.1
 |some x=>exact h.2 x (Array.mem_of_getElem? e)
theorem Lt.perm(h:Lt n p)(hp:q.Perm p):Lt n q:=⟨h.1,λx hx=>h.2 x (hp.mem_iff.mp hx)⟩
theorem ky (p:Array Nat)(i j:Nat):(kas_rev p i j).Perm p:=mirror_perm _ _ _ _
theorem Fb (p:Array Nat)(i j:Nat):(kas_rev p i j).size=p.size:=mirror_size _ _ _ _
theorem tF(h:Lt n p):∀f m,Bn n (λ_=>True) (kas_asc p f m)
 |0,_=>trivial
 |f+1,m=>⟨h.at _,h.at _,λb=>by
   cases b with
   |true=>exact trivial
   |false=>exact tF h f (m+1)⟩
theorem qO:∀f (p:Array Nat) m q,Lt n p->Bn n (λr:Array Nat × Nat × Nat=>Lt n r.1) (kas_desc f p m q)
 |0,_,_,_,h=>h
 |f+1,p,m,q,h=>⟨h.at _,h.at _,λb=>by
   cases b with
   |true=>
    show Bn n _ (if q > 0 then kas_desc f (kas_rev p (m - (q+1)) m) (m+1) 0 else kas_desc f p (m+1) 0);split
    . exact qO f _ _ _ (h.perm (ky _ _ _))
    . exact qO f _ _ _ h
   |false=>
    refine⟨h.at _,h.at _,λd=>?_⟩
    cases d with
    |true=>exact h
    |false=>exact qO f _ _ _ h⟩
theorem xS(h:Lt n p):Bn n (λq:Nat × Array Nat=>Lt n q.2) (kas_tail3 m r p):=
 (tF (h.perm (ky _ _ _)) _ _).bind λ_ _=>h.perm (ky _ _ _)
theorem xT(h:Lt n p):Bn n (λq:Nat × Array Nat=>Lt n q.2) (kas_descPart m r p):=by
 refine(qO _ _ _ _ h).bind λa ha=>?_;split
 . exact xS (ha.perm (ky _ _ _))
 . exact xS ha
theorem Fc(h:Lt n p):Bn n (λq:Nat × Array Nat=>Lt n q.2) (kas_count r p):=by
 refine(tF h _ _).bind λa _=>?_;split
 . exact h
 split
 . refine⟨h.at _,h.at _,λb=>?_⟩
   cases b with
   |true=>exact h
   |false=>exact xT (h.perm (ky _ _ _))
 . exact xT h
theorem tG(h:Lt n p):∀f l r,Bn n (λ_=>True) (kas_place p k f l r)
 |0,_,_=>trivial
 |f+1,l,r=>by
  unfold kas_place;split
  . exact trivial
  . refine⟨h.at _,h.at _,λb=>?_⟩
    cases b with
    |true=>exact tG h f _ _
    |false=>exact tG h f _ _
theorem xU:∀f (p:Array Nat) k,Lt n p->Bn n (λ_=>True) (kas_bin f p k)
 |0,_,_,_=>trivial
 |f+1,p,k,h=>(tG h _ _ _).bind λl _=>xU f _ _ (h.perm (bubble_perm _ _ _))
theorem Fe(hn:0<n):Bn n (λ_=>True) (kas_sort n):=by
 have h:Lt n (List.toArray (List.range n)):=⟨hn,λx hx=>by simpa using hx⟩;refine(Fc h).bind λr hr=>?_;split
 . exact xU _ _ _ hr
 . exact trivial
section
variable {O:KeyOrd}(key:Nat->O.α)
noncomputable def dR:Nat->Nat->Bool:=λi j=>O.blt (key i) (key j)
noncomputable def Kp (p:Array Nat) (i:Nat):O.α:=key (p.getD i 0)
def iu (p:Array Nat) (k:Nat):Prop:=∀i j,i<=j->j<k->O.kle (Kp key p i) (Kp key p j)
def iQ (p:Array Nat) (k:Nat):Prop:=∀i j,i<=j->j<k->O.kle (Kp key p j) (Kp key p i)
variable {key}
theorem iu.succ(h:iu key p n)(h1:1<=n)(e:O.kle (Kp key p (n - 1)) (Kp key p n)):iu key p (n+1):=by
 intro i j aa hj;by_cases ab:j<n
 . exact h i j aa ab
 . have:j=n:=by omega
   subst this;by_cases hi:i=j
   . subst hi;exact KeyOrd.kle_refl _
   . exact KeyOrd.kle_trans (h i (j - 1) (by omega) (by omega)) e
theorem iQ.succ(h:iQ key p n)(h1:1<=n)(e:O.kle (Kp key p n) (Kp key p (n - 1))):iQ key p (n+1):=by
 intro i j aa hj;by_cases ab:j<n
 . exact h i j aa ab
 . have:j=n:=by omega
   subst this;by_cases hi:i=j
   . subst hi;exact KeyOrd.kle_refl _
   . exact KeyOrd.kle_trans e (h i (j - 1) (by omega) (by omega))
theorem o7(h:p[i]? =q[j]?):Kp key p i=Kp key q j:=by
 unfold Kp;rw[Q1n,Q1n,h]
theorem tH(hj:j<=p.size)(k:Nat):Kp key (kas_rev p i j) k=if i<=k/\k<j then Kp key p (i+j - 1 - k) else Kp key p k:=by
 have e:=getElem?_mirror_all (i:=i) hj k;by_cases h1:i<=k/\k<j
 . rw[if_pos h1] at e ⊢;exact o7 e
 . rw[if_neg h1] at e ⊢;exact o7 e
theorem tJ(hj:j<=p.size)(heq:∀k,i<=k->k<j->Kp key p k=Kp key p (j - 1))(k:Nat):Kp key (kas_rev p i j) k=Kp key p k:=by
 rw[tH hj];split
 . rw[heq _ (by omega) (by omega),heq k (by omega) (by omega)]
 . rfl
theorem Ff(hs:src<p.size)(hd:d<=src)(k:Nat):
 Kp key (bubble p src d) k=if k=src - d then Kp key p src else if src - d<k/\k<=src then Kp key p (k - 1) else Kp key p k:=by
 have e:=getElem?_bubble hs d hd k;by_cases h1:k=src - d
 . rw[if_pos h1] at e ⊢;exact o7 e
 . rw[if_neg h1] at e ⊢;by_cases h2:src - d<k/\k<=src
   . rw[if_pos h2] at e ⊢;exact o7 e
   . rw[if_neg h2] at e ⊢;exact o7 e
theorem iQ.congr(h:iQ key p n)(e:∀k,Kp key q k=Kp key p k):iQ key q n:=λi j a b=>by
 rw[e,e];exact h i j a b
theorem tK:∀f n,1<=n->iu key p n->n<=dJ (dR key) (kas_asc p f n)/\dJ (dR key) (kas_asc p f n)<=n+f/\iu key p (dJ (dR key) (kas_asc p f n))/\
 (dJ (dR key) (kas_asc p f n)<n+f->O.klt (Kp key p (dJ (dR key) (kas_asc p f n))) (Kp key p (dJ (dR key) (kas_asc p f n) - 1)))
 |0,n,_,h=>⟨Q0 _,Q0 _,h,λz=>absurd z (Q0w _)⟩
 |f+1,n,h1,h=>by
  have e:dJ (dR key) (kas_asc p (f+1) n)=dJ (dR key) (if O.blt (Kp key p n) (Kp key p (n - 1))=true then .ret n else kas_asc p f (n+1)):=rfl;rw[e]
  cases c:O.blt (Kp key p n) (Kp key p (n - 1)) with
  |true=>
   rw[if_pos rfl];exact⟨Q0 _,Q11 _ _,h,λ_=>c⟩
  |false=>
   rw[if_neg (by simp)];obtain⟨a1,a2,a3,a4⟩:=tK f (n+1) (by omega) (h.succ h1 c);exact⟨by omega,by omega,a3,λz=>a4 (by omega)⟩
structure DI (O:KeyOrd) (key:Nat->O.α) (p₀:Array Nat) (p:Array Nat) (n q:Nat):Prop where
 perm:p.Perm p₀
 non:iQ key p n
 one:q+1<=n
 size:n<=p.size
 eq:∀k,n - (q+1)<=k->k<n->Kp key p k=Kp key p (n - 1)
theorem qP:∀f (p:Array Nat) n q,DI O key aa p n q->n+f<=aa.size->
 ∃p' n' q',dJ (dR key) (kas_desc f p n q)=(p',n',q')/\DI O key aa p' n' q'/\n'<=n+f
 |0,p,n,q,d,_=>⟨p,n,q,rfl,d,Q0 _⟩
 |f+1,p,n,q,d,hs=>by
  have hsz:p.size=aa.size:=d.perm.size_eq
  have e:dJ (dR key) (kas_desc (f+1) p n q)=dJ (dR key) (if O.blt (Kp key p n) (Kp key p (n - 1))=true then(if q > 0 then kas_desc f (kas_rev p (n - (q+1)) n) (n+1) 0 else kas_desc f p (n+1) 0)
   else .ask (p.getD (n - 1) 0) (p.getD n 0) λd=>if d=true then .ret (p,n,q) else kas_desc f p (n+1) (q+1)):=rfl
  rw[e];have one:=d.one
  cases c:O.blt (Kp key p n) (Kp key p (n - 1)) with
  |true=>
   rw[if_pos rfl];have cl:O.kle (Kp key p n) (Kp key p (n - 1)):=KeyOrd.kle_of_klt c;by_cases hq:q > 0
   . rw[if_pos hq];have ek:∀k,Kp key (kas_rev p (n - (q+1)) n) k=Kp key p k:=tJ d.size d.eq
     have d':DI O key aa (kas_rev p (n - (q+1)) n) (n+1) 0:=⟨(ky _ _ _).trans d.perm,(d.non.succ (by omega) cl).congr ek,by omega,by rw[Fb];omega,λk h1 h2=>by
      have:k=n:=by omega
      subst this;rfl⟩
     obtain⟨p',n',q',r1,r2,r3⟩:=qP f _ _ _ d' (by omega);exact⟨p',n',q',r1,r2,by omega⟩
   . rw[if_neg hq]
     have d':DI O key aa p (n+1) 0:=⟨d.perm,d.non.succ (by omega) cl,by omega,by omega,λk h1 h2=>by
      have:k=n:=by omega
      subst this;rfl⟩
     obtain⟨p',n',q',r1,r2,r3⟩:=qP f _ _ _ d' (by omega);exact⟨p',n',q',r1,r2,by omega⟩
  |false=>
   rw[if_neg (by simp)];have e2:dJ (dR key) (.ask (p.getD (n - 1) 0) (p.getD n 0) λd=>if d=true then .ret (p,n,q) else kas_desc f p (n+1) (q+1))=dJ (dR key) (if O.blt (Kp key p (n - 1)) (Kp key p n)=true then .ret (p,n,q) else kas_desc f p (n+1) (q+1)):=rfl;rw[e2]
   cases c2:O.blt (Kp key p (n - 1)) (Kp key p n) with
   |true=>
    rw[if_pos rfl];exact⟨p,n,q,rfl,d,by omega⟩
   |false=>
    rw[if_neg (by simp)];have ee:Kp key p n=Kp key p (n - 1):=O.total _ _ c c2
    have d':DI O key aa p (n+1) (q+1):=⟨d.perm,d.non.succ (by omega) (by rw[ee];exact KeyOrd.kle_refl _),by omega,by omega,λk h1 h2=>by
     show Kp key p k=Kp key p n;by_cases hk:k=n
     . rw[hk]
     . rw[ee];exact d.eq k (by omega) (by omega)⟩
    obtain⟨p',n',q',r1,r2,r3⟩:=qP f _ _ _ d' (by omega);exact⟨p',n',q',r1,r2,by omega⟩
def o8 (O:KeyOrd) (key:Nat->O.α) (aa:Array Nat) (nrem:Nat) (r:Nat × Array Nat):Prop:=r.2.Perm aa/\1<=r.1/\r.1<=nrem/\iu key r.2 r.1
theorem xV(hp:p.Perm aa)(h1:1<=n)(hn:n<=nrem)(hs:nrem<=aa.size)(h:iQ key p n):o8 O key aa nrem (dJ (dR key) (kas_tail3 n nrem p)):=by
 have hsz:p.size=aa.size:=hp.size_eq;unfold kas_tail3;rw[nj]
 have hS:iu key (kas_rev p 0 n) n:=λi j ab hj=>by
  rw[tH (by omega),tH (by omega),if_pos (by omega),if_pos (by omega)];exact h _ _ (by omega) (by omega)
 obtain⟨a1,a2,a3,_⟩:=tK (key:=key) (p:=kas_rev p 0 n) (nrem - n) n h1 hS;exact⟨(ky _ _ _).trans hp,by show 1<=dJ _ _;omega,by show dJ _ _<=nrem;omega,a3⟩
theorem xW(hp:p.Perm aa)(h1:1<=n)(hn:n+1<=nrem)(hs:nrem<=aa.size)(h:iQ key p (n+1)):o8 O key aa nrem (dJ (dR key) (kas_descPart n nrem p)):=by
 have hsz:p.size=aa.size:=hp.size_eq;unfold kas_descPart;rw[nj]
 have d:DI O key aa p (n+1) 0:=⟨hp,h,by omega,by omega,λk h1 h2=>by
  have:k=n:=by omega
  subst this;rfl⟩
 obtain⟨p',n',q',r1,r2,r3⟩:=qP (key:=key) (nrem - (n+1)) p (n+1) 0 d (by omega);rw[r1];have o:=r2.one;have sz:=r2.size;have ab:p'.size=aa.size:=r2.perm.size_eq;by_cases hq:q' > 0
 . show o8 O key aa nrem (dJ (dR key) (if q' > 0 then kas_tail3 n' nrem (kas_rev p' (n' - (q'+1)) n') else kas_tail3 n' nrem p'));rw[if_pos hq];exact xV ((ky _ _ _).trans r2.perm) (by omega) (by omega) hs (r2.non.congr (tJ r2.size r2.eq))
 . show o8 O key aa nrem (dJ (dR key) (if q' > 0 then kas_tail3 n' nrem (kas_rev p' (n' - (q'+1)) n') else kas_tail3 n' nrem p'));rw[if_neg hq];exact xV r2.perm (by omega) (by omega) hs r2.non
theorem Fg(h1:1<=nrem)(hs:nrem<=p.size):o8 O key p nrem (dJ (dR key) (kas_count nrem p)):=by
 unfold kas_count;rw[nj]
 obtain⟨a1,a2,a3,a4⟩:=tK (key:=key) (p:=p) (nrem - 1) 1 (Q0 _) (λi j aa hj=>by
  have e1:i=0:=by omega
  have e2:j=0:=by omega
  subst e1;subst e2;exact KeyOrd.kle_refl _)
 generalize dJ (dR key) (kas_asc p (nrem - 1) 1)=n at *;by_cases hn:n=nrem
 . rw[if_pos (by simpa using hn)];exact⟨Array.Perm.refl _,a1,by show n<=nrem;omega,a3⟩
 . rw[if_neg (by simpa using hn)];have cl:O.klt (Kp key p n) (Kp key p (n - 1)):=a4 (by omega);by_cases hg:n > 1
   . rw[if_pos hg]
     have e:dJ (dR key) (.ask (p.getD 0 0) (p.getD (n - 1) 0) λc=>if c=true then .ret (n,p) else kas_descPart n nrem (kas_rev p 0 n))=
      dJ (dR key) (if O.blt (Kp key p 0) (Kp key p (n - 1))=true then .ret (n,p) else kas_descPart n nrem (kas_rev p 0 n)):=rfl
     rw[e]
     cases c:O.blt (Kp key p 0) (Kp key p (n - 1)) with
     |true=>
      rw[if_pos rfl];exact⟨Array.Perm.refl _,a1,by show n<=nrem;omega,a3⟩
     |false=>
      rw[if_neg (by simp)]
      have all:∀k,0<=k->k<n->Kp key p k=Kp key p (n - 1):=λk _ hk=>by
       have c':O.kle (Kp key p (n - 1)) (Kp key p 0):=c;exact KeyOrd.kle_antisymm (a3 k (n - 1) (by omega) (by omega)) (KeyOrd.kle_trans c' (a3 0 k (by omega) hk))
      have ek:∀k,Kp key (kas_rev p 0 n) k=Kp key p k:=tJ (by omega) all;refine xW (ky _ _ _) a1 (by omega) hs (iQ.congr (iQ.succ (n:=n) (λi j aa hj=>?_) a1 (KeyOrd.kle_of_klt cl)) ek);rw[all i (by omega) (by omega),all j (by omega) (by omega)];exact KeyOrd.kle_refl _
   . rw[if_neg hg];have:n=1:=by omega
     subst this;refine xW (Array.Perm.refl _) a1 (by omega) hs (iQ.succ (n:=1) (λi j aa hj=>?_) a1 (KeyOrd.kle_of_klt cl));have e1:i=0:=by omega
     have e2:j=0:=by omega
     subst e1;subst e2;exact KeyOrd.kle_refl _
theorem tL(h:iu key p k):∀f l r,l<=r->r<=k->r - l<=f->(∀i,i<l->O.kle (Kp key p i) (Kp key p k))->(∀i,r<=i->i<k->O.klt (Kp key p k) (Kp key p i))->
 ∃m,dJ (dR key) (kas_place p k f l r)=m/\m<=k/\(∀i,i<m->O.kle (Kp key p i) (Kp key p k))/\(∀i,m<=i->i<k->O.klt (Kp key p k) (Kp key p i))
 |0,l,r,h1,h2,h3,h4,h5=>⟨l,rfl,by omega,h4,λi a b=>h5 i (by omega) b⟩
 |f+1,l,r,h1,h2,h3,h4,h5=>by
  by_cases hg:l ≥ r
  . refine⟨l,?_,by omega,h4,λi a b=>h5 i (by omega) b⟩;unfold kas_place;rw[if_pos hg];rfl
  . have e:dJ (dR key) (kas_place p k (f+1) l r)=dJ (dR key) (if O.blt (Kp key p k) (Kp key p ((l+r) / 2))=true then kas_place p k f l ((l+r) / 2) else kas_place p k f ((l+r) / 2+1) r):=by
     show dJ (dR key) (if l ≥ r then .ret l else _)=_;rw[if_neg hg];rfl
    rw[e]
    cases c:O.blt (Kp key p k) (Kp key p ((l+r) / 2)) with
    |true=>
     rw[if_pos rfl];exact tL h f _ _ (by omega) (by omega) (by omega) h4 λi a b=>KeyOrd.klt_of_klt_of_kle (show O.klt _ _ from c) (h _ _ a b)
    |false=>
     rw[if_neg (by simp)];exact tL h f _ _ (by omega) h2 (by omega) (λi a=>KeyOrd.kle_trans (h i ((l+r) / 2) (by omega) (by omega)) (show O.kle _ _ from c)) h5
theorem xX:∀f (p:Array Nat) k,iu key p k->k+f<=p.size->(dJ (dR key) (kas_bin f p k)).Perm p/\iu key (dJ (dR key) (kas_bin f p k)) (k+f)
 |0,p,k,h,_=>⟨Array.Perm.refl _,h⟩
 |f+1,p,k,h,hs=>by
  have e:dJ (dR key) (kas_bin (f+1) p k)=dJ (dR key) (kas_bin f (bubble p k (k - dJ (dR key) (kas_place p k k 0 k))) (k+1)):=by
   show dJ (dR key) ((kas_place p k k 0 k).bind λl=>kas_bin f (bubble p k (k - l)) (k+1))=_;rw[nj]
  rw[e];obtain⟨m,em,m1,m2,m3⟩:=tL h k 0 k (Q0c _) (Q0 _) (Q0 _) (λi z=>absurd z (Q1o _)) (λi a b=>absurd a (by omega));rw[em];have kb:=λi=>Ff (key:=key) (p:=p) (src:=k) (d:=k - m) (by omega) (by omega) i;have hm:k - (k - m)=m:=by omega
  rw[hm] at kb
  have hS:iu key (bubble p k (k - m)) (k+1):=by
   intro i j aa hj;rw[kb i,kb j];by_cases ei:i=m
   . rw[if_pos ei];by_cases ej:j=m
     . rw[if_pos ej];exact KeyOrd.kle_refl _
     . rw[if_neg ej,if_pos (by omega)];exact KeyOrd.kle_of_klt (m3 _ (by omega) (by omega))
   . rw[if_neg ei];by_cases li:m<i/\i<=k
     . rw[if_pos li,if_neg (by omega),if_pos (by omega)];exact h _ _ (by omega) (by omega)
     . rw[if_neg li];by_cases ej:j=m
       . rw[if_pos ej];exact m2 i (by omega)
       . rw[if_neg ej];by_cases lj:m<j/\j<=k
         . rw[if_pos lj];exact h _ _ (by omega) (by omega)
         . rw[if_neg lj];exact h _ _ aa (by omega)
  obtain⟨b1,b2⟩:=xX f (bubble p k (k - m)) (k+1) hS (by rw[bubble_size];omega);exact⟨b1.trans (bubble_perm _ _ _),by rw[show k+(f+1)=k+1+f by omega];exact b2⟩
theorem Fh(hn:1<=n):(dJ (dR key) (kas_sort n)).toList.Perm (List.range n)/\((dJ (dR key) (kas_sort n)).toList.map key).Pairwise O.kle:=by
 have hz:(List.toArray (List.range n)).size=n:=by simp
 obtain⟨c1,c2,c3,c4⟩:=Fg (key:=key) (p:=List.toArray (List.range n)) (nrem:=n) hn (by omega)
 have main:(dJ (dR key) (kas_sort n)).Perm (List.toArray (List.range n))/\iu key (dJ (dR key) (kas_sort n)) n:=by
  unfold kas_sort;rw[nj];generalize dJ (dR key) (kas_count n (List.toArray (List.range n)))=r at *;obtain⟨m,p⟩:=r;have hsz:p.size=n:=by rw[c1.size_eq,hz]
  by_cases hm:m<n
  . show(dJ (dR key) (if m<n then kas_bin (n - max m 1) p (max m 1) else .ret p)).Perm _/\iu key (dJ (dR key) (if m<n then kas_bin (n - max m 1) p (max m 1) else .ret p)) n;rw[if_pos hm];have c2:1<=m:=c2;have em:max m 1=m:=by omega
    rw[em];obtain⟨b1,b2⟩:=xX (key:=key) (n - m) p m c4 (by omega);exact⟨b1.trans c1,by rw[show n=m+(n - m) by omega];rw[show m+(n - m) - m=n - m by omega];exact b2⟩
  . show(dJ (dR key) (if m<n then kas_bin (n - max m 1) p (max m 1) else .ret p)).Perm _/\iu key (dJ (dR key) (if m<n then kas_bin (n - max m 1) p (max m 1) else .ret p)) n;rw[if_neg hm];have c3:m<=n:=c3;have:m=n:=by omega
    subst this;exact⟨c1,c4⟩
 refine⟨Array.perm_iff_toList_perm.mp main.1,?_⟩;have hsz:(dJ (dR key) (kas_sort n)).size=n:=by rw[main.1.size_eq,hz]
 rw[Q1g,List.pairwise_iff_getElem];intro i j hi hj aa;have ab:i<(dJ (dR key) (kas_sort n)).size:=by simpa using hi
 have ae:j<(dJ (dR key) (kas_sort n)).size:=by simpa using hj
 have q:=main.2 i j (Q0t aa) (by omega);unfold Kp at q;rw[Q1n,Q1n,Q2v ab,Q2v ae] at q;simpa using q
end
end kx
namespace L2
open Spec PyProof.Rows
def nq (c':Addr) (qual:Str):Heap->Prop:=λh=>h.CodeRec (.ref c') qual
def kz (P:Addr) (pos:Pos) (qual:Str) (c':Addr) (H:Hp):Prop:=H P=some (.eX #[rawInt pos.line,rawInt pos.col,.ref c'])/\H c'=some (.ext (nq c' qual))
def dc (P:Addr) (pos:Pos) (qual:Str) (H:Hp):Prop:=H P=some (.eX #[])\/∃c',kz P pos qual c' H
theorem kz.mono(h:kz P pos qual c' H)(k:∀b o,(b=P\/b=c')->H b=some o->H' b=some o):kz P pos qual c' H':=⟨k _ _ (.inl rfl) h.1,k _ _ (.inr rfl) h.2⟩
def BM (mg:Str->Option Value) (base:Heap):Prop:=
 ∃bm o,mg "__builtins__"=some (.ref bm)/\bm≠builtinsNs/\bm≠mainGlobals/\base.get? bm=some o/\o.cls=.type "module"/\o.dict=some builtinsNs/\o.data=.plain
def Fi (P:Addr) (pos:Pos) (qual:Str) (ps:Array Value) (H:Hp):Prop:=H P=some (.eX ps)/\TriplesOk ps.toList/\(codeAmong pos ps.toList=none\/∃c',codeAmong pos ps.toList=some (.ref c')/\H c'=some (.ext (nq c' qual)))
def Fj (P:Addr) (pos:Pos) (qual:Str) (ps:Array Value) (c':Addr) (H:Hp):Prop:=((codeAmong pos ps.toList=none/\H P=some (.eX (ps++#[rawInt pos.line,rawInt pos.col,.ref c'])))\/(codeAmong pos ps.toList=some (.ref c')/\H P=some (.eX ps)))/\H c'=some (.ext (nq c' qual))
section
variable {X:Cx}{pins:List (Addr × Obj)}{σ:St}{H:Hp}{s:Shared}
theorem Inv.xY (I:Inv X pins σ H s)(e:H P=some o)(hb:X.base.get? b=some u):b≠P:=λz=>by
 have:=(I.bs b u hb).2;rw[z,e] at this;cases this
theorem Inv.xZ (I:Inv X pins σ H s)(B:BM X.mg X.base)(e:H P=some o):s.heap.BuiltinsAt X.mg P:=by
 obtain⟨bm,ob,b1,b2,b3,b4,b5⟩:=B;exact⟨bm,ob,b1,b2,b3,I.xY e b4,(I.bs bm ob b4).1,b5⟩
theorem Inv.adopt(I:Inv X pins σ H s)(f:gu X pins H b)(k:∀c u,c≠b->s.heap.get? c=some u->h'.get? c=some u)(new:fc X.prog X.w (upd H b o) h' b o):
 Inv X pins σ (upd H b o) { s with heap:=h',toks:=t' }:=by
 obtain⟨f0,f1,f2,f3,f4,f5⟩:=f;have nb:∀c u,H c=some u->c≠b:=λc u e=>c6 e f0
 refine I.step (g':=s.gens) (d':=s.drawn) (ch:=[b]) (λc hc=>?_) (λc u _ _ hc e _=>k c u (λz=>hc (by simp[z])) e) (λc u _ _ hc e _=>⟨u.slots,k c u (λz=>hc (by simp[z])) e⟩) (λc u hc e n=>?_)
  (λc u hc e=>⟨u,k c u (λz=>hc (by simp[z])) e⟩) (λc xs e=>?_) (λc ob u e=>?_) (λc ps e=>⟨#[],?_⟩) (λm hm=>?_) (λc u e=>?_) I.bare
 . have e:c=b:=by simpa using hc
   subst e;exact⟨f3,f1,f4,f5⟩
 . rw[cQ (λz=>hc (by simp[z]))];exact n
 . rw[cQ (nb _ _ e)];exact e
 . rw[cQ (nb _ _ e)];exact e
 . rw[cQ (nb _ _ e),e];simp
 . obtain⟨ob,es,ep,ho,r⟩:=hm;exact⟨ob,es,ep,k _ ob (Ne.symm f1) ho,r⟩
 . by_cases hc:c=b
   . subst hc;rw[cV] at e;cases e;exact new
   . rw[cQ hc] at e;refine(I.hok c u e).stay (λd v hd q=>k d v ?_ q) (λd q=>by rw[cQ (nb _ _ q)];exact q) λd xs q=>by rw[cQ (nb _ _ q)];exact q
     rcases hd with z|z
     . rw[z];exact hc
     . exact nb _ _ z
theorem Inv.own(I:Inv X pins σ H s)(f:gu X pins H b)(hs:Heap.SameBut b s.heap h'):Inv X pins σ H { s with heap:=h',toks:=t' }:=
 I.turned (t':=t') (λc u hc e=>(hs.2 c hc).trans e) f.1 f.2.1 f.2.2.2.1 f.2.2.2.2.1 f.2.2.2.2.2
theorem x_(I:Inv X pins σ H s)(ab:X.env.code=.ref c)(C:W.CodeHd X.base c P)
 (B:BM X.mg X.base) (T:Fi P pos qual jM H) (af:closureFor scope X.env=pure cl)
 (h:∀(f c':Addr) (pm aa:Value) (H':Hp) (s':Shared),Inv X (pins++[(f,W.kla_obj name qual params body scope cl pm c' aa)]) σ H' s'->Fj P pos qual jM c' H'->(∀b o,b≠P->H b=some o->H' b=some o)->Q (.ref f) s'):
 wpAny (model X.prog X.w) X.A (makeFunction name qual params (.expr body) scope X.env [] [] [] pos firstLine) Q E s:=by
 have hg:s.heap.Ns mainGlobals X.mg:=I.mod.glob.keeps I.bk;have C':=C.keeps I.bk
 have lay:∀{H':Hp} {s':Shared} {f:Addr} {o:Obj},Inv X pins σ H' s'->s'.heap.get? f=some o->H' f=none->s.heap.objs.size<=f->(∀v,o.data≠ .cell v)->Inv X (pins++[(f,o)]) σ H' s':=λ{H' s' f o} J e n hz d=>
  J.lU λp hp=>(List.mem_append.mp hp).elim (λz=>J.pin p (Q07 _ z)) λz=>by
    have:p=(f,o):=by simpa using z
    subst this;exact⟨e,n,Q0v (Q0e I.lt hz),I.mY hz,d⟩
 obtain⟨e,ag,ah|⟨c',e1,e2⟩⟩:=T
 . have hP:s.heap.get? P=some (W.tabObj jM):=I.hok P _ e;have ai:P<s.heap.objs.size:=Q02 hP
   have ar:mainGlobals≠P:=by
    obtain⟨o,es,ep,eo,_⟩:=I.mod.glob;exact I.xY e eo
   refine W.kla_makeFunction (mg:=X.mg) af I.ok.glob hg ab C' hP ag ah ar (I.xZ B e) λc' aa h' tk hx ae aj aq ak=>?_;have ao:c'≠P:=Q0v (Q0e ai ae);have au:H c'=none:=I.hok.fresh ae
   have nP:∀b u,H b=some u->u≠ .eX jM->b≠P:=λb u q d z=>by
    rw[z,e] at q;exact d (Option.some.inj q).symm
   have nC:∀b u,H b=some u->b≠c':=λb u q=>c6 q au;have kk:∀(ob:Obj) b u,b≠P->s.heap.get? b=some u->(h'.push ob).get? b=some u:=λob b u hb q=>Q06 _ (hx b u hb q)
   have I1:Inv X pins σ (upd (upd H P (.eX (jM++#[rawInt pos.line,rawInt pos.col,.ref c']))) c' (.ext (nq c' qual))) { s with heap:=h'.push (W.kla_obj name qual params body scope cl ((X.mg "__name__").getD .none) c' aa),toks:=tk }:=by
    refine I.step (g':=s.gens) (d':=s.drawn) (ch:=[]) (λ_ z=>nomatch z) (λb o _ _ _ q n=>kk _ b o (λz=>by rw[z,e] at n;cases n) q) (λb o _ _ _ q n=>⟨o.slots,kk _ b o (λz=>by rw[z,e] at n;cases n) q⟩)
     (λb o _ q n=>?_) (λb o _ q=>?_) (λb xs q=>?_) (λb o u q=>?_) (λb ps q=>?_) (λm hm=>?_) (λb o q=>?_) I.bare
    . have b1:b≠P:=λz=>by rw[z,e] at n;cases n
      have b2:b≠c':=Q08 (Q0e (Q02 q) ae);rw[cQ b2,cQ b1];exact n
    . by_cases hb:b=P
      . subst hb;exact⟨_,Q06 _ ak⟩
      . exact⟨o,kk _ b o hb q⟩
    . rw[cQ (nC _ _ q),cQ (nP _ _ q (by intro z;cases z))];exact q
    . rw[cQ (nC _ _ q),cQ (nP _ _ q (by intro z;cases z))];exact q
    . by_cases hb:b=P
      . subst hb;rw[e] at q;cases q;exact⟨_,by rw[cQ (Ne.symm ao),cV]⟩
      . exact⟨#[],by rw[cQ (nC _ _ q),cQ hb,q];simp⟩
    . obtain⟨o,es,ep,ho,r⟩:=hm;exact⟨o,es,ep,kk _ _ o (λz=>by have:=I.free;rw[z,e] at this;cases this) ho,r⟩
    . by_cases hb:b=c'
      . subst hb;rw[cV] at q;cases q;obtain⟨c₂,oc,vs,t,z1,z2,z3,z4⟩:=aq
        cases z1;refine⟨⟨_,oc,vs,t,rfl,Q06 _ z2,z3,z4⟩,⟨oc,Q06 _ z2⟩,λh1 h2 y hy=>?_⟩;obtain⟨ax,av,aw,t',y1,y2,y3,y4⟩:=y
        cases y1;exact⟨_,av,aw,t',rfl,hy _ y2,y3,y4⟩
      . rw[cQ hb] at q;by_cases hp:b=P
        . subst hp;rw[cV] at q;cases q;show(h'.push _).get? b=some { cls:=.none,data:=.fields _ };exact Q06 _ ak
        . rw[cQ hp] at q;refine(I.hok b o q).stay (λd v hd y=>kk _ d v ?_ y) (λd y=>by rw[cQ (nC _ _ y),cQ (nP _ _ y (by intro z;cases z))];exact y) λd xs y=>by rw[cQ (nC _ _ y),cQ (nP _ _ y (by intro z;cases z))];exact y
          rcases hd with z|z
          . rw[z];exact hp
          . exact nP _ _ z (by intro z;cases z)
   have fz:s.heap.objs.size<=h'.objs.size:=Q0t (Q1z ae aj)
   have fn:upd (upd H P (.eX (jM++#[rawInt pos.line,rawInt pos.col,.ref c']))) c' (.ext (nq c' qual)) h'.objs.size=none:=by
    rw[cQ (Q0v aj),cQ (Q0v (Q0e ai fz))];exact I.hok.fresh fz
   refine h h'.objs.size c' ((X.mg "__name__").getD .none) aa _ _ (lay I1 (Q0i _ rfl) fn fz (by intro v z;cases z)) ⟨.inl ⟨ah,by rw[cQ (Ne.symm ao),cV]⟩,cV⟩ λb o hb q=>?_;rw[cQ (nC _ _ q),cQ hb];exact q
 . have hP:s.heap.get? P=some (W.tabObj jM):=I.hok P _ e;refine W.kla_makeFunctionHit (mg:=X.mg) (cv:=.ref c') af I.ok.glob hg ab C' hP ag e1 (I.xZ B e) λaa h' tk hk hsz=>?_;exact h h'.objs.size c' ((X.mg "__name__").getD .none) aa H _ (lay (I.kept λb u q=>Q06 _ (hk b u q)) (Q0i _ rfl) (I.hok.fresh hsz) hsz (by intro v z;cases z)) ⟨.inr ⟨e1,e⟩,e2⟩ λb o _ q=>q
theorem ya(I:Inv X pins σ H s)(ab:X.env.code=.ref c)(C:W.CodeHd X.base c P)
 (B:BM X.mg X.base) (T:dc P pos qual H) (ae:closureFor scope X.env=pure cl)
 (h:∀(f c':Addr) (pm aa:Value) (H':Hp) (s':Shared),Inv X (pins++[(f,W.kla_obj name qual params body scope cl pm c' aa)]) σ H' s'->kz P pos qual c' H'->(∀b o,b≠P->H b=some o->H' b=some o)->Q (.ref f) s'):
 wpAny (model X.prog X.w) X.A (makeFunction name qual params (.expr body) scope X.env [] [] [] pos firstLine) Q E s:=by
 rcases T with e|⟨c₀,e,ec⟩
 . refine x_ (jM:=#[]) I ab C B ⟨e,by simp[TriplesOk],.inl rfl⟩ ae λf c' pm aa H' s' J L m=>h f c' pm aa H' s' J ?_ m;obtain⟨z|z,y⟩:=L
   . exact⟨z.2,y⟩
   . cases z.1
 . refine x_ (jM:=#[rawInt pos.line,rawInt pos.col,.ref c₀]) I ab C B ⟨e,by simp[TriplesOk,rawInt],.inr ⟨c₀,by simp[codeAmong,rawInt],ec⟩⟩ ae λf c' pm aa H' s' J L m=>h f c' pm aa H' s' J ?_ m;have hc:codeAmong pos [rawInt pos.line,rawInt pos.col,.ref c₀]=some (.ref c₀):=by simp[codeAmong,rawInt]
   obtain⟨z|z,y⟩:=L
   . exact absurd (hc.symm.trans z.1) (by intro z;cases z)
   . have:c₀=c':=by
      have:=hc.symm.trans z.1
      cases this;rfl
     subst this;exact⟨z.2,y⟩
structure lg (X:Cx) (x:Str) (N':List Str) (scope:Scope):Prop where
 kind:scope.kind=.function
 co:scope.isCoroutine=false
 gen:scope.isGenerator=false
 cell:∀y∈scope.names,y.2≠ .cell
 loc:scope.names.lookup x=some .local
 free:∀y∈scope.names,y.2=.free->X.env.kindOf y.1=some .cell\/X.env.kindOf y.1=some .free
 len:N'.length=X.N.length
 outer:∀(i:Nat) (y:Str),N'[i]? =some y->scope.names.lookup y=none\/(X.N[i]? =some y/\scope.names.lookup y≠some .local)
noncomputable def mw (scope:Scope):List Str->List Str->Bool
 |[],[]=>true
 |y::r,z::q=>(decide (scope.names.lookup y=none) || (decide (z=y) && decide (scope.names.lookup y≠some .local))) && mw scope r q
 |_,_=>false
theorem yb:∀{N' N:List Str},mw scope N' N=true->N'.length=N.length
 |[],[],_=>rfl
 |y::r,z::q,h=>by
  simp only[mw,Bool.and_eq_true] at h;rw[Q0j,Q0j,yb h.2]
theorem yc:∀{N' N:List Str},mw scope N' N=true->∀(i:Nat) (y:Str),N'[i]? =some y->scope.names.lookup y=none\/(N[i]? =some y/\scope.names.lookup y≠some .local)
 |[],[],_,i,y,e=>by simp at e
 |w::r,z::q,h,0,y,e=>by
  simp only[mw,Bool.and_eq_true,Bool.or_eq_true,decide_eq_true_eq] at h;have e:some w=some y:=e
  cases e;rcases h.1 with h1|⟨h1,h2⟩
  . exact .inl h1
  . subst h1;exact .inr ⟨rfl,h2⟩
 |w::r,z::q,h,i+1,y,e=>by
  simp only[mw,Bool.and_eq_true] at h;have:=yc h.2 i y (by simpa using e);simpa using this
noncomputable def yd (x:Str) (N' N:List Str) (scope sc:Scope):Bool:=
 scope.names.all (λy=>decide (y.2≠ .cell)) && decide (scope.names.lookup x=some .local) && scope.names.all (λy=>decide (y.2=.free->sc.names.lookup y.1=some .cell\/sc.names.lookup y.1=some .free)) && mw scope N' N
theorem lg.of(aa:X.env.scope=sc)(hN:X.N=N)(k:scope.kind=.function)(c1:scope.isCoroutine=false)(c2:scope.isGenerator=false)(c:yd x N' N scope sc=true):lg X x N' scope:=by
 unfold yd at c;simp only[Bool.and_eq_true,Q10,decide_eq_true_eq] at c;obtain⟨⟨⟨a1,a2⟩,a3⟩,a4⟩:=c;exact⟨k,c1,c2,a1,a2,λy hy hf=>by rw[show X.env.kindOf y.1=X.env.scope.names.lookup y.1 from rfl,aa];exact a3 y hy hf,by rw[hN];exact yb a4,by rw[hN];exact yc a4⟩
noncomputable abbrev qQ (qual:Str) (scope:Scope) (cl:List (Str × Addr)) (f c':Addr) (s:Shared):Env:=W.envX qual scope s.heap.objs.size f (.ref c') cl
noncomputable def o9 (X:Cx) (x:Str) (N':List Str) (scope:Scope) (cl:List (Str × Addr)) (qual:Str) (f c':Addr) (s:Shared) (H:Hp):Cx:=
 { X with A:=X.A.in1.in1.deeper (qQ qual scope cl f c' s),N:=x::N',s₀:=s,H₀:=H,env:=qQ qual scope cl f c' s,outer:=X.stack,stack:=qQ qual scope cl f c' s::X.stack,ex:=[],fn:=λ_=>false,pn:=[],calm:=true,xe:=λ_ _=>False }
theorem Inv.lam(I:Inv X pins σ H s)(S:lg X x N' scope)(hd:X.A.handled=none)
 (aa:∀y c,cl.lookup y=some c->X.env.cells.lookup y=some c) (af:∀y,(y,NameKind.free)∈scope.names->cl.lookup y=X.env.cells.lookup y) (r:RelV v u)
 (hn:ab.Ns s.heap.objs.size (λy=>([(x,u)]:List (Str × Value)).reverse.lookup y)) (old:∀b o,s.heap.get? b=some o->ab.get? b=some o):
 Inv (o9 X x N' scope cl qual f c' s H) [] (some v::σ) H { s with heap:=ab,toks:=t' }:=by
 have ok:=I.ok
 have ae:∀y,(scope.names.lookup y=some .cell\/scope.names.lookup y=some .free)->(y,NameKind.free)∈scope.names:=λy hy=>by
  rcases hy with hy|hy
  . exact absurd rfl (S.cell _ (PySem.mem_of_lookup hy))
  . exact PySem.mem_of_lookup hy
 refine⟨⟨ok.mod,S.kind,rfl,rfl,Q0 _,λy z c e1 e2=>ok.inj y z c (aa y c e1) (aa z c e2),λy hy=>?_,λy c hy _=>(nomatch hy),λ_=>hd,Around.frames_deeper (show X.A.in1.in1.frames=some X.stack from ok.frames),.inr ⟨rfl,rfl⟩,λb hb=>absurd (show b∈([]:List Addr) from hb) (by simp),I.bs,Q0b ok.jg I.sz,
  λb o _ hb=>absurd (show b∈([]:List Addr) from hb) (by simp),λb hb=>absurd (show b∈([]:List Addr) from hb) (by simp),I.stack,I.qj⟩,
  rfl,I.bare,Un.kept old,⟨_,hn,λi y v' e1 e2 e3=>?_⟩,λy c e=>?_,I.hok.fresh (Q0 _),λy c e=>I.gO y c (aa y c e),λp hp=>absurd (show p∈([]:List (Addr × Obj)) from hp) (by simp),I.hok.kept old,?_⟩
 . have hm:=ae y hy;obtain⟨c,e⟩:=ok.has y (S.free _ hm rfl);exact⟨c,by rw[show(o9 X x N' scope cl qual f c' s H).env.cells=cl from rfl,af y hm];exact e⟩
 . cases i with
   |zero=>
    have e1:some x=some y:=e1
    cases e1;have e2:some (some v)=some (some v'):=e2
    cases e2;exact⟨u,r,.inl ⟨S.loc,by simp⟩⟩
   |succ i=>
    have e1:N'[i]? =some y:=by
     have e1:(x::N')[i+1]? =some y:=e1;simpa using e1
    have e2:σ[i]? =some (some v'):=by simpa using e2
    have ho:X.N[i]? =some y/\scope.names.lookup y≠some .local:=by
     have e3:scope.names.lookup y=some .local\/scope.names.lookup y=some .cell\/scope.names.lookup y=some .free:=e3;rcases S.outer i y e1 with q|q
     . rw[q] at e3;rcases e3 with z|z|z <;> cases z
     . exact q
    have ah:scope.names.lookup y=some .cell\/scope.names.lookup y=some .free:=by
     rcases e3 with q|q
     . exact absurd q ho.2
     . exact q
    have hm:=ae y ah;have ai:=S.free _ hm rfl;obtain⟨mX,ak,aj⟩:=I.loc;obtain⟨u',r',lk⟩:=aj i y v' ho.1 e2 (.inr ai);refine⟨u',r',.inr ⟨ah,?_⟩⟩;rcases lk with⟨q,_⟩|⟨_,c,ec,hc⟩
    . rcases ai with z|z
      . rw[z] at q;cases q
      . rw[z] at q;cases q
    . obtain⟨o,ho,ag⟩:=hc;exact⟨c,(af y hm).trans ec,o,old _ _ ho,ag⟩
 . obtain⟨w',o,ho,ag⟩:=I.cell y c (aa y c e);exact⟨w',o,old _ _ ho,ag⟩
 . show _=(x::N').length;rw[Q0j,Q0j,I.len,S.len]
theorem ye(I:Inv X pins σ H s)(S:lg X x N' scope)(hd:X.A.handled=none)(ab:X.A.depth<recursionLimit)
 (ae:∀y c,cl.lookup y=some c->X.env.cells.lookup y=some c) (af:∀y,(y,NameKind.free)∈scope.names->cl.lookup y=X.env.cells.lookup y) (hf:(f,W.kla_obj name qual params body scope cl pm c' aa)∈pins) (hc:H c'=some (.ext (nq c' qual)))
 (hb:∀u:Value,bindArgs (W.kla_fn name qual params body scope cl pm (.ref c') aa) ⟨[u],[]⟩=pure [(x,u)]) (r:RelV v u) (he:∀(s:Shared) (H:Hp),PE (o9 X x N' scope cl qual f c' s H) body te) (h:te (some v::σ) H Q):
 wpAny (model X.prog X.w) X.A.in1.in1 (call (.ref f) [u]) (EP X pins σ Q) E s:=by
 obtain⟨p1,p2,p3,p4,p5⟩:=I.pin _ (Q07 _ hf);refine wpAny_call (W.kla_callFunE ab p1 rfl S.co S.gen rfl (I.hok c' _ hc).1 ?_);rw[hb];refine Q0a (wpAny_newFunctionEnv S.cell (λy hy=>?_) (λag ah ai=>?_) S.kind)
 . have e:y=(x,u):=by simpa using hy
   subst e;exact S.loc
 have old:∀b o,s.heap.get? b=some o->ag.get? b=some o:=λb o e=>ai.extBut b o (Q08 (Q02 e)) (Q06 _ e);refine⟨I.nolimit.keeps old,?_⟩;show codeAny _ _ (.expr body (qQ qual scope cl f c' s)) _ _;have J:=I.lam (t':=s.toks+([(x,u)]:List (Str × Value)).length) (qual:=qual) (f:=f) (c':=c') S hd ae af r ah old;refine W.kla_codeExpr (Q0r (he s H [] _ _ H Q J h) (λu' s' hq=>?_) λe s' hF=>hF.elim);obtain⟨v',H',J',rv,q⟩:=hq;exact I.after ⟨v',H',J'.os,J'.bare,J'.base,J'.hok,rv,q⟩
end
section
variable {X:Cx}{pins:List (Addr × Obj)}{σ:St}{H:Hp}{s:Shared}
def Asks (prog:Program) (w:World) (A:Around) (s:Shared) (us:List Value) {O:KeyOrd}(key:Nat->O.α):Prop:=
 2<=us.length->wpAny (model prog w) A (keyKind' us.toArray) (λκ s'=>s'=s/\∀(i j:Nat) (C:Bool->Shared->Prop),i<us.length->j<us.length->C (O.blt (key i) (key j)) s->W.kas_ask prog w A κ us i j C s) (λ_ _=>False) s
theorem yf(r:Vals xs vs):∀p:List Nat,Vals (p.map λi=>xs.getD i .non) (p.map λi=>vs.getD i Value.none)
 |[]=>.nil
 |i::p=>by
  refine .cons ?_ (yf r p);show RelV (xs.getD i .non) (vs.getD i Value.none);rw[Q0f,Q0f]
  cases e:xs[i]? with
  |none=>
   rw[r.none_of e];exact rfl
  |some x=>
   obtain⟨u,hu,ru⟩:=r.get e;rw[hu];exact ru
theorem yg {α:Type}(a0:α)(l:List α):((List.range l.length).map λi=>l.getD i a0)=l:=by
 apply Q2d
 . simp
 . intro i h1 h2;simp[h2]
theorem Fk {us vs:List Value}(hl:us.length=vs.length):((List.toArray us).zip (List.toArray vs)).map (·.2)=List.toArray vs:=by
 apply Array.toList_inj.mp;rw[Array.toList_map,ksk_zip];show List.map Prod.snd (us.zip vs)=vs;exact List.map_snd_zip (by omega)
theorem Fl {α:Type}{R:α->α->Prop}(key:Nat->α)(h:n<2):((List.range n).map key).Pairwise R:=by
 have:n=0\/n=1:=by omega
 rcases this with rfl|rfl
 . exact List.Pairwise.nil
 . exact Q2 _ _
noncomputable abbrev lo (xs:List Value) (n:Nat):Obj:=seqObj "list" (List.toArray xs) n
theorem yh {E:Value->Shared->Prop}{kS D:Addr}{us:List Value}{e e1:Nat}{st:SortSt}{out:List Value}{outV:List V}{P:PySem.Fin->Shared->Prop}(I:Inv X (pins++[(kS,lo us e),(D,lo [] e1)]) σ H s)(fK:gu X pins H kS)(fD:gu X pins H D)(ae:kS≠D)(ag:us.length<64)(ho:out.length<64)
 (ab:(arrOf st).map (·.2)=List.toArray out) (hf:failedOf st=none) (rv:Vals outV out)
 (h:∀s',Inv X pins σ (upd H D (.lst outV)) s'->P (.done (.ret .none)) s'):wpAny (model X.prog X.w) A (ksk_tail D false e1 (.ref kS) st) P E s:=by
 have nk:=(I.pin (kS,lo us e) (Q07 _ (Q07 _ (Q04)))).1;have nD:=(I.pin (D,lo [] e1) (Q07 _ (Q07 _ (Q09 _ Q04)))).1;have s1:=Heap.SameBut.update s.heap kS (Obj.mapSeq λ_=>(#[]:Array Value));have aa:(s.heap.update kS (Obj.mapSeq λ_=>(#[]:Array Value))).get? D=some (lo [] e1):=(s1.2 D ae.symm).trans nD;have s2:=Heap.SameBut.update (s.heap.update kS (Obj.mapSeq λ_=>(#[]:Array Value))) D (Obj.mapSeq λ_=>List.toArray out);obtain⟨c2,af⟩:∃c2,((s.heap.update kS (Obj.mapSeq λ_=>(#[]:Array Value))).update D (Obj.mapSeq λ_=>List.toArray out)).get? D=some (lo out c2):=⟨_,get?_update_seq aa λ_=>List.toArray out⟩;have I1:Inv X pins σ H { s with heap:=s.heap.update kS (Obj.mapSeq λ_=>(#[]:Array Value)) }:=I.j_.own (t':=s.toks) fK s1
 have I2:Inv X pins σ (upd H D (.lst outV)) { s with heap:=(s.heap.update kS (Obj.mapSeq λ_=>(#[]:Array Value))).update D (Obj.mapSeq λ_=>List.toArray out) }:=
  I1.adopt (t':=s.toks) fD (λc u hc q=>(s2.2 c hc).trans q) ⟨by rw[rv.length];exact Q0t (eE (by omega)),out,c2,rv,af⟩
 unfold ksk_tail
 try dsimp only
 rw[ab];refine Q00 (listUpdate_at nk rfl ?_ (by rw[Q05,sizeLine_eq];omega) (Q0c _));refine Q00 (wpAny_letGo ?_);refine Q00 (seqEpoch_at aa rfl ?_);refine Q00 (listUpdate_at aa rfl ?_ (Q0c _) (by show(List.toArray out).size<=_;rw[Q05,sizeLine_eq];omega));rw[hf];simp only[bne_self_eq_false,Bool.false_eq_true,if_false];exact Q0a (h _ I2)
theorem Fm {E:Value->Shared->Prop}{us vs:List Value}{xs:List V}{P:PySem.Fin->Shared->Prop}{O:KeyOrd}{key:Nat->O.α}(I:Inv X (pins++[(kS,lo us e),(D,lo [] e1)]) σ H s)(fK:gu X pins H kS)(fD:gu X pins H D)(ag:kS≠D)
 (hl:us.length=vs.length) (ae:vs.length<64) (rv:Vals xs vs) (ask:Asks X.prog X.w A s us key)
 (h:∀(p:List Nat),p.Perm (List.range vs.length)->(p.map key).Pairwise O.kle->∀s',Inv X pins σ (upd H D (.lst (p.map λi=>xs.getD i .non))) s'->P (.done (.ret .none)) s'):
 wpAny (model X.prog X.w) A (ksk_end D false (List.toArray vs) e1 (.ref kS) (List.toArray us)) P E s:=by
 unfold ksk_end
 try dsimp only
 simp only[Bool.false_eq_true,if_false];by_cases h2:vs.toArray.size<2
 . rw[if_pos h2,if_pos h2];have af:vs.length<2:=by simpa using h2
   refine Q00 (Q0a ?_);rw[StateT.run_pure];refine Q00 (Q0a ?_)
   try dsimp only
   have hlen:xs.length=vs.length:=rv.length
   have ez:((List.range vs.length).map λi=>xs.getD i .non)=xs:=by
    rw[<-hlen];exact yg _ xs
   refine yh (out:=vs) (outV:=xs) (st:=SortSt.mk' general' ((List.toArray us).zip (List.toArray vs)) #[] 7 none) I fK fD ag (by omega) ae (Fk hl) rfl rv λs' J=>?_;have q:=h (List.range vs.length) (List.Perm.refl _) (Fl key af) s';rw[ez] at q;exact q J
 . rw[if_neg h2,if_neg h2];have af:2<=vs.length:=by simpa using h2
   refine Q00 (Q0r (ask (by omega)) (λκ s' hk=>?_) λ_ _ hF=>hF.elim);obtain⟨rfl,hk⟩:=hk;obtain⟨k1,k2⟩:=kx.Fh (key:=key) (n:=vs.length) (by omega)
   refine Q00 (Q0r (W.kat_run (κ:=κ) (ks:=us) (vs:=vs) (Q:=λab aa=>aa=s'/\arrOf ab=(kx.dJ (kx.dR key) (W.kas_sort vs.length)).map (W.kas_item ((List.toArray us).zip vs.toArray))/\failedOf ab=none)
    (G:=λp aa=>aa=s'/\p=kx.dJ (kx.dR key) (W.kas_sort vs.length)) hl af ae (λp ab aa _ a2 a3 a4=>⟨a4.1,by rw[a2,a4.2],a3⟩)
    (kx.xR (f:=kx.dR key) (λi j C hi hj q=>hk i j C (by omega) (by omega) q) (kx.Fe (by omega)) ⟨rfl,rfl⟩)) ?_ λ_ _ x=>x)
   rintro⟨⟨⟩,ab⟩ aa ⟨rfl,ah,ai⟩
   try dsimp only
   refine yh I fK fD ag (by omega) (by rw[Q01,k1.length_eq,Q1p];exact ae) (W.kat_snds hl ah) ai (yf rv _) λs' J=>h _ k1 k2 s' J
theorem Fn(hl:IsTup s.heap l vs.toArray)
 (h:Q vs { s with heap:=(s.heap.push (seqObj "list" #[] 0)).update s.heap.objs.size (Obj.mapSeq (· ++vs.toArray)) }) (hsz:vs.length<=sizeLine):
 wpAny (model prog w) A (collect (.ref l)) Q E s:=by
 obtain⟨o,ho,hc,n,hd⟩:=id hl;unfold collect;refine Q00 (wpAny_runValue (codeAny_builtin entry_proto_collect' ?_));refine Q00 (wpAny_newList (Q0a ⟨Code.quiet_builtin _ (by decide +kernel),codeAny_builtin entry_list_iadd' ?_⟩));change wpAny _ _ (Builtin.List.listExtendWith (.ref s.heap.objs.size) (.ref l) (.ref s.heap.objs.size)) _ _ { s with heap:=s.heap.push (seqObj "list" #[] 0) };unfold Builtin.List.listExtendWith;have aa:(s.heap.push (seqObj "list" #[] 0)).get? l=some o:=Q06 _ ho;refine Q00 (wpAny_typeOf (T:="tuple") ⟨o,aa,hc⟩ ?_);have ht:(Value.type "tuple" == Value.type "tuple")=true:=by rfl
 rw[if_pos (by rw[ht];simp)];refine Q00 (listItems_at aa hd ?_);refine Q00 (listItems_at (xs:=#[]) (n:=0) (Q0i _ rfl) rfl ?_);rw[if_neg (by simp)];refine Q00 (listUpdate_at (xs:=#[]) (n:=0) (Q0i _ rfl) rfl ?_ (Q0c _) (by show(#[]++vs.toArray).size<=sizeLine+1;simp only[Q2w,Q05,Q2r];omega));refine Q0a ?_;refine Q00 (wpAny_load (get?_update_seq (Q0i _ rfl) _) ?_);change wpAny _ _ (pure ((#[]:Array Value)++vs.toArray).toList) Q E _;rw[show((#[]:Array Value)++vs.toArray).toList=vs by simp];exact Q0a h
theorem Fo {E:Value->Shared->Prop}{W:List V->Hp->Prop}(I:Inv X pins σ H s)(hq:cM X.K H a xs\/cJ X.K H a xs)(aA:xs.length<64)(w0:W [] H)
 (turn:∀(pl:List (Addr × Obj)) (s':Shared) (H':Hp) (ks:List V) (y:V) (u:Value),Inv X (pins++pl) σ H' s'->W ks H'->xs[ks.length]? =some y->RelV y u->
   wpAny (model X.prog X.w) X.A.in1.in1 (call (.ref f) [u]) (EP X (pins++pl) σ λk af=>W (ks++[k]) af) (λ_ _=>False) s')
 (fin:∀(pl:List (Addr × Obj)) (s':Shared) (H':Hp) (ks:List V) (us:List Value),Inv X (pins++pl) σ H' s'->W ks H'->ks.length=xs.length->Vals ks us->∃(O:KeyOrd) (key:Nat->O.α),Asks X.prog X.w X.A.in1.in1 s' us key/\
   ∀p:List Nat,p.Perm (List.range xs.length)->(p.map key).Pairwise O.kle->∀D,H' D=none->Q (.ref D) (upd H' D (.lst (p.map λi=>xs.getD i .non)))):
 wpAny (model X.prog X.w) X.A (call (.builtin "sorted") [.ref a] [(Str.ofString "key",.ref f)]) (EP X pins σ Q) E s:=by
 obtain⟨vs,rv,av⟩:∃vs,Vals xs vs/\∀{A:Around} {E:Value->Shared->Prop} {Q:List Value->Shared->Prop},Q vs { s with heap:=(s.heap.push (seqObj "list" #[] 0)).update s.heap.objs.size (Obj.mapSeq (· ++vs.toArray)) }->vs.length<=sizeLine->wpAny (model X.prog X.w) A (collect (.ref a)) Q E s:=by
  rcases hq with hq|hq
  . obtain⟨vs,rv,pl,hz⟩:=I.list hq;exact⟨vs,rv,λh1 h2=>collect_list pl.isList h1 h2⟩
  . obtain⟨vs,rv,pl,hz⟩:=I.tuple hq;exact⟨vs,rv,λh1 h2=>Fn pl h1 h2⟩
 have hl:xs.length=vs.length:=rv.length;refine call_function_entry_kw kind_sorted plain_sorted entry_sorted (ksk_s1 _ _) ?_;unfold Builtin.«sorted»;refine Q00 (m:=checkCount "sorted" 1 1 _) (Q0a ?_);refine Q00 (av ?_ (by rw[sizeLine_eq];omega));refine Q00 (wpAny_newList ?_ (by rw[sizeLine_eq];omega))
 have hsz:((s.heap.push (seqObj "list" #[] 0)).update s.heap.objs.size (Obj.mapSeq (· ++vs.toArray))).objs.size=s.heap.objs.size+1:=by
  rw[Q2e,size_push']
 have ab:(((s.heap.push (seqObj "list" #[] 0)).update s.heap.objs.size (Obj.mapSeq (· ++vs.toArray))).push (seqObj "list" vs.toArray 0)).get? (s.heap.objs.size+1)=some (seqObj "list" vs.toArray 0):=by
  rw[<-hsz];exact Q0i _ rfl
 have keep:∀b o,s.heap.get? b=some o->(((s.heap.push (seqObj "list" #[] 0)).update s.heap.objs.size (Obj.mapSeq (· ++vs.toArray))).push (seqObj "list" vs.toArray 0)).get? b=some o:=λb o q=>by
  have ah:b<s.heap.objs.size:=Q02 q;rw[Q2x _ _ _ (by rw[hsz];exact Q08 (Q2f ah)),Heap.get?_update_ne _ _ _ _ (Q08 ah),Q2x _ _ _ (Q08 ah)];exact q
 show wpAny _ _ _ _ _ { s with heap:=((s.heap.push (seqObj "list" #[] 0)).update s.heap.objs.size (Obj.mapSeq (· ++vs.toArray))).push (seqObj "list" vs.toArray 0) };rw[hsz];generalize hG:((s.heap.push (seqObj "list" #[] 0)).update s.heap.objs.size (Obj.mapSeq (· ++vs.toArray))).push (seqObj "list" vs.toArray 0)=G at ab keep ⊢;have aw:G.objs.size=s.heap.objs.size+2:=by rw[<-hG,size_push',hsz]
 have I1:Inv X pins σ H { s with heap:=G }:=I.kept (t':=s.toks) keep;refine Q00 (wpAny_holding (wpAny_call_entry_kw slot_list_sort ⟨_,ab,rfl⟩ entry_list_sort ?body (ksk_l1 _ _)))
 case body=>
  show wpAny (model X.prog X.w) X.A.in1.in1 (Builtin.«list.sort» ⟨[.ref (s.heap.objs.size+1)],[(Str.ofString "key",.ref f)]⟩) _ _ _;rw[ksk_t1];unfold ksk_tree;generalize hD:s.heap.objs.size+1=D at ab ⊢;have aj:s.heap.objs.size<=D:=by omega
  have s1:=Heap.SameBut.update G D (Obj.mapSeq λ_=>(#[]:Array Value));obtain⟨e1,ak⟩:∃e1,(G.update D (Obj.mapSeq λ_=>(#[]:Array Value))).get? D=some (lo [] e1):=⟨_,get?_update_seq ab λ_=>#[]⟩;refine Q00 (listItems_at ab rfl ?_);refine Q00 (listUpdate_at ab rfl ?_ (by rw[Q05,sizeLine_eq];omega) (Q0c _));refine Q00 (seqEpoch_at ak rfl ?_);refine Q00 (wpAny_newTuple ?_ (by show vs.length<=_;rw[sizeLine_eq];omega));refine Q00 (wpAny_newList ?_ (Q0c _));refine wpAny_holding ?_;show wpAny (model X.prog X.w) X.A.in1.in1 _ _ _ { s with heap:=((G.update D (Obj.mapSeq λ_=>(#[]:Array Value))).push (seqObj "tuple" vs.toArray 0)).push (seqObj "list" #[] 0) };generalize ao:((G.update D (Obj.mapSeq λ_=>(#[]:Array Value))).push (seqObj "tuple" vs.toArray 0)).objs.size=kS;have az:kS=s.heap.objs.size+3:=by rw[<-ao,size_push',Q2e,aw]
  have aq:kS≠D:=by omega
  have aa:gu X pins H D:=I.j8 aj (I.hok.fresh aj);have ag:gu X pins H kS:=I.j8 (by omega) (I.hok.fresh (by omega))
  have ai:∀b o,b≠D->G.get? b=some o->(((G.update D (Obj.mapSeq λ_=>(#[]:Array Value))).push (seqObj "tuple" vs.toArray 0)).push (seqObj "list" #[] 0)).get? b=some o:=λb o hb q=>
   Q06 _ (Q06 _ ((s1.2 b hb).trans q))
  have I2:Inv X pins σ H { s with heap:=((G.update D (Obj.mapSeq λ_=>(#[]:Array Value))).push (seqObj "tuple" vs.toArray 0)).push (seqObj "list" #[] 0) }:=
   Inv.turned (s:={ s with heap:=G }) (t':=s.toks) (it:=D) I1 ai aa.1 aa.2.1 aa.2.2.2.1 aa.2.2.2.2.1 aa.2.2.2.2.2
  have hK:(((G.update D (Obj.mapSeq λ_=>(#[]:Array Value))).push (seqObj "tuple" vs.toArray 0)).push (seqObj "list" #[] 0)).get? kS=some (lo [] 0):=by rw[<-ao];exact Q0i _ rfl
  have ar:(((G.update D (Obj.mapSeq λ_=>(#[]:Array Value))).push (seqObj "tuple" vs.toArray 0)).push (seqObj "list" #[] 0)).get? D=some (lo [] e1):=Q06 _ (Q06 _ ak);generalize ((G.update D (Obj.mapSeq λ_=>(#[]:Array Value))).push (seqObj "tuple" vs.toArray 0)).push (seqObj "list" #[] 0)=G2 at I2 hK ar ⊢
  have pinned:∀{H':Hp} {s':Shared} {us:List Value} {e:Nat},Inv X pins σ H' s'->s'.heap.get? kS=some (lo us e)->s'.heap.get? D=some (lo [] e1)->H' kS=none->H' D=none->Inv X (pins++[(kS,lo us e),(D,lo [] e1)]) σ H' s':=λ{H' s' us e} J k1 k2 n1 n2=>
   J.lU λp hp=>(List.mem_append.mp hp).elim (λz=>J.pin p (Q07 _ z)) λz=>by
     have z:p=(kS,lo us e)\/p=(D,lo [] e1):=by simpa using z
     rcases z with rfl|rfl
     . exact⟨k1,n1,ag.2.1,ag.2.2.1,by intro v z;cases z⟩
     . exact⟨k2,n2,aa.2.1,aa.2.2.1,by intro v z;cases z⟩
  have own:∀{H':Hp} {b:Addr},(b=kS\/b=D)->H' b=none->gu X pins H' b:=λ{H' b} hb n=>by
   rcases hb with rfl|rfl
   . exact⟨n,ag.2⟩
   . exact⟨n,aa.2⟩
  unfold ksk_rest;refine Q00 (wpAny_rule ?_)
  first
   |rw[List.forIn_toArray]
   |(rw[<-Q2y];simp only[List.toList_toArray])
   |rw[<-Q2y]
  refine Q00 (ksk_fold (λi s'=>∃ks us e H',Inv X (pins++[(kS,lo us e),(D,lo [] e1)]) σ H' s'/\Vals ks us/\ks.length=i/\i<=vs.length/\W ks H') vs 0 _
   ⟨[],[],0,H,pinned I2 hK ar ag.1 aa.1,.nil,rfl,Q0c _,w0⟩ (λj x s' hx hJ=>?_) λs' hJ=>?_)
  . obtain⟨ks,us,e,H',J,rk,hi,hle,wk⟩:=hJ;have hi:ks.length=j:=by omega
    have hj:j<vs.length:=(List.getElem?_eq_some_iff.mp hx).1;have au:j<xs.length:=by omega
    obtain⟨u,hu,ru⟩:=rv.get (Q03 au);rw[hx] at hu;cases hu;refine Q00 (wpAny_attempt (Q0r (turn _ s' H' ks (xs[j]) x J wk (by rw[hi];exact Q03 au) ru) (λk ae hk=>?_) λ_ _ hF=>hF.elim));obtain⟨kv,af,J',ax,w'⟩:=hk;have pk:=J'.pin (kS,lo us e) (Q07 _ (Q07 _ (Q04)));have pD:=J'.pin (D,lo [] e1) (Q07 _ (Q07 _ (Q09 _ Q04)));have aB:us.length=ks.length:=rk.length.symm;have s2:=Heap.SameBut.update ae.heap kS (Obj.mapSeq (·.push k));have ea:(List.toArray us).push k=List.toArray (us++[k]):=by simp
    obtain⟨c2,ay⟩:∃c2,(ae.heap.update kS (Obj.mapSeq (·.push k))).get? kS=some (lo (us++[k]) c2):=⟨_,by show _=some (seqObj "list" (List.toArray (us++[k])) _);rw[<-ea];exact get?_update_seq pk.1 (·.push k)⟩
    try dsimp only
    refine Q00 (listUpdate_at pk.1 rfl ?_ (by rw[Q05,sizeLine_eq];omega) (Q0b (Q1v (Array.size_push ..)) (by rw[Q05,sizeLine_eq];omega)));have J2:Inv X pins σ af { ae with heap:=ae.heap.update kS (Obj.mapSeq (·.push k)) }:=J'.j_.own (t':=ae.toks) (own (.inl rfl) pk.2.1) s2;refine Q0a ⟨rfl,ks++[kv],us++[k],c2,af,pinned J2 ay ((s2.2 D aq.symm).trans pD.1) pk.2.1 pD.2.1,rk.append (.cons ax .nil),by rw[Q0d,Q1l];omega,by omega,w'⟩
  . obtain⟨ks,us,e,H',J,rk,hi,hle,wk⟩:=hJ;have hi:ks.length=vs.length:=by omega
    have pk:=J.pin (kS,lo us e) (Q07 _ (Q07 _ (Q04)));have pD:=J.pin (D,lo [] e1) (Q07 _ (Q07 _ (Q09 _ Q04)))
    try dsimp only
    refine Q00 (listItems_at pk.1 rfl ?_);obtain⟨O,key,ask,q⟩:=fin _ s' H' ks us J wk (by omega) rk;refine Fm J (own (.inl rfl) pk.2.1) (own (.inr rfl) pD.2.1) aq (by rw[<-rk.length];exact hi) (by omega) rv ask λp p1 p2 ae J'=>?_;exact⟨_,rfl,Q0a ⟨_,rfl,.ref D,_,J',rfl,q p (by rw[hl];exact p1) p2 D pD.2.1⟩⟩
theorem yi {E:Value->Shared->Prop}{W:List V->Hp->Prop}(I:Inv X pins σ H s)(hq:cM X.K H a xs)(aa:xs.length<64)(w0:W [] H)
 (turn:∀(pl:List (Addr × Obj)) (s':Shared) (H':Hp) (ks:List V) (y:V) (u:Value),Inv X (pins++pl) σ H' s'->W ks H'->xs[ks.length]? =some y->RelV y u->
   wpAny (model X.prog X.w) X.A.in1.in1 (call (.ref f) [u]) (EP X (pins++pl) σ λk ab=>W (ks++[k]) ab) (λ_ _=>False) s')
 (fin:∀(pl:List (Addr × Obj)) (s':Shared) (H':Hp) (ks:List V) (us:List Value),Inv X (pins++pl) σ H' s'->W ks H'->ks.length=xs.length->Vals ks us->∃(O:KeyOrd) (key:Nat->O.α),Asks X.prog X.w X.A.in1.in1 s' us key/\
   ∀p:List Nat,p.Perm (List.range xs.length)->(p.map key).Pairwise O.kle->∀D,H' D=none->Q (.ref D) (upd H' D (.lst (p.map λi=>xs.getD i .non)))):
 wpAny (model X.prog X.w) X.A (call (.builtin "sorted") [.ref a] [(Str.ofString "key",.ref f)]) (EP X pins σ Q) E s:=Fo I (.inl hq) aa w0 turn fin
end
noncomputable def gJ:Key->Key->Bool
 | .inl i,.inl j=>decide (i<j)
 | .inl _,.inr _=>true
 | .inr _,.inl _=>false
 | .inr x,.inr y=>decide (x.cps.toList<y.cps.toList)
theorem Fp (a:Key):gJ a a=false:=by
 cases a with
 |inl i=>simp[gJ]
 |inr x=>simpa[gJ] using Q2z x.cps.toList
theorem Fq(h1:gJ a b=true)(h2:gJ b c=true):gJ a c=true:=by
 cases a <;> cases b <;> cases c <;> simp only[gJ,decide_eq_true_eq,Bool.false_eq_true] at * <;> first|omega|exact List.lt_trans h1 h2
theorem Ft {x y:Str}(h:x.cps.toList=y.cps.toList):x=y:=by
 cases x;cases y;simp only[Str.mk.injEq];exact Array.toList_inj.mp h
theorem Fu (a b:Key):gJ a b=true\/a=b\/gJ b a=true:=by
 cases a with
 |inl i=>
  cases b with
  |inl j=>
   simp only[gJ,decide_eq_true_eq];rcases Int.lt_trichotomy i j with h|h|h
   . exact .inl h
   . exact .inr (.inl (by rw[h]))
   . exact .inr (.inr h)
  |inr y=>exact .inl rfl
 |inr x=>
  cases b with
  |inl j=>exact .inr (.inr rfl)
  |inr y=>
   simp only[gJ,decide_eq_true_eq];by_cases h1:x.cps.toList<y.cps.toList
   . exact .inl h1
   . by_cases h2:y.cps.toList<x.cps.toList
     . exact .inr (.inr h2)
     . exact .inr (.inl (by rw[Ft (List.le_antisymm (List.not_lt.mp h2) (List.not_lt.mp h1))]))
theorem Fv(h:gJ a b=true):a≠b:=λe=>by
 rw[e,Fp] at h;cases h
noncomputable def eA:List Key->List Key->Bool
 |[],[]=>false
 |[],_::_=>true
 |_::_,[]=>false
 |x::xs,y::ys=>if x=y then eA xs ys else gJ x y
theorem qR:∀a:List Key,eA a a=false
 |[]=>rfl
 |x::xs=>by
  show(if x=x then eA xs xs else gJ x x)=false;rw[if_pos rfl];exact qR xs
theorem nt (x y:Key)(xs ys:List Key):eA (x::xs) (y::ys)=if x=y then eA xs ys else gJ x y:=rfl
theorem nu:∀(a b c:List Key),eA a b=true->eA b c=true->eA a c=true
 |[],[],_,h,_=>by cases h
 |[],_::_,[],_,h=>by cases h
 |[],_::_,_::_,_,_=>rfl
 |_::_,[],_,h,_=>by cases h
 |_::_,_::_,[],_,h=>by cases h
 |x::xs,y::ys,z::zs,h1,h2=>by
  rw[nt] at *;by_cases e1:x=y
  . subst e1;rw[if_pos rfl] at h1;by_cases e2:x=z
    . rw[if_pos e2] at h2 ⊢;exact nu xs ys zs h1 h2
    . rw[if_neg e2] at h2 ⊢;exact h2
  . rw[if_neg e1] at h1;by_cases e2:y=z
    . subst e2;rw[if_neg e1];exact h1
    . rw[if_neg e2] at h2;have q:=Fq h1 h2;rw[if_neg (Fv q)];exact q
theorem o_:∀a b:List Key,eA a b=true\/a=b\/eA b a=true
 |[],[]=>.inr (.inl rfl)
 |[],_::_=>.inl rfl
 |_::_,[]=>.inr (.inr rfl)
 |x::xs,y::ys=>by
  rw[nt,nt];by_cases e:x=y
  . subst e;rw[if_pos rfl,if_pos rfl];rcases o_ xs ys with h|h|h
    . exact .inl h
    . exact .inr (.inl (by rw[h]))
    . exact .inr (.inr h)
  . rw[if_neg e,if_neg (λz=>e z.symm)];rcases Fu x y with h|h|h
    . exact .inl h
    . exact absurd h e
    . exact .inr (.inr h)
@[reducible] noncomputable def nv:KeyOrd where
  α:=List Key
  blt:=eA
  irrefl:=qR
  trans:=nu
  negTrans a b c h:=by
   rcases o_ a b with q|q|q
   . exact .inl q
   . exact .inr (by rw[<-q];exact h)
   . exact .inr (nu b a c q h)
  total a b h1 h2:=by
   rcases o_ a b with q|q|q
   . rw[h1] at q;cases q
   . exact q
   . rw[h2] at q;cases q
def iS (a b:List Key):Prop:=eA b a=false
noncomputable def eJ:Key->Bool
 | .inl _=>true
 | .inr _=>false
def yj (aa:List (List Key)):Prop:=∃ts:List Bool,ts≠[]/\∀kl∈aa,kl.map eJ=ts
def ny (H:Hp):List V->List (List Key)->Prop:=Paired λk kl=>∃p,k=.ref p/\H p=some (.tup (kl.map kV))
section
variable {X:Cx}{pins:List (Addr × Obj)}{σ:St}{H:Hp}{s:Shared}
theorem mx(r:RelV (kV k) u):(∃i t,k=.inl i/\u=.int i t)\/∃x t,k=.inr x/\u=.str x t:=by
 cases k with
 |inl i=>
  obtain⟨t,rfl⟩:=r;exact .inl ⟨i,t,rfl,rfl⟩
 |inr x=>
  obtain⟨t,rfl⟩:=r;exact .inr ⟨x,t,rfl,rfl⟩
theorem tN:∀(k1 k2:List Key) (i1 i2:List Value) (i:Nat),Vals (k1.map kV) i1->Vals (k2.map kV) i2->k1.map eJ=k2.map eJ->C (eA k1 k2) s->
 W.KatLex prog w A true false C (i1.zip i2) i s
 |[],[],i1,i2,i,r1,r2,_,q=>by
  cases r1;cases r2;exact W.kat_nil q
 |[],_::_,_,_,_,_,_,h,_=>by cases h
 |_::_,[],_,_,_,_,_,h,_=>by cases h
 |x::xs,y::ys,i1,i2,i,r1,r2,h,q=>by
  cases r1 with
  |cons a1 b1=>
  cases r2 with
  |cons a2 b2=>
  have h1:eJ x=eJ y:=(List.cons.inj h).1;have h2:xs.map eJ=ys.map eJ:=(List.cons.inj h).2;rw[nt] at q;rcases mx a1 with⟨m,t,rfl,rfl⟩|⟨m,t,rfl,rfl⟩ <;> rcases mx a2 with⟨n,t',rfl,rfl⟩|⟨n,t',rfl,rfl⟩
  . refine W.kat_cons (wpAny_eqBool_int ?_);by_cases e:m=n
    . subst e;rw[if_pos rfl] at q;rw[beq_self_eq_true];exact W.kat_yes (tN xs ys _ _ (i+1) b1 b2 h2 q)
    . rw[if_neg (λz=>e (Sum.inl.inj z))] at q;rw[beq_false_of_ne e];refine W.kat_no ?_
      cases hi:(i == 0) with
      |true=>exact oneLt_int q
      |false=>exact W.kat_one _ _ (lt_int q)
  . cases h1
  . cases h1
  . refine W.kat_cons (wpAny_eqBool_str ?_);by_cases e:m=n
    . subst e;rw[if_pos rfl] at q;rw[decide_eq_true rfl];exact W.kat_yes (tN xs ys _ _ (i+1) b1 b2 h2 q)
    . rw[if_neg (λz=>e (Sum.inr.inj z))] at q;rw[decide_eq_false e];refine W.kat_no ?_
      cases hi:(i == 0) with
      |true=>exact oneLt_str q
      |false=>exact W.kat_one _ _ (lt_str q)
theorem yk(I:Inv X pins σ H s)(r:Vals ks us)(hk:ny H ks aa)(hi:i<us.length):
 ∃p ab,us.getD i Value.none=.ref p/\IsTup s.heap p (List.toArray ab)/\Vals ((aa.getD i []).map kV) ab/\aa.getD i []∈aa:=by
 have hl:=r.length;have ae:ks.length=aa.length:=Paired.length hk;have e1:ks[i]? =some (ks[i]'(by omega)):=Q03 (by omega);obtain⟨u,hu,ru⟩:=r.get e1;have e2:aa.getD i []=aa[i]'(by omega):=by rw[Q0f,Q03 (by omega)];rfl
 have key:∀(ks:List V) (aa:List (List Key)),ny H ks aa->∀i (h1:i<ks.length) (h2:i<aa.length),∃p,ks[i]=.ref p/\H p=some (.tup (aa[i].map kV)):=by
  intro ks aa hk
  induction hk with
  |nil=>intro i h1;simp at h1
  |cons a b ih=>
   intro i h1 h2
   cases i with
   |zero=>exact a
   |succ i=>simpa using ih i (by simpa using h1) (by simpa using h2)
 obtain⟨p,hp,hH⟩:=key ks aa hk i (by omega) (by omega);rw[hp] at ru
 cases ru;obtain⟨ab,rv,tp,_⟩:=I.tuple (cJ.of hH);refine⟨p,ab,by rw[Q0f,hu];rfl,tp,by rw[e2];exact rv,by rw[e2];exact Q17 _⟩
theorem ym (I:Inv X pins σ H s):∀{ks:List V}{us:List Value}{aa:List (List Key)},Vals ks us->ny H ks aa->(∀kl∈aa,∃k r,kl=k::r/\eJ k=t)->
 ∃fs,W.KatTups s.heap us fs/\fs.length=us.length/\∀v∈fs,(t=true/\∃i tk,v=.int i tk)\/(t=false/\∃x tk,v=.str x tk)
 |_,_,_,.nil,.nil,_=>⟨[],W.KatTups.nil,rfl,λv hv=>nomatch hv⟩
 |_,_,_,.cons a r,.cons b q,h=>by
  obtain⟨p,rfl,hp⟩:=b
  cases a;obtain⟨fs,f1,f2,f3⟩:=ym I r q λkl hm=>h kl (Q09 _ hm);obtain⟨k,rr,rfl,hk⟩:=h _ Q04;obtain⟨ab,rv,⟨o,ho,hc,n,hd⟩,_⟩:=I.tuple (cJ.of hp)
  cases rv with
  |cons a1 b1=>
   refine⟨_::fs,W.KatTups.cons ho hc hd (by simp;rfl) f1,by rw[Q0j,Q0j,f2],λv hv=>?_⟩;rcases List.mem_cons.mp hv with e|e
   . subst e;rcases mx a1 with⟨i,tk,rfl,rfl⟩|⟨x,tk,rfl,rfl⟩
     . exact .inl ⟨hk.symm,i,tk,rfl⟩
     . exact .inr ⟨hk.symm,x,tk,rfl⟩
   . exact f3 v e
theorem Fw(I:Inv X pins σ H s)(r:Vals ks us)(hk:ny H ks aa)(ag:yj aa):Asks X.prog X.w A s us (O:=nv) (λi=>aa.getD i []):=by
 intro h2;obtain⟨ts,ah,ab⟩:=ag
 obtain⟨t,tr,rfl⟩:∃t tr,ts=t::tr:=by
  cases ts with
  |nil=>exact absurd rfl ah
  |cons t tr=>exact⟨t,tr,rfl⟩
 have hh:∀kl∈aa,∃k r,kl=k::r/\eJ k=t:=λkl hm=>by
  have e:=ab kl hm
  cases kl with
  |nil=>cases e
  |cons k r=>exact⟨k,r,rfl,(List.cons.inj e).1⟩
 obtain⟨fs,f1,f2,f3⟩:=ym I r hk hh
 have fin:∀(i j:Nat) (C:Bool->Shared->Prop),i<us.length->j<us.length->C (eA (aa.getD i []) (aa.getD j [])) s->W.kas_ask X.prog X.w A (tuples' true) us i j C s:=by
  intro i j C hi hj q;unfold W.kas_ask;obtain⟨p,ae,e1,⟨o,ho,hc,n,hd⟩,rv,m1⟩:=yk I r hk hi;obtain⟨p',its',ai,⟨o',aj,ao,n',ak⟩,af,m2⟩:=yk I r hk hj;rw[e1,ai];have ht:(aa.getD i []).map eJ=(aa.getD j []).map eJ:=(ab _ m1).trans (ab _ m2).symm
  have hl:ae.length=its'.length:=by
   have:=congrArg List.length ht;rw[Q01,Q01] at this;rw[<-rv.length,<-af.length,Q01,Q01,this]
  refine W.kat_lt ho hd aj ak ?_;have ef:decide ((List.toArray ae).size<(List.toArray its').size)=false:=by rw[Q05,Q05,hl];simp
  rw[ef];exact tN _ _ _ _ 0 rv af ht q
 cases t with
 |true=>
  refine W.kat_kind (T:=.type "int") f1 (by omega) (λv hv=>?_) rfl ⟨rfl,fin⟩;rcases f3 v hv with⟨_,i,tk,rfl⟩|⟨z,_⟩
  . exact W.Looks.of_pure rfl
  . cases z
 |false=>
  refine W.kat_kind (T:=.type "str") f1 (by omega) (λv hv=>?_) rfl ⟨rfl,fin⟩;rcases f3 v hv with⟨z,_⟩|⟨_,x,tk,rfl⟩
  . cases z
  . exact W.Looks.of_pure rfl
end
def tO (K:PySem.W.Frag) (P:Addr) (lp:Pos) (qual:Str) (te:TE) (σ:St) (Q:VK):VK:=λx H1=>∃a xs,x=.ref a/\cM K H1 a xs/\xs.length<64/\dc P lp qual H1/\
 ∀c' H2,kz P lp qual c' H2->(∀b o,b≠P->H1 b=some o->H2 b=some o)->
 ∃W:List V->Hp->Prop,W [] H2/\(∀ks H3,W ks H3->kz P lp qual c' H3)/\(∀ks H3 y,W ks H3->xs[ks.length]? =some y->te (some y::σ) H3 λk H4=>W (ks++[k]) H4)/\
 ∀ks H3,W ks H3->ks.length=xs.length->∃aa,ny H3 ks aa/\yj aa/\∀p:List Nat,p.Perm (List.range xs.length)->(p.map λi=>aa.getD i []).Pairwise iS->∀D,H3 D=none->Q (.ref D) (upd H3 D (.lst (p.map λi=>xs.getD i .non)))
def Fx (K:W.Frag) (P:Addr) (lp:Pos) (qual:Str) (tl te:TE):TE:=λσ H Q=>tl σ H (tO K P lp qual te σ Q)
section
variable {X:Cx}
theorem Fy(hg:Gl X "sorted")(hm:X.mg "sorted"=none)(hv:bootBuiltins "sorted"=some (.builtin "sorted"))(hr:d4 k X.A)(hq:X.env.qual++"<lambda>"=qual)(ab:X.env.code=.ref c)(C:PySem.W.CodeHd X.base c P)
 (B:BM X.mg X.base) (S:lg X x N' scope) (af:defaultsOf params X.env=([],[])) (hb:∀(cl:List (Str × Addr)) (pm:Value) (c':Addr) (aa u:Value),bindArgs (PySem.W.kla_fn "<lambda>" qual params body scope cl pm (.ref c') aa) ⟨[u],[]⟩=pure [(x,u)])
 (hl:PE X l tl) (he:∀(cl:List (Str × Addr)) (f c':Addr) (s:Shared) (H:Hp),PE (o9 X x N' scope cl qual f c' s H) body te) (hs:starEach [l] X.env=[(false,eval l X.env)]:=by rfl):
 PE X (.Call (.Name "sorted" p) [l] [⟨some "key",.Lambda params body scope lp,kp⟩] pos) (Fx X.K P lp qual tl te):=by
 intro pins s σ H Q I h;refine wpAny_Call_Name_kw (jD I hg hm hv ?_);have ha:PA X [l] (fA tl gU):=a_ hl cG (by rw[hs];rfl);refine callWith_kw (dg (ha pos pins s σ H (λvs H1=>match vs with|[x]=>tO X.K P lp qual te σ Q x H1|_=>False) I h) λus s1 zq=>?_) (by rw[hs];rfl) (by rw[hs];rfl);obtain⟨vs,H1,I1,r1,q1⟩:=zq
 obtain⟨x',rfl⟩:∃x',vs=[x']:=by
  match vs,q1 with
  |[x'],_=>exact⟨x',rfl⟩
 have q1:tO X.K P lp qual te σ Q x' H1:=q1;obtain⟨a,xs,rfl,ai,aj,T,cont⟩:=q1;obtain⟨u,rfl,ru⟩:=vals1 r1
 cases ru;show wpAny _ _ (evalAll [do let v <-eval (.Lambda params body scope lp) X.env;standAt pos;pure v]) _ _ s1;obtain⟨cl,ae,ag,ah⟩:=qL (scope:=scope) (env:=X.env) λy hy hf=>I1.ok.has y.1 (S.free y hy hf);refine wpAny_evalAll_cons (Q00 (PySem.W.kla_eval af ?_));rw[hq];refine ya I1 ab C B T ae λf c' pm aa H2 s2 I2 ak mono=>?_;refine Q00 (wpAny_standAt (Q0a (wpAny_evalAll_nil ?_)));show wpAny _ _ (call (.builtin "sorted") [.ref a] [(Str.ofString "key",.ref f)]) _ _ s2;obtain⟨W,w0,wL,wt,wf⟩:=cont c' H2 ak mono
 have ao:∃ps,H1 P=some (.eX ps):=by
  rcases T with e|⟨c₂,e,_⟩
  . exact⟨_,e⟩
  . exact⟨_,e⟩
 have aq:cM X.K H2 a xs:=by
  obtain⟨ps,hP⟩:=ao;rcases ai with(z|⟨o,z⟩)|z
  . exact .inl (.inl (mono a _ (eK z hP (by intro z;cases z)) z))
  . exact .inl (.inr ⟨o,mono a _ (eK z hP (by intro z;cases z)) z⟩)
  . exact .inr z
 refine dg (yi (Q:=Q) (W:=W) I2 aq aj w0 (λpl s' H' ks y u J wk hy ry=>?_) λpl s' H' ks us J wk hlen rk=>?_) λr s' ⟨v,H',J,rv,q⟩=>⟨v,H',J.j_,rv,q⟩
 . exact ye J S hr.hd hr.depth ag ah (Q0o _ (Q07 _ Q04)) (wL ks H' wk).2 (hb cl pm c' aa) ry (he cl f c') (wt ks H' y wk hy)
 . obtain⟨ar,k1,k2,k3⟩:=wf ks H' wk hlen;exact⟨nv,_,Fw J rk k1 k2,λp p1 p2 D hD=>k3 p p1 p2 D hD⟩
end
noncomputable def yn (K:W.Frag) (a b:Addr):It:=
 ⟨λi H=>∃xs ys x y,cM K H a xs/\cM K H b ys/\xs[i]? =some x/\ys[i]? =some y,
  λi H v H'=>∃p x y,H p=none/\v=.ref p/\(∀xs,cM K H a xs->xs[i]? =some x)/\(∀ys,cM K H b ys->ys[i]? =some y)/\H'=upd H p (.tup [x,y]),
  λi H=>∃xs ys,cM K H a xs/\cM K H b ys/\(xs.length<=i\/ys.length<=i)⟩
theorem Fz {P:Program}{w:World}{K:W.Frag}{elts:List Expr}{k:Nat}{tpos:Pos}{z TI TO i1 i2 l1 l2:Addr}(D:ZipApart z TI TO i1 i2 l1 l2):
 Turn P w K (.Tuple elts k tpos) (yn K l1 l2) [z,TI,TO,i1,i2] z (λi h=>∃oa ob,IsZip h z TI TO .none/\IsPair h TI (.ref i1) (.ref i2)/\IsPair h TO oa ob/\h.IsListIter i1 l1 i/\h.IsListIter i2 l2 i) where
 mem:=by simp
 obj:=λi h st b hb=>by
  obtain⟨oa,ob,h1,h2,h3,h4,h5⟩:=st;have hb:b=z\/b=TI\/b=TO\/b=i1\/b=i2:=by simpa using hb
  rcases hb with rfl|rfl|rfl|rfl|rfl
  . exact⟨_,h1,λv y=>by
     have y:Data.fields _=Data.cell v:=y
     cases y⟩
  . exact⟨_,h2,λv y=>by
     have y:Data.seq _ _=Data.cell v:=y
     cases y⟩
  . exact⟨_,h3,λv y=>by
     have y:Data.seq _ _=Data.cell v:=y
     cases y⟩
  . obtain⟨o,q,c,d⟩:=h4;exact⟨o,q,λv y=>by rw[d] at y;cases y⟩
  . obtain⟨o,q,c,d⟩:=h5;exact⟨o,q,λv y=>by rw[d] at y;cases y⟩
 keep:=λi h h' st k=>by
  obtain⟨oa,ob,h1,h2,h3,h4,h5⟩:=st;exact⟨oa,ob,k z (by simp) _ h1,k TI (by simp) _ h2,k TO (by simp) _ h3,h4.at λo q=>k i1 (by simp) o q,h5.at λo q=>k i2 (by simp) o q⟩
 item:=by
  intro X hP hw hK hc i pins s σ H E I hf st hg;subst hP hw hK;obtain⟨oa,ob,h1,h2,h3,h4,h5⟩:=st;obtain⟨xs,ys,x,y,aa,ab,hx,hy⟩:=hg;obtain⟨aj,af,p1,aq⟩:=I.list aa;obtain⟨ak,ag,p2,ar⟩:=I.list ab;obtain⟨u1,au,av⟩:=af.get hx;obtain⟨u2,aw,ax⟩:=ag.get hy;have fr:H s.heap.objs.size=none:=I.hok.fresh (Q0 _);refine wpAny_pyNext_zip_item D h1 h2 h3 h4 h5 p1.isList p2.isList (x:=u1) (y:=u2) (by simpa using au) (by simpa using aw) λh' q1 q2 q3 q4 q5 q6 q7=>?_;refine⟨_,rfl,wpAny_letOwnedTupleGo_zip (s:={ s with heap:=h' }) q1 λae g1 g2=>?_⟩
  have ay:∀b∈[z,TI,TO,i1,i2],b<s.heap.objs.size:=λb hb=>by
   have hb:b=z\/b=TI\/b=TO\/b=i1\/b=i2:=by simpa using hb
   rcases hb with rfl|rfl|rfl|rfl|rfl
   . exact Q02 h1
   . exact Q02 h2
   . exact Q02 h3
   . obtain⟨o,q,_⟩:=h4;exact Q02 q
   . obtain⟨o,q,_⟩:=h5;exact Q02 q
  have ne1:∀b o,s.heap.get? b=some o->b≠s.heap.objs.size:=λb o q=>Q08 (Q02 q);have kk:∀b o,b≠z->b≠TO->b≠i1->b≠i2->s.heap.get? b=some o->ae.get? b=some o:=λb o n1 n2 n3 n4 q=>g2.extBut b o n1 (q7 b o n1 n2 n3 n4 q);have kn:∀b o,b ∉ [z,TO,i1,i2]->s.heap.get? b=some o->ae.get? b=some o:=λb o n q=>kk b o (λy=>n (by simp[y])) (λy=>n (by simp[y])) (λy=>n (by simp[y])) (λy=>n (by simp[y])) q;have tup:ae.get? s.heap.objs.size=some { cls:=.type "tuple",data:=.seq #[u1,u2] }:=g2.extBut _ _ (Q0v (Q02 h1)) q5
  have I1:Inv X pins σ (upd H s.heap.objs.size (.tup [x,y])) { s with heap:=ae }:=by
   refine I.step (g':=s.gens) (d':=s.drawn) (t':=s.toks) (ch:=[z,TO,i1,i2]) (λb hb=>?_) (λb o _ _ hc q _=>kn b o hc q) (λb o _ _ hc q _=>⟨o.slots,kn b o hc q⟩) (λb o _ q n=>?_) (λb o hc q=>⟨o,kn b o hc q⟩) (λb ws q=>?_) (λb o v q=>?_) (λb ps q=>?_) (λm hm=>?_) (λb o q=>?_) I.bare
   . have ah:b∈[z,TI,TO,i1,i2]:=by
      have hb:b=z\/b=TO\/b=i1\/b=i2:=by simpa using hb
      rcases hb with rfl|rfl|rfl|rfl <;> simp
     obtain⟨f0,f1,f2,f3,f4,f5⟩:=hf b ah;exact⟨f3,f1,f4,f5⟩
   . rw[cQ (ne1 b o q)];exact n
   . rw[cQ (c6 q fr)];exact q
   . rw[cQ (c6 q fr)];exact q
   . exact⟨#[],by rw[cQ (c6 q fr),q];simp⟩
   . obtain⟨o,es,ep,ho,r⟩:=hm;exact⟨o,es,ep,kk _ o (Ne.symm (hf z (by simp)).2.1) (Ne.symm (hf TO (by simp)).2.1) (Ne.symm (hf i1 (by simp)).2.1) (Ne.symm (hf i2 (by simp)).2.1) ho,r⟩
   . by_cases hb:b=s.heap.objs.size
     . subst hb;rw[cV] at q;cases q;exact⟨vx,[u1,u2],.cons av (.cons ax .nil),⟨_,tup,rfl,_,rfl⟩⟩
     . rw[cQ hb] at q
       have nn:∀c v,H c=some v->c ∉ [z,TO,i1,i2]:=λc v e hm=>by
        have az:c∈[z,TI,TO,i1,i2]:=by
         have hm:c=z\/c=TO\/c=i1\/c=i2:=by simpa using hm
         rcases hm with rfl|rfl|rfl|rfl <;> simp
        have:=(hf c az).1;rw[e] at this;cases this
       refine(I.hok b o q).stay (λc v ai y=>kn c v ?_ y) (λc y=>by rw[cQ (c6 y fr)];exact y) λc ws y=>by rw[cQ (c6 y fr)];exact y
       rcases ai with y|y
       . rw[y];exact nn b o q
       . exact nn c _ y
  refine⟨.ref s.heap.objs.size,_,I1,rfl,⟨s.heap.objs.size,x,y,fr,rfl,λws hw=>by rw[I.qr hw aa];exact hx,λws hw=>by rw[I.qr hw ab];exact hy,rfl⟩,⟨u1,u2,g1,?_,?_,?_,?_⟩,λb hb=>?_⟩
  . exact kk TI _ D.TIz D.TITO D.TIi1 D.TIi2 h2
  . exact g2.extBut _ _ D.TOz q2
  . exact q3.at λo q=>g2.extBut _ _ D.i1z q
  . exact q4.at λo q=>g2.extBut _ _ D.i2z q
  . rw[cQ (Q08 (ay b hb))];exact(hf b hb).1
 done:=by
  intro X hP hw hK hc i pins s σ H E I hf st hg;subst hP hw hK;obtain⟨oa,ob,h1,h2,h3,h4,h5⟩:=st;obtain⟨xs,ys,aa,ab,ao⟩:=hg;obtain⟨aj,af,p1,aq⟩:=I.list aa;obtain⟨ak,ag,p2,ar⟩:=I.list ab;have e1:=af.length;have e2:=ag.length
  refine wpAny_pyNext_zip_end (I.ok.hd hc) D h1 h2 h3 h4 h5 p1.isList p2.isList (by
   rcases ao with q|q
   . exact .inl (by simp;omega)
   . exact .inr (by simp;omega)) λh' hk=>⟨rfl,?_⟩
  refine I.step (g':=s.gens) (d':=s.drawn) (t':=s.toks) (ch:=[z,TO,i1,i2]) (λb hb=>?_) (λb o _ _ hc q _=>?_) (λb o _ _ hc q _=>?_) (λb o _ q n=>n) (λb o hc q=>?_) (λb ys q=>q) (λb o v q=>q) (λb ps q=>⟨#[],by rw[q];simp⟩) (λm hm=>?_) (λb o q=>?_) I.bare
  . have ah:b∈[z,TI,TO,i1,i2]:=by
     have hb:b=z\/b=TO\/b=i1\/b=i2:=by simpa using hb
     rcases hb with rfl|rfl|rfl|rfl <;> simp
    obtain⟨f0,f1,f2,f3,f4,f5⟩:=hf b ah;exact⟨f3,f1,f4,f5⟩
  . exact hk b o (λy=>hc (by simp[y])) (λy=>hc (by simp[y])) (λy=>hc (by simp[y])) (λy=>hc (by simp[y])) q
  . exact⟨o.slots,hk b o (λy=>hc (by simp[y])) (λy=>hc (by simp[y])) (λy=>hc (by simp[y])) (λy=>hc (by simp[y])) q⟩
  . exact⟨o,hk b o (λy=>hc (by simp[y])) (λy=>hc (by simp[y])) (λy=>hc (by simp[y])) (λy=>hc (by simp[y])) q⟩
  . obtain⟨o,es,ep,ho,r⟩:=hm;exact⟨o,es,ep,hk _ o (Ne.symm (hf z (by simp)).2.1) (Ne.symm (hf TO (by simp)).2.1) (Ne.symm (hf i1 (by simp)).2.1) (Ne.symm (hf i2 (by simp)).2.1) ho,r⟩
  . have nn:∀c v,H c=some v->∀y∈[z,TI,TO,i1,i2],c≠y:=λc v e y hy=>c6 e (hf y hy).1;refine(I.hok b o q).stay (λc v ai y=>hk c v ?_ ?_ ?_ ?_ y) (λ_ y=>y) λ_ _ y=>y <;> (rcases ai with y|y)
    all_goals first
     |(rw[y];exact nn b o q _ (by simp))
     |exact nn c _ y _ (by simp)
 self:=λA i s Q E st q=>by
  obtain⟨oa,ob,h1,_⟩:=st;exact wpAny_pyIter_zip h1 q
inductive yo (K:W.Frag) (R:It->Hp->Prop) (vs:List V) (H1:Hp):Prop
 |mk (a:_) (b:_) (h0:vs=[.ref a,.ref b]) (h1:(∃xs,cM K H1 a xs)) (h2:(∃ys,cM K H1 b ys)) (h3:R (yn K a b) H1):yo K R vs H1
def FC (K:W.Frag) (ta:TA):TI:=λσ H R=>ta σ H (yo K R)
section
variable {X:Cx}
theorem yp(hg:Gl X "zip")(hm:X.mg "zip"=none)(ha:PA X [a,b] ta)(hs:starEach [a,b] X.env=[(false,eval a X.env),(false,eval b X.env)]:=by rfl)
 (aa:starEach [b] X.env=[(false,eval b X.env)]:=by rfl):PI X (.Tuple elts k tpos) (.Call (.Name "zip" p) [a,b] [] pos) (FC X.K ta):=by
 intro pins s σ H R I h;refine Call_ (jD I hg hm boot_zip (PyProof.Rows.callWith_type1 (dg (ha pos pins s σ H _ I h) λus s1 zq=>?_) (by rw[hs,aa]) (by rw[aa];rfl)));obtain⟨vs,H1,I1,r1,q1⟩:=zq;obtain⟨l1,l2,e,⟨xs,ab⟩,⟨ys,ae⟩,q⟩:=q1;subst e;obtain⟨u1,u2,rfl,af,ag⟩:=vals2 r1
 cases af
 cases ag;obtain⟨ah,aj,p1,ak⟩:=I1.list ab;obtain⟨ai,ao,p2,aq⟩:=I1.list ae;have a1:l1<s1.heap.objs.size:=by obtain⟨_,e,_⟩:=p1.isList;exact Q02 e
 have a2:l2<s1.heap.objs.size:=by obtain⟨_,e,_⟩:=p2.isList;exact Q02 e
 refine call_zip_2 p1.isList p2.isList λh' q1 q2 q3 q4 q5 q6 q7=>?_;refine wpAny_pyIter_zip q1 ?_;have I2:Inv X pins σ H1 { s1 with heap:=h' }:=I1.kept (t':=s1.toks) q7
 have Dz:ZipApart (s1.heap.objs.size+4) (s1.heap.objs.size+2) (s1.heap.objs.size+3) s1.heap.objs.size (s1.heap.objs.size+1) l1 l2:=by
  have b1:@LT.lt Nat _ l1 s1.heap.objs.size:=a1;have b2:@LT.lt Nat _ l2 s1.heap.objs.size:=a2;constructor <;> (intro z;have z':(_:Nat)=_:=z;omega)
 refine⟨s1.heap.objs.size+4,[s1.heap.objs.size+4,s1.heap.objs.size+2,s1.heap.objs.size+3,s1.heap.objs.size,s1.heap.objs.size+1],_,_,H1,rfl,I2,Fz Dz,⟨.none,.none,q1,q2,q3,q4,q5⟩,λb hb=>?_,q⟩
 have hb:s1.heap.objs.size<=b:=by
  have hb:b=s1.heap.objs.size+4\/b=s1.heap.objs.size+2\/b=s1.heap.objs.size+3\/b=s1.heap.objs.size\/b=s1.heap.objs.size+1:=by simpa using hb
  rcases hb with z|z|z|z|z <;> rw[z]
  . exact Q11 _ _
  . exact Q11 _ _
  . exact Q11 _ _
  . exact Q0 _
  . exact Q11 _ _
 exact I1.j8 hb (I1.hok.fresh hb)
end
end L2
namespace HT
open PyProof.Rows L2
section
open SeqAt
open PySem.AutoSeq1 (wpAny_loadPart')
open MeetsSeq MeetsSeq2 MeetsSeq3
inductive KeysAre:List Value->List Key->Prop
 |nil:KeysAre [] []
 |cons {u:Value} {k:Key} {us:List Value} {ks:List Key}:RelV (kV k) u->KeysAre us ks->KeysAre (u::us) (k::ks)
theorem KeysAre.of:∀{ks:List Key}{us:List Value},Vals (ks.map kV) us->KeysAre us ks
 |[],_,r=>by cases r;exact .nil
 |k::ks,_,r=>by
  cases r with
  |cons a b=>exact .cons a (KeysAre.of b)
theorem KeysAre.length:∀{us:List Value}{ks:List Key},KeysAre us ks->us.length=ks.length
 |_,_,.nil=>rfl
 |_,_,.cons _ h=>by rw[Q0j,Q0j,h.length]
theorem FD (A:Around)(s:Shared)(r:RelV (kV k) u)(q:RelV (kV j) v)(ht:eJ k=eJ j):∃e,SeqAt.EqAt A s u v e/\(e=true↔k=j):=by
 rcases mx r with⟨m,t,rfl,rfl⟩|⟨m,t,rfl,rfl⟩ <;> rcases mx q with⟨n,t',rfl,rfl⟩|⟨n,t',rfl,rfl⟩
 . exact⟨m == n,SeqAt.EqAt.int_int m t n t',by simp⟩
 . cases ht
 . cases ht
 . exact⟨m == n,SeqAt.EqAt.str_str m t n t',by simp⟩
theorem FE (A:Around)(s:Shared)(r:RelV (kV k) u)(q:RelV (kV j) v)(ht:eJ k=eJ j)(prog:Program)(w:World)(E:Value->Shared->Prop)(Q:Value->Shared->Prop)(h:Q (.bool (!gJ j k)) s):
 wpAny (model prog w) A (richCompare .LtE u v) Q E s:=by
 rcases mx r with⟨m,t,rfl,rfl⟩|⟨m,t,rfl,rfl⟩ <;> rcases mx q with⟨n,t',rfl,rfl⟩|⟨n,t',rfl,rfl⟩
 . have e:(!gJ (.inl n) (.inl m))=decide (m<=n):=by
    show(!decide (n<m))=decide (m<=n);rw[<-decide_not];exact decide_eq_decide.mpr Int.not_lt
   rw[e] at h;exact(PyProof.Rows.le_int h:wpAny (model prog w) A (compareOp .LtE (.int m t) (.int n t')) Q E s)
 . cases ht
 . cases ht
 . exact(PySem.P.le_str h:wpAny (model prog w) A (compareOp .LtE (.str m t) (.str n t')) Q E s)
theorem FF (l b:Addr)(items aa:Array Value)(n n2:Nat)(dd aq:Option Addr)(sl ar:Array (Option Value))(ns ms:List Key)(hi:KeysAre items.toList ns)(hj:KeysAre aa.toList ms)(ht:ns.map eJ=ms.map eJ):
 Meets (Builtin.«tuple.__le__» ⟨[.ref l,.ref b],[]⟩)
  (λ_ R s=>s.heap.get? l=some { cls:=.type "tuple",dict:=dd,data:=.seq items n,slots:=sl }/\s.heap.get? b=some { cls:=.type "tuple",dict:=aq,data:=.seq aa n2,slots:=ar }/\
    R (.ok (.ret (.bool (!eA ms ns)))) s):=
 .of_wp λprog w A R s h=>by
   obtain⟨hp,g,d,tk,os⟩:=s;obtain⟨hl,hb,h⟩:=h;have f2:=AutoSeq1.sub_tuple_tuple;have z1:items.size=ns.length:=by rw[<-hi.length];simp
   have z2:aa.size=ms.length:=by rw[<-hj.length];simp
   have z3:ns.length=ms.length:=by have:=congrArg List.length ht;simpa using this
   wp_walk using wpAny_loadPart' hl,wpAny_loadPart' hb,wpAny_forIn_list _ (λrest b s'=>b.1=none/\s'=⟨hp,g,d,tk,os⟩/\∃(vs ws:List Value) (ab ae:List Key),rest=vs.zip ws/\
    KeysAre vs ab/\KeysAre ws ae/\ab.map eJ=ae.map eJ/\R (.ok (.ret (.bool (!eA ae ab)))) ⟨hp,g,d,tk,os⟩) _
   case turn=>
    rintro⟨y,x⟩ rest b s' ⟨ah,rfl,vs,ws,ab,ae,hz,ai,af,hlen,hR⟩
    cases ai with
    |nil=>rw[List.zip_nil_left] at hz;cases hz
    |cons a ak=>
     cases af with
     |nil=>rw[List.zip_nil_right] at hz;cases hz
     |cons c ao=>
      rw[Q3] at hz;injection hz with au aj
      injection au with hy hx
      subst hy hx;rw[nt] at hR;have t1:=(List.cons.inj hlen).1;have t2:=(List.cons.inj hlen).2;obtain⟨e,he,ag⟩:=FD A.in1 ⟨hp,g,d,tk,os⟩ a c t1;refine Q00 (he prog w _ _ ?_)
      cases e with
      |true=>
       rw[if_pos (ag.mp rfl).symm] at hR
       wp_walk
       exact⟨rfl,rfl,_,_,_,_,aj,ak,ao,t2,hR⟩
      |false=>
       rw[if_neg (λq=>absurd (ag.mpr q.symm) Bool.false_ne_true)] at hR;have av:=FE A.in1 ⟨hp,g,d,tk,os⟩ a c t1 prog w
       wp_walk using av
       exact⟨_,rfl,by simpa using hR⟩
   case fin=>
    rintro⟨b1,b2⟩ s' ⟨ah,rfl,vs,ws,ab,ae,hz,ai,af,hlen,hR⟩;simp only at ah;subst ah
    have hv:(!eA ae ab)=decide (items.size<=aa.size):=by
     cases ai with
     |nil=>
      cases af with
      |nil=>exact(decide_eq_true (by omega)).symm
      |cons c hw=>cases hlen
     |cons a hv=>
      cases af with
      |nil=>cases hlen
      |cons c hw=>
       rw[Q3] at hz
       cases hz
    rw[hv] at hR
    wp_walk
    exact⟨_,rfl,by simpa[Builtin.Tuple.tupleCompareSizes] using hR⟩
   case h=>
    exact⟨rfl,rfl,items.toList,aa.toList,ns,ms,rfl,hi,hj,ht,h⟩
end
section
variable {prog:Program}{w:World}{A:Around}{E:Value->Shared->Prop}{s:Shared}
theorem FG(hl:IsTup s.heap l items)(hb:IsTup s.heap b aa)(hi:KeysAre items.toList ns)(hj:KeysAre aa.toList ms)(ht:ns.map eJ=ms.map eJ)
 (hu:A.units<cLine) (h:Q (.bool (!eA ms ns)) s):wpAny (model prog w) A (compareOp .LtE (.ref l) (.ref b)) Q E s:=by
 obtain⟨⟨cls,dd,data,sl⟩,ho,hc,n,hd⟩:=id hl;obtain⟨⟨ah,af,data2,ag⟩,ab,ae,n2,hd2⟩:=id hb;simp only at hc hd ae hd2;subst hc hd ae hd2
 exact richCompare_meets_room (op:=.LtE) ⟨_,ho,rfl⟩ ⟨_,ab,rfl⟩ PySem.F.slot_tuple_le PySem.F.entry_tuple_le (PySem.F.args_tuple_le_2 _ _) (FF l b items aa n n2 dd af sl ag ns ms hi hj ht)
  ⟨ho,ab,show Value.bool (!eA ms ns)≠Value.notImplemented/\Q (.bool (!eA ms ns)) s from⟨(λx=>nomatch x),h⟩⟩ hu
end
end HT
namespace L2
open Spec PyProof.Rows
section
variable {X:Cx}
inductive yq (K:W.Frag) (x:V) (y:V) (H:Hp) (Q:V->Hp->Prop):Prop
 |mk (a:_) (b:_) (ns:_) (ms:_) (h0:x=.ref a) (h1:y=.ref b) (h2:cJ K H a (ns.map kV)) (h3:cJ K H b (ms.map kV)) (h4:ns.map eJ=ms.map eJ) (h5:Q (.bl (!eA ms ns)) H):yq K x y H Q
def FH (K:W.Frag):R2:=λx y H Q=>yq K x y H Q
theorem FI (hu:X.A.units<cLine):fw X (compareOp .LtE) (FH X.K):=by
 intro pins s σ H x y v u Q I rx ry h;obtain⟨a,b,ns,ms,rfl,rfl,ha,hb,ht,q⟩:=h
 cases rx
 cases ry;obtain⟨ab,r1,p1,_⟩:=I.tuple ha;obtain⟨aa,r2,p2,_⟩:=I.tuple hb;exact HT.FG p1 p2 (by simpa using HT.KeysAre.of r1) (by simpa using HT.KeysAre.of r2) ht hu ⟨.bl (!eA ms ns),H,I,rfl,q⟩
end
inductive gv (K:W.Frag) (H:Hp):Nat->V->V->Bool->Prop
 |ref {n:Nat} (a:Addr):gv K H n (.ref a) (.ref a) true
 |int {n:Nat} (a b:Int):gv K H n (.int a) (.int b) (decide (a=b))
 |str {n:Nat} (a b:Str):gv K H n (.str a) (.str b) (decide (a=b))
 |is {n:Nat} (a:Int) (b:Str):gv K H n (.int a) (.str b) false
 |si {n:Nat} (a:Str) (b:Int):gv K H n (.str a) (.int b) false
 |lst {n:Nat} {a b:Addr} {xs ys:List V} {e:Nat->Bool} (ne:a≠b) (ha:cM K H a xs) (hb:cM K H b ys) (hl:xs.length=ys.length) (he:∀(j:Nat) (x y:V),xs[j]? =some x->ys[j]? =some y->gv K H n x y (e j)):
   gv K H (n+1) (.ref a) (.ref b) ((List.range xs.length).all e)
 |tup {n:Nat} {a b:Addr} {xs ys:List V} {e:Nat->Bool} (ne:a≠b) (ha:cJ K H a xs) (hb:cJ K H b ys) (he:∀(j:Nat) (x y:V),xs[j]? =some x->ys[j]? =some y->gv K H n x y (e j)):
   gv K H (n+1) (.ref a) (.ref b) ((List.range (min xs.length ys.length)).all e && xs.length == ys.length)
section
variable {X:Cx}{pins:List (Addr × Obj)}{σ:St}{H:Hp}{s:Shared}
theorem Vals.at:∀{xs:List V}{us:List Value},Vals xs us->∀(j:Nat) (h:j<us.length),∃x,xs[j]? =some x/\RelV x us[j]
 |_,_,.nil,j,h=>absurd h (by simp)
 |_,_,.cons a r,0,h=>⟨_,rfl,a⟩
 |_,_,.cons a r,j+1,h=>by
  obtain⟨x,h1,h2⟩:=Vals.at r j (by simpa using h);exact⟨x,by simpa using h1,h2⟩
theorem gv.yr (I:Inv X pins σ H s)(h:gv X.K H n x y b):∀(A:Around) (u v:Value),RelV x u->RelV y v->A.units+n<cLine->SeqAt.EqAt A s u v b:=by
 induction h with
 |ref a=>
  intro A u v ru rv hu
  cases ru
  cases rv;exact SeqAt.EqAt.same _
 |int a b=>
  intro A u v ru rv hu;obtain⟨t,rfl⟩:=ru;obtain⟨t',rfl⟩:=rv;exact SeqAt.EqAt.int_int a t b t'
 |str a b=>
  intro A u v ru rv hu;obtain⟨t,rfl⟩:=ru;obtain⟨t',rfl⟩:=rv
  have e:decide (a=b)=(a == b):=by
   by_cases z:a=b
   . rw[decide_eq_true z,z];simp
   . rw[decide_eq_false z];exact(beq_eq_false_iff_ne.mpr z).symm
  rw[e];exact SeqAt.EqAt.str_str a t b t'
 |is a b=>
  intro A u v ru rv hu;obtain⟨t,rfl⟩:=ru;obtain⟨t',rfl⟩:=rv;exact SeqAt.EqAt.int_str a t b t'
 |si a b=>
  intro A u v ru rv hu;obtain⟨t,rfl⟩:=ru;obtain⟨t',rfl⟩:=rv;exact SeqAt.EqAt.str_int a t b t'
 |@lst n a b xs ys e ne ha hb hl he ih=>
  intro A u v ru rv hu
  cases ru
  cases rv;obtain⟨ab,r1,p1,_⟩:=I.list ha;obtain⟨aa,r2,p2,_⟩:=I.list hb;have l1:=r1.length;have l2:=r2.length;refine .of_refs ne ?_;have q:xs.length=ab.toArray.size:=by rw[Q05];exact l1
  rw[q];refine SeqAt.RcAt.lists p1.isList p2.isList (by rw[Q05,Q05];omega) (by omega) λj h1 h2=>?_;obtain⟨x',e1,q1⟩:=Vals.at r1 j (by simpa using h1);obtain⟨y',e2,q2⟩:=Vals.at r2 j (by simpa using h2);refine ih j x' y' e1 e2 _ _ _ (by simpa using q1) (by simpa using q2) ?_;show A.units+1+n<cLine;omega
 |@tup n a b xs ys e ne ha hb he ih=>
  intro A u v ru rv hu
  cases ru
  cases rv;obtain⟨ab,r1,p1,_⟩:=I.tuple ha;obtain⟨aa,r2,p2,_⟩:=I.tuple hb;have l1:=r1.length;have l2:=r2.length;refine .of_refs ne ?_;have q:xs.length=ab.toArray.size:=by rw[Q05];exact l1
  have q':ys.length=aa.toArray.size:=by rw[Q05];exact l2
  rw[q,q'];refine SeqAt.RcAt.tuples p1 p2 (by omega) λj h1 h2=>?_;obtain⟨x',e1,q1⟩:=Vals.at r1 j (by simpa using h1);obtain⟨y',e2,q2⟩:=Vals.at r2 j (by simpa using h2);refine ih j x' y' e1 e2 _ _ _ (by simpa using q1) (by simpa using q2) ?_;show A.units+1+n<cLine;omega
def FJ (K:W.Frag) (H:Hp) (n:Nat) (xs ys:List V) (e:Nat->Bool):Prop:=∀(j:Nat) (x y:V),xs[j]? =some x->ys[j]? =some y->gv K H n x y (e j)
inductive yt (K:W.Frag) (n:Nat) (x:V) (y:V) (H:Hp) (Q:V->Hp->Prop):Prop
 |mk (a:_) (b:_) (xs:_) (ys:_) (e:_) (h0:x=.ref a) (h1:y=.ref b) (h2:FJ K H n xs ys e) (h3:((cM K H a xs/\cM K H b ys/\((xs.length=ys.length/\Q (.bl (!(List.range xs.length).all e)) H)\/(xs.length≠ys.length/\Q (.bl true) H)))\/
  (cJ K H a xs/\cJ K H b ys/\Q (.bl (!((List.range (min xs.length ys.length)).all e && xs.length == ys.length))) H))):yt K n x y H Q
def yu (K:W.Frag) (n:Nat):R2:=λx y H Q=>yt K n x y H Q
theorem FN(hu:X.A.units+1+n<cLine):fw X (compareOp .NotEq) (yu X.K n):=by
 intro pins s σ H x y v u Q I rx ry h;obtain⟨a,b,xs,ys,e,rfl,rfl,hd,h⟩:=h
 cases rx
 cases ry;rcases h with⟨ha,hb,h⟩|⟨ha,hb,q⟩
 . obtain⟨ab,r1,p1,_⟩:=I.list ha;obtain⟨aa,r2,p2,_⟩:=I.list hb;have l1:=r1.length;have l2:=r2.length;rcases h with⟨hl,q⟩|⟨hl,q⟩
   . have z:xs.length=ab.toArray.size:=by rw[Q05];exact l1
     rw[z] at q;refine(SeqAt.RcNeAt.lists (e:=e) p1.isList p2.isList (by rw[Q05,Q05];omega) (by omega) (λj h1 h2=>?_)) X.prog X.w _ _ ⟨.bl _,H,I,rfl,q⟩;obtain⟨x',e1,q1⟩:=Vals.at r1 j (by simpa using h1);obtain⟨y',e2,q2⟩:=Vals.at r2 j (by simpa using h2);refine(hd j x' y' e1 e2).yr I _ _ _ (by simpa using q1) (by simpa using q2) ?_;show X.A.units+1+n<cLine;omega
   . refine(SeqAt.RcNeAt.lists_lengths p1.isList p2.isList ?_ (by omega)) X.prog X.w _ _ ⟨.bl true,H,I,rfl,q⟩;rw[Q05,Q05];simp;omega
 . obtain⟨ab,r1,p1,_⟩:=I.tuple ha;obtain⟨aa,r2,p2,_⟩:=I.tuple hb;have l1:=r1.length;have l2:=r2.length;have z:xs.length=ab.toArray.size:=by rw[Q05];exact l1
   have z':ys.length=aa.toArray.size:=by rw[Q05];exact l2
   rw[z,z'] at q;refine(SeqAt.RcNeAt.tuples (e:=e) p1 p2 (by omega) (λj h1 h2=>?_)) X.prog X.w _ _ ⟨.bl _,H,I,rfl,q⟩;obtain⟨x',e1,q1⟩:=Vals.at r1 j (by simpa using h1);obtain⟨y',e2,q2⟩:=Vals.at r2 j (by simpa using h2);refine(hd j x' y' e1 e2).yr I _ _ _ (by simpa using q1) (by simpa using q2) ?_;show X.A.units+1+n<cLine;omega
inductive yw (x:V) (vs:List V) (H:Hp) (Q:V->Hp->Prop):Prop
 |mk (l:_) (xs:_) (y:_) (i:Int) (h0:x=.ref l) (h1:vs=[.int i,y]) (h2:H l=some (.lst xs)) (h3:0<=i) (h4:i<=1000000) (h5:xs.length<sizeLine) (h6:Q .non (upd H l (.lst (xs.take i.toNat++y::xs.drop i.toNat)))):yw x vs H Q
def FO:V->List V->Hp->VK->Prop:=λx vs H Q=>yw x vs H Q
theorem FP:xi X "list.insert" FO:=by
 intro pins s σ H x vs v us Q I rx rv h;obtain⟨l,xs,y,i,rfl,rfl,hH,h0,hi,hz,q⟩:=h
 cases rx;obtain⟨u1,u2,rfl,r1,r2⟩:=vals2 rv;obtain⟨t,rfl⟩:=r1;obtain⟨z,aa,n,r,hl,e⟩:=I.qI hH
 have hf:Builtin.List.listFitsIndex i=true:=by
  unfold Builtin.List.listFitsIndex;rw[Bool.and_eq_true];exact⟨decide_eq_true (Int.le_trans (by decide) h0),decide_eq_true (Int.lt_of_le_of_lt hi (by decide))⟩
 have lr:=r.length;have hs:aa.toArray.size<=sizeLine:=by rw[Q05];omega
 have hc:¬(!Builtin.List.listFitsIndex i)=true:=by rw[hf];exact Bool.false_ne_true
 refine call_meets F.slot_list_insert ⟨_,e,rfl⟩ F.entry_list_insert (F.args_list_insert_3 _ _ _) (PySem.AutoSeq1.list_insert_list_int_val_1 l aa.toArray n i t u2 hc hs) ⟨e,?_⟩;refine⟨.non,_,I.xj (its':=aa.take i.toNat++u2::aa.drop i.toNat) hH e ?_ ?_ ?_,rfl,q⟩
 . have hk:(if i<0 then(i+(aa.toArray.size:Int)).toNat else min i.toNat aa.toArray.size)=min i.toNat aa.length:=by
    rw[if_neg (by omega),Q05]
   show(aa.toArray.extract 0 (if i<0 then(i+(aa.toArray.size:Int)).toNat else min i.toNat aa.toArray.size)).push u2++aa.toArray.extract (if i<0 then(i+(aa.toArray.size:Int)).toNat else min i.toNat aa.toArray.size)=_;rw[hk,W.kl_ins_eq];rcases Nat.le_total i.toNat aa.length with h|h
   . rw[Nat.min_eq_left h]
   . rw[Nat.min_eq_right h,Q0x (Q0 _),Q30 (Q0 _),Q0x h,Q30 h]
 . exact(r.take i.toNat).append (.cons r2 (r.drop i.toNat))
 . rw[Q0d,Q0j,Q0n,Q2p];omega
end
def FQ (e:Addr) (l:List Env) (h h':Heap):Prop:=
 (∀b o,b ∉ frs l->b≠e->h.get? b=some o->h'.get? b=some o)/\∀b o,b≠e->h.get? b=some o->∃sl,h'.get? b=some { o with slots:=sl }
theorem tP(h:o.data=.fields vs):Obj.mapFields f o={ o with data:=.fields (f vs) }:=by
 obtain⟨c,d,da,sl⟩:=o;have h:da=.fields vs:=h;subst h;rfl
section
variable {M:Model}{A:Around}{E:Value->Shared->Prop}{s:Shared}
theorem FT{env:Env}
 (ah:A.frames=some (env::outer)) (hl:s.heap.FunFrames base (env::outer)) (hf:env.frame=some L) (he:s.heap.get? e=some oe) (hd:oe.data=.fields vs) (hsz:1<vs.size)
 (h:∀(h':Heap) (T:Addr),s.heap.objs.size<=T->FQ e (env::outer) s.heap h'->h'.get? e=some { oe with data:=.fields (vs.setIfInBounds 1 (.ref T)) }->(∃oT ts,h'.get? T=some oT/\oT.data=.fields ts/\ts[3]? =some (rawInt L))->Q () { s with heap:=h' }):
 wpAny M A (do let a <-frameOf env;let pl <-entryPlaceOf L ag;let b <-EntryCells.newEntry head a .none (rawInt L) .none pl;setField (.ref e) 1 b) Q E s:=by
 have ai:e ∉ (env::outer).filterMap (·.frame):=λz=>by
  obtain⟨_,o,ho,hn⟩:=hl.mem z;rw[he] at ho
  cases ho;exact hn vs hd
 refine Q00 (wpAny_frameOf_fun ah hl hf λh1 x1=>?_);refine Q00 (wpAny_entryPlaceOf λpl ae=>?_);unfold EntryCells.newEntry newFields;refine Q00 (wpAny_newObj_type ?_ (ae.sizeOk5 _ _ _ _ _));have e1:h1.get? e=some oe:=(x1.2.1 e ai).trans he;generalize af:({ cls:=.type "traceback",dict:=none,data:=.fields ([head,.ref L,.none,rawInt L,.none]++(if pl.isEmpty then List.replicate 6 Value.none else pl)).toArray }:Obj)=ob;have e2:(h1.push ob).get? e=some oe:=Q06 ob e1;have aj:h1.objs.size≠e:=Q0v (Q02 e1);have ab:({ oe with data:=.fields (vs.setIfInBounds 1 (.ref h1.objs.size)) }:Obj).isFreed=false:=Obj.isFreed_of_fields rfl;have em:Obj.mapFields (·.setIfInBounds 1 (Value.ref h1.objs.size)) oe={ oe with data:=.fields (vs.setIfInBounds 1 (.ref h1.objs.size)) }:=tP hd;refine wpAny_setField e2 hd hsz (h _ h1.objs.size (Q1v x1.1.symm) ⟨λb o hb aa ho=>?_,λb o aa ho=>?_⟩ ?_ ?_)
 . rw[Q1a _ _ (Ne.symm aa)];exact Q06 ob ((x1.2.1 b hb).trans ho)
 . obtain⟨sl,hs⟩:=x1.2.2 b o ho;refine⟨sl,?_⟩;rw[Q1a _ _ (Ne.symm aa)];exact Q06 ob hs
 . have:=Q1x (Obj.mapFields (·.setIfInBounds 1 (Value.ref h1.objs.size))) e2 (by rw[em];exact ab);rw[em] at this;exact this
 . refine⟨ob,_,?_,by rw[<-af],?_⟩
   . rw[Q1a _ _ (Ne.symm aj)];exact Q0i h1 (by rw[<-af];rfl)
   . first|(simp;done)|(rcases ae with rfl|⟨_,_,_,_,_,_,_,rfl⟩ <;> simp)
structure Tr (h:Heap) (e T:Addr) (cls fl:Value):Prop where
 ex:∃oe vs,h.get? e=some oe/\oe.cls=cls/\oe.dict=none/\oe.data=.fields vs/\vs[1]? =some (.ref T)
 tb:∃oT ts,h.get? T=some oT/\oT.data=.fields ts/\ts[3]? =some fl
 ne:T≠e
end
section
variable {X:Cx}{pins:List (Addr × Obj)}{σ:St}{H:Hp}{s:Shared}
end
section
variable {M:Model}{A:Around}{E:Value->Shared->Prop}{s:Shared}
end
section
variable {X:Cx}{pins:List (Addr × Obj)}{σ:St}{H:Hp}{s:Shared}
end
section
variable {X:Cx}{k:Nat}{f:Addr}{fd:FuncData}{ps:List Str}{sp:Sp}{fB:List V}{ds:List Value}{Ek:XK}{x:Str}{p pos:Pos}{e:Expr}{es:List Expr}{t:TA}{te:TE}
end
end L2
namespace L2
open Spec PyProof.Rows W
theorem FU{E:Value->Shared->Prop}{K:Frag}{s:Shared}{oe:Obj}{Q:Bool->Shared->Prop}(X:K.In s.heap)(h1:typeIn K (.ref D)=some (.type "type"))(h2:(clsIn K D).isSome=true)(h3:subIn K (.ref D) (.type "BaseException")=some true)
 (h4:subIn K (.ref C) (.ref D)=some b) (he:s.heap.get? a=some oe) (hc:oe.cls=.ref C) (hq:Q b s):wpAny M A (excMatches (.ref a) (.ref D)) Q E s:=by
 obtain⟨h,g,d,t,os⟩:=s;have L1:=looks_typeIn (M:=M) X h1;have L2:Looks M h (isSubtype (.type "type") (.type "tuple")) false:=Looks.of_pure tc_notTuple;have L3:=looks_subIn (M:=M) X h3;have L4:=looks_subIn (M:=M) X h4
 have L5:Looks M h (isType (.ref D)) true:=by
  unfold clsIn at h2;split at h2
  . rename_i c' d' aa ab ho;intro A' Q' E' s' k q;unfold isType loadHead;exact Q00 (wpAny_loadPart (k _ _ (X _ _ ho)) (Q0a q))
  . cases h2
 have L6:Looks M h (typeOf (.ref a)) (.ref C):=by
  have z:Looks M h (typeOf (.ref a)) oe.cls:=(Looks.ld (show h.get? a=some oe from he)).andThen .now;rw[hc] at z;exact z
 have L7:Looks M h (isInstance (.ref D) (.type "tuple")) false:=L1.andThen L2
 have L8:Looks M h (isExcClass (.ref D)) true:=λA' Q' E' s' k q=>by
  unfold isExcClass;exact Q00 (L5 A' _ E' s' k (L3 A' _ E' s' k q))
 unfold excMatches;refine Q00 (L7.at ?_)
 repeat (any_goals (first|assumption|with_reducible refine L8.at ?_|with_reducible refine L6.at ?_|with_reducible refine L4.at ?_|wp_step))
 cases b <;> (repeat (any_goals (first|assumption|wp_step)))
end L2
namespace L2
open Spec PyProof.Rows
section
variable {X:Cx}{pins:List (Addr × Obj)}{σ:St}{H:Hp}{s:Shared}
theorem Inv.unbind(I:Inv X pins σ H s)(hN:X.N.Nodup)(hi:X.N[i]? =some x)(hk:X.env.kindOf x=some .local)
 (h:∀s',Inv X pins (σ.set i none) H s'->Q () s'):wpAny M A (do bindName X.env x .none;unbindBehindTheSuite X.env x pos) Q E s:=by
 obtain⟨m,hn,hl⟩:=id I.loc;have aa:(X.env.scope.kind == .class || (X.env.scope.kind == .module && X.env.locals != X.env.globals))=false:=by rw[I.ok.kind];rfl
 have ab:i<σ.length:=by rw[I.len];exact(List.getElem?_eq_some_iff.mp hi).1
 have jh:=I.jh;refine wpAny_nameGoes_keeps hk hn aa λh' v ae hs=>?_;obtain⟨oL,_,_,af,_⟩:=id hn
 have tracked:eL X.prog X.w H h':=λb ob e=>by
  refine(I.hok b ob e).stay (λc w' hc q=>(hs.2 c ?_).trans q) (λ_ q=>q) λ_ _ q=>q;rintro rfl;rcases hc with rfl|hc
  . rw[I.free] at e;cases e
  . rw[I.free] at hc;cases hc
 refine h _ ⟨I.ok,I.os,I.bare,⟨λb o e n hb hx=>?_,λb o e n hb hx=>?_,I.base.free,λb o e hx=>?_,I.base.tups,I.base.ip,I.base.iE⟩,⟨_,ae,λj y v' e1 e2 e3=>?_⟩,λy c e=>?_,I.free,I.gO,λp hp=>?_,tracked,by simpa using I.len⟩
 . exact(hs.2 b (Q08 (Q0e (Q02 e) I.ok.above))).trans (I.base.keep b o e n hb hx)
 . obtain⟨sl,e1⟩:=I.base.slot b o e n hb hx;exact⟨sl,(hs.2 b (Q08 (Q0e (Q02 e) I.ok.above))).trans e1⟩
 . obtain⟨o',e1⟩:=I.base.there b o e hx;exact⟨o',(hs.2 b (Q08 (Q0e (Q02 e) I.ok.above))).trans e1⟩
 . by_cases hj:j=i
   . subst hj;rw[Q27 ab] at e2
     cases e2
   . rw[Q28 (Ne.symm hj)] at e2;obtain⟨u',r',q⟩:=hl j y v' e1 e2 e3;refine⟨u',r',?_⟩;rcases q with⟨k,e⟩|⟨k,c,e,z⟩
     . refine .inl ⟨k,?_⟩;have:y≠x:=λe=>hj (qk hN e1 (e ▸ hi));simp[this,e]
     . exact .inr ⟨k,c,e,z.sameBut hs (jh y c e)⟩
 . obtain⟨w',z⟩:=I.cell y c e;exact⟨w',z.sameBut hs (jh y c e)⟩
 . obtain⟨e,n,ne,nf,d⟩:=I.pin p hp;exact⟨(hs.2 p.1 ne).trans e,n,ne,nf,d⟩
noncomputable abbrev Cx.marked (X:Cx) (a:Addr):Cx:={ X with A:=X.A.mark (some (.ref a)),calm:=false,xe:=λ_ _=>False }
theorem Inv.marked (I:Inv X pins σ H s)(a:Addr):Inv (X.marked a) pins σ H s:=
 ⟨⟨I.ok.mod,I.ok.kind,I.ok.glob,I.ok.blt,I.ok.above,I.ok.inj,I.ok.has,I.ok.cab,(λz=>by cases z),I.ok.frames,I.ok.stk,I.ok.sg,I.ok.bs,I.ok.jg,I.ok.mW,I.ok.oE,I.ok.iF,I.ok.k7⟩,I.os,I.bare,I.base,I.loc,I.cell,I.free,I.gO,I.pin,I.hok,I.len⟩
theorem Inv.unmarked(I:Inv (X.marked a) pins σ H s)(ok:X.Ok):Inv X pins σ H s:=⟨ok,I.os,I.bare,I.base,I.loc,I.cell,I.free,I.gO,I.pin,I.hok,I.len⟩
end
def Ends.un (D:Ends) (i:Nat):Ends:={ nx:=λσ H=>D.nx (σ.set i none) H,rt:=D.rt,bk:=λσ H=>D.bk (σ.set i none) H,ct:=λσ H=>D.ct (σ.set i none) H }
end L2
namespace L2
open Spec Calls PyProof.Rows W Builtin Builtin.ObjectAttr Builtin.Getset_descriptor
section
variable {prog:Program}{w:World}{A:Around}{E:Value->Shared->Prop}{K:Frag}{h:Heap}{g:Array GenState}{d:Drawn}{t:Nat}{os:OsState}{a C:Addr}{o:Obj}
end
end L2
namespace L2
open Spec PyProof.Rows
section
variable {X:Cx}{es:List Expr}{n k:Nat}{t:St->Hp->Prop}{pos:Pos}
end
noncomputable def eS (x:Str):List Key:=[Sum.inr x]
theorem yx (x y:Str):eA (eS x) (eS y)=decide (x.cps.toList<y.cps.toList):=by
 unfold eS;rw[nt];by_cases e:(Sum.inr x:Key)=Sum.inr y
 . rw[if_pos e];have e:=Sum.inr.inj e;subst e;have h:¬x.cps.toList<x.cps.toList:=Q2z _;rw[decide_eq_false h];rfl
 . rw[if_neg e];rfl
theorem tQ {ss:List Str}(r:Vals (ss.map V.str) us)(hi:i<us.length):∃x t,us.getD i Value.none=.str x t/\(ss.map eS).getD i []=eS x:=by
 have hl:=r.length;rw[Q01] at hl;have h1:(ss.map V.str)[i]? =some (V.str (ss[i]'(by omega))):=by rw[Q0g,Q03 (by omega)];rfl
 obtain⟨u,e1,t,e2⟩:=r.get h1;subst e2;refine⟨ss[i]'(by omega),t,by rw[Q0f,e1];rfl,?_⟩;rw[Q0f,Q0g,Q03 (by omega)];rfl
theorem FV {prog:Program}{ss:List Str}(r:Vals (ss.map V.str) us):Asks prog w A s us (O:=nv) (λi=>(ss.map eS).getD i []):=by
 intro h2;refine W.kas_kind (T:=.type "str") h2 (λv hv=>?_) rfl rfl ⟨rfl,λi j C hi hj q=>?_⟩
 . obtain⟨i,hi,e⟩:=Q0z hv;obtain⟨x,t,e1,_⟩:=tQ r hi;rw[Q0f,Q03 hi] at e1;have e1:us[i]=.str x t:=e1;rw[<-e,e1];exact W.Looks.of_pure rfl
 . unfold W.kas_ask;obtain⟨x,t,e1,e2⟩:=tQ r hi;obtain⟨y,u,e3,e4⟩:=tQ r hj;rw[e1,e3];refine W.kas_lt_str ?_;have q:C (eA ((ss.map eS).getD i []) ((ss.map eS).getD j [])) s:=q;rw[e2,e4,yx] at q;exact q
def tR (K:PySem.W.Frag) (P:Addr) (lp:Pos) (qual:Str) (te:TE) (σ:St) (Q:VK):VK:=λx H1=>∃a xs,x=.ref a/\cM K H1 a xs/\xs.length<64/\dc P lp qual H1/\
 ∀c' H2,kz P lp qual c' H2->(∀b o,b≠P->H1 b=some o->H2 b=some o)->
 ∃W:List V->Hp->Prop,W [] H2/\(∀ks H3,W ks H3->kz P lp qual c' H3)/\(∀ks H3 y,W ks H3->xs[ks.length]? =some y->te (some y::σ) H3 λk H4=>W (ks++[k]) H4)/\
 ∀ks H3,W ks H3->ks.length=xs.length->∃ss:List Str,ks=ss.map V.str/\∀p:List Nat,p.Perm (List.range xs.length)->(p.map λi=>(ss.map eS).getD i []).Pairwise iS->∀D,H3 D=none->Q (.ref D) (upd H3 D (.lst (p.map λi=>xs.getD i .non)))
def FW (K:W.Frag) (P:Addr) (lp:Pos) (qual:Str) (tl te:TE):TE:=λσ H Q=>tl σ H (tR K P lp qual te σ Q)
section
variable {X:Cx}
theorem FX(hg:Gl X "sorted")(hm:X.mg "sorted"=none)(hv:bootBuiltins "sorted"=some (.builtin "sorted"))(hr:d4 k X.A)(hq:X.env.qual++"<lambda>"=qual)(ab:X.env.code=.ref c)(C:PySem.W.CodeHd X.base c P)
 (B:BM X.mg X.base) (S:lg X x N' scope) (af:defaultsOf params X.env=([],[])) (hb:∀(cl:List (Str × Addr)) (pm:Value) (c':Addr) (aa u:Value),bindArgs (PySem.W.kla_fn "<lambda>" qual params body scope cl pm (.ref c') aa) ⟨[u],[]⟩=pure [(x,u)])
 (hl:PE X l tl) (he:∀(cl:List (Str × Addr)) (f c':Addr) (s:Shared) (H:Hp),PE (o9 X x N' scope cl qual f c' s H) body te) (hs:starEach [l] X.env=[(false,eval l X.env)]:=by rfl):
 PE X (.Call (.Name "sorted" p) [l] [⟨some "key",.Lambda params body scope lp,kp⟩] pos) (FW X.K P lp qual tl te):=by
 intro pins s σ H Q I h;refine wpAny_Call_Name_kw (jD I hg hm hv ?_);have ha:PA X [l] (fA tl gU):=a_ hl cG (by rw[hs];rfl);refine callWith_kw (dg (ha pos pins s σ H (λvs H1=>match vs with|[x]=>tR X.K P lp qual te σ Q x H1|_=>False) I h) λus s1 zq=>?_) (by rw[hs];rfl) (by rw[hs];rfl);obtain⟨vs,H1,I1,r1,q1⟩:=zq
 obtain⟨x',rfl⟩:∃x',vs=[x']:=by
  match vs,q1 with
  |[x'],_=>exact⟨x',rfl⟩
 have q1:tR X.K P lp qual te σ Q x' H1:=q1;obtain⟨a,xs,rfl,ai,aj,T,cont⟩:=q1;obtain⟨u,rfl,ru⟩:=vals1 r1
 cases ru;show wpAny _ _ (evalAll [do let v <-eval (.Lambda params body scope lp) X.env;standAt pos;pure v]) _ _ s1;obtain⟨cl,ae,ag,ah⟩:=qL (scope:=scope) (env:=X.env) λy hy hf=>I1.ok.has y.1 (S.free y hy hf);refine wpAny_evalAll_cons (Q00 (PySem.W.kla_eval af ?_));rw[hq];refine ya I1 ab C B T ae λf c' pm aa H2 s2 I2 ak mono=>?_;refine Q00 (wpAny_standAt (Q0a (wpAny_evalAll_nil ?_)));show wpAny _ _ (call (.builtin "sorted") [.ref a] [(Str.ofString "key",.ref f)]) _ _ s2;obtain⟨W,w0,wL,wt,wf⟩:=cont c' H2 ak mono
 have ao:∃ps,H1 P=some (.eX ps):=by
  rcases T with e|⟨c₂,e,_⟩
  . exact⟨_,e⟩
  . exact⟨_,e⟩
 have aq:cM X.K H2 a xs:=by
  obtain⟨ps,hP⟩:=ao;rcases ai with(z|⟨o,z⟩)|z
  . exact .inl (.inl (mono a _ (eK z hP (by intro z;cases z)) z))
  . exact .inl (.inr ⟨o,mono a _ (eK z hP (by intro z;cases z)) z⟩)
  . exact .inr z
 refine dg (yi (Q:=Q) (W:=W) I2 aq aj w0 (λpl s' H' ks y u J wk hy ry=>?_) λpl s' H' ks us J wk hlen rk=>?_) λr s' ⟨v,H',J,rv,q⟩=>⟨v,H',J.j_,rv,q⟩
 . exact ye J S hr.hd hr.depth ag ah (Q0o _ (Q07 _ Q04)) (wL ks H' wk).2 (hb cl pm c' aa) ry (he cl f c') (wt ks H' y wk hy)
 . obtain⟨ss,k1,k3⟩:=wf ks H' wk hlen;subst k1;exact⟨nv,_,FV rk,λp p1 p2 D hD=>k3 p p1 p2 D hD⟩
end
variable {P:Program}{w:World}{K:W.Frag}{mg:Str->Option Value}{base:Heap}
section
variable {X:Cx}
end
theorem o3.qS {x qual:Str}{st:Stmt}{fd:FuncData}{N ps:List Str}(F:o3 K x qual st f fd)(hc:fd.code=.ref c)(S:ng N ps (eP st))(len:∀vs H Q E,sp vs H Q E->vs.length=ps.length)
 (aa:∀(A:Around) (outer:List Env) (s:Shared) (H:Hp) (vs:List V) (Q:VK) (E:XK),d4 k (A.deeper (envOfC qual (eP st) s.heap.objs.size f (.ref c)))->sp vs H Q E->
   ∃t,g9 (cY cH P w K mg base N qual (eP st) f (.ref c) A outer s H E).c7 (k5 st) t/\t { nx:=λ_ H'=>Q .non H',rt:=Q } (start N vs) H):fY P w K mg base cH (k+1) f fd ps sp:=by
 obtain⟨oc,od,kV,doc,pm,an,ab,ct,ag,rfl,lk,ae⟩:=F.ex;have hc:ab=.ref c:=hc;subst hc;refine Ec lk ae S len λA outer s H vs Q E hr af=>?_;obtain⟨t,h,q⟩:=aa A outer s H vs Q E hr af;exact⟨t,h.c7,q⟩
def qT (tabs:List Addr) (H:Hp):Prop:=∀b,H b=none\/(∃o xs,H b=some (.e_ o (.lst xs)))\/(b∈tabs/\H b=some (.eX #[]))
theorem FY
 (KX:K.In aa.heap) (hT:W.TabsAt tabs aa.heap) (aw:W.noTabs K=true) (ax:BM mg aa.heap) (aj:aa.heap.Ns mainGlobals mg) (hb:aa.heap.Ns builtinsNs mb) (ay:∀x:Str,x≠"__name__"->mb x=bootBuiltins x) (au:aa.heap.NoLimit) (hg:aa.gens=#[])
 (ha:aa.heap.get? a=some { cls:=.type "list",data:=.seq vs.toArray }) (hi:IntsAre vs ns) (hl:ns.length<=sizeLine) (hr:d4 k callerA)
 (F:∀base:Heap,K.In base->base.Ns mainGlobals mg->BM mg base->fY P w K mg base CX k fa fd [x] sp) (ai:∀(s:Shared) (u:Value),BindsTo s fd ⟨[u],[]⟩ [(x,u)])
 (az:∀H:Hp,qT (tabs.map (·.2)) H->(∀q∈tabs,H q.2=some (.eX #[]))->cM K H a (ns.map V.int)->sp [.ref a] H (λv _=>v=.bl true) λ_ _ _=>False)
 (aA:∀H e s',CX [] H aa (λ_ _ _=>False) e s'->False):
 codeAny (model P w) callerA (.call (.ref fa) ⟨[.ref a],[]⟩) (λr s'=>r=.ok (.ret (.bool true))/\OldK aa.heap s'.heap/\s'.os=aa.os/\AllBare s'.gens) aa:=by
 have rv:=xB hi;have av:=hi.length
 have ae:∀b,b∈tabs.map (·.2)->aa.heap.get? b=some (W.tabObj #[]):=λb hm=>by
  obtain⟨q,hq,rfl⟩:=List.mem_map.mp hm;exact(hT q hq).2
 have ak:a ∉ tabs.map (·.2):=λhm=>by
  have:=ae a hm;rw[ha] at this;cases this
 have core:∀H:Hp,qT (tabs.map (·.2)) H->(∀q∈tabs,H q.2=some (.eX #[]))->cM K H a (ns.map V.int)->eL P w H aa.heap->(∀b,H b≠none->b=a\/b∈tabs.map (·.2))->(H a≠none->K.lookup a=none)->
  codeAny (model P w) callerA (.call (.ref fa) ⟨[.ref a],[]⟩) (λr s'=>r=.ok (.ret (.bool true))/\OldK aa.heap s'.heap/\s'.os=aa.os/\AllBare s'.gens) aa:=by
  intro H hO ao hS aq hA hK;have ab:∀{b:Addr} {o:Obj},aa.heap.get? b=some o->H b=none->(jC aa.heap H).get? b=some o:=λe n=>C4 e n
  have other:∀{b:Addr} {o:Obj},aa.heap.get? b=some o->(∀us n,o.data≠ .seq us n)->(∀us,o.data≠ .fields us)->H b=none:=λ{b o} e d1 d2=>by
   cases q:H b with
   |none=>rfl
   |some u=>
    rcases hA b (by rw[q];simp) with e'|e'
    . subst e';rw[ha] at e;cases e;exact absurd rfl (d1 _ _)
    . rw[ae b e'] at e;cases e;exact absurd rfl (d2 _)
  have ag:∀{b:Addr} {m:Str->Option Value},aa.heap.Ns b m->(jC aa.heap H).Ns b m:=λ{b m} ⟨o,es,ep,e,d,r⟩=>⟨o,es,ep,ab e (other e (by rw[d];intro us n z;cases z) (by rw[d];intro us z;cases z)),d,r⟩
  have ar:K.In (jC aa.heap H):=λb o e=>ab (KX b o e) (by
   cases q:H b with
   |none=>rfl
   |some u=>
    rcases hA b (by rw[q];simp) with e'|e'
    . subst e';rw[hK (by rw[q];simp)] at e;cases e
    . have e2:=KX b o e;rw[ae b e'] at e2;cases e2;have:=List.all_eq_true.mp aw _ (W.mem_of_lookupK e);simp at this)
  have hM:Mod K mg (jC aa.heap H):=⟨ar,ag aj,⟨mb,ag hb,ay⟩,let⟨mc,h1,h2⟩:=au;⟨mc,ag h1,h2⟩⟩
  have aB:BM mg (jC aa.heap H):=by
   obtain⟨bm,o,b1,b2,b3,b4,b5,b6,b7⟩:=ax;exact⟨bm,o,b1,b2,b3,ab b4 (other b4 (by rw[b7];intro us n z;cases z) (by rw[b7];intro us z;cases z)),b5,b6,b7⟩
  have e0:ma P w K mg (jC aa.heap H) callerA [] aa H:=⟨rfl,hM,λb o e=>C5 e,Q1v (C3 _ _),trivial,λb hb=>absurd (show b∈([]:List Addr) from hb) (by simp),aq,.of_eq hg⟩;refine codeAny_mono ((F _ ar (ag aj) aB).run callerA [] aa H ⟨[.ref a],[]⟩ [.ref a] [.ref a] _ _ hr e0 (ai aa (.ref a)) (.cons rfl .nil) (az H hO ao hS)) λr s' h=>?_
  cases r with
  |error e=>exact(aA H e s' h).elim
  |ok fl=>
   cases fl with
   |next=>exact False.elim h
   |brk=>exact False.elim h
   |cont=>exact False.elim h
   |ret u=>
    obtain⟨v,H',os,bare,un,ah,r',q⟩:=h;have q':v=.bl true:=q;subst q';obtain rfl:u=Value.bool true:=r'
    have grown:∀b,b∈tabs.map (·.2)->∃ps,s'.heap.get? b=some (W.tabObj ps):=λb hm=>by
     obtain⟨q,hq,rfl⟩:=List.mem_map.mp hm;obtain⟨more,e⟩:=un.iE _ _ (ao q hq);exact⟨_,ah _ _ e⟩
    have keep:∀b o,b ∉ tabs.map (·.2)->aa.heap.get? b=some o->s'.heap.get? b=some o:=λb o hb e=>by
     cases q:H b with
     |none=>exact un.keep b o e q (by intro z;exact absurd (show b∈([]:List Addr) from z) (by simp)) (by simp)
     |some u=>
      rcases hO b with z|⟨ob,xs,z⟩|⟨z,_⟩
      . rw[q] at z;cases z
      . have z2:=un.ip b ob _ z;obtain⟨e1,_⟩:=aq b _ z;obtain⟨e2,_⟩:=ah b _ z2;rw[e] at e1;cases e1;exact e2
      . exact absurd z hb
    refine⟨rfl,⟨λb o e=>?_,λb o e=>?_⟩,os,bare⟩
    . by_cases hb:b∈tabs.map (·.2)
      . obtain⟨ps,hP⟩:=grown b hb;have e2:=ae b hb;rw[e] at e2;cases e2;obtain⟨q,hq,rfl⟩:=List.mem_map.mp hb;exact .inr (.inl ⟨((hT q hq).1.tab (hT q hq).2).isCodeTable,rfl,#[],ps,rfl,by rw[Q2n];exact hP⟩)
      . exact .inl (keep b o hb e)
    . by_cases hb:b∈tabs.map (·.2)
      . obtain⟨ps,hP⟩:=grown b hb;exact⟨_,hP⟩
      . exact⟨o,keep b o hb e⟩
 cases hk:K.lookup a with
 |some o=>
  have e:=KX a o hk;rw[ha] at e
  cases e;refine core (λb=>if b∈tabs.map (·.2) then some (.eX #[]) else none) (λb=>?_) (λq hq=>if_pos (Q31 hq)) (.inr ⟨_,vs.toArray,_,hk,rfl,rfl,rfl,by rw[Q05,av];exact hl,by simpa using rv⟩) (λb u z=>?_) (λb z=>?_) λz=>absurd (if_neg ak) z
  . by_cases hb:b∈tabs.map (·.2)
    . exact .inr (.inr ⟨hb,if_pos hb⟩)
    . exact .inl (if_neg hb)
  . by_cases hb:b∈tabs.map (·.2)
    . have z':=(if_pos hb).symm.trans z
      cases z';exact ae b hb
    . have z':=(if_neg hb).symm.trans z
      cases z'
  . by_cases hb:b∈tabs.map (·.2)
    . exact .inr hb
    . exact absurd (if_neg hb) z
 |none=>
  refine core (λb=>if b∈tabs.map (·.2) then some (.eX #[]) else if b=a then some (.e_ { cls:=.type "list",data:=.seq vs.toArray } (.lst (ns.map V.int))) else none) (λb=>?_) (λq hq=>if_pos (Q31 hq))
   (.inl (.inr ⟨{ cls:=.type "list",data:=.seq vs.toArray },(if_neg ak).trans (if_pos rfl)⟩)) (λb u z=>?_) (λb z=>?_) λ_=>hk
  . by_cases hb:b∈tabs.map (·.2)
    . exact .inr (.inr ⟨hb,if_pos hb⟩)
    . by_cases af:b=a
      . exact .inr (.inl ⟨_,_,(if_neg hb).trans (if_pos af)⟩)
      . exact .inl ((if_neg hb).trans (if_neg af))
  . by_cases hb:b∈tabs.map (·.2)
    . have z':=(if_pos hb).symm.trans z
      cases z';exact ae b hb
    . have z:=(if_neg hb).symm.trans z;by_cases af:b=a
      . have z':=(if_pos af).symm.trans z
        cases z';subst af;exact⟨ha,by rw[Q01];exact hl,vs,_,rv,ha⟩
      . have z':=(if_neg af).symm.trans z
        cases z'
  . by_cases hb:b∈tabs.map (·.2)
    . exact .inr hb
    . by_cases af:b=a
      . exact .inl af
      . exact absurd ((if_neg hb).trans (if_neg af)) z
theorem FZ {l:W.OpenLaw}{n k:Nat}{q:Program}{loose:List Str}{XP:(Str->Option Value)->Heap->Prop}{YP:World->Heap->Prop}{d:DefRec}{K:Params->W.Frag}{sp:World->List (Addr × Addr)->Sp}{x:Str}{names:List Str}
 (hn:l.most=some n) (af:n<=sizeLine) (ag:d.params.defaults=[]) (hr:d4 k callerA)
 (hY:∀(w:World) (h:Heap),YP w h->(K w.params).In h) (ah:∀w:World,W.noTabs (K w.params)=true)
 (tb:∀w:World,∃tabs:List (Addr × Addr),(∀q'∈tabs,∃y∈names,W.tabIn (K w.params) y=some q')/\
   (∀(mg:Str->Option Value) (fa:Addr) (h:Heap),(K w.params).In h->h.Ns mainGlobals mg->mg d.name=some (.ref fa)->
   ∃fd:FuncData,(∀(s:Shared) (u:Value),BindsTo s fd ⟨[u],[]⟩ [(x,u)])/\
    ∀base:Heap,(K w.params).In base->base.Ns mainGlobals mg->BM mg base->fY l.prog w (K w.params) mg base cH k fa fd [x] (sp w tabs)))
 (ab:∀y∈names,∃d',(recsOf q).find? (λe=>e.name == y)=some d')
 (ai:∀(w:World) (tabs:List (Addr × Addr)) (H:Hp) (a:Addr) (ns:List Int),ns.length<=n->qT (tabs.map (·.2)) H->(∀q∈tabs,H q.2=some (.eX #[]))->cM (K w.params) H a (ns.map V.int)->sp w tabs [.ref a] H (λv _=>v=.bl true) λ_ _ _=>False):
 W.WalkO q loose XP YP l.row.toRowW d [] (λf vs=>PySem.call f vs):=by
 refine xA.EW hn ag λw s₀ aa mg mb fa o pm cd doc a vs ns G Y ho hd ar aj ae hints hlen hg=>?_;have KX:=hY w _ Y;obtain⟨tabs,ht,F⟩:=tb w;obtain⟨fd,hb,hF⟩:=F mg fa _ KX G.T.g aj
 have hT:W.TabsAt tabs aa.heap:=λq' hq=>by
  obtain⟨y,hy,ak⟩:=ht q' hq;obtain⟨d',ao⟩:=ab y hy;exact W.tab_of G.T KX ao ak
 have aq:BM mg aa.heap:=by
  obtain⟨bm,ob,b1,b2,b3,b4,b5,b6⟩:=G.T.bmain;refine⟨bm,ob,b1,b2,λz=>?_,b3,b4,b5,b6⟩;obtain⟨o',es,ep,e,hd,_⟩:=G.T.g;rw[z,e] at b3;cases b3;rw[hd] at b6;cases b6
 exact FY KX hT (ah w) aq G.T.g G.T.b G.T.builtins G.T.nolimit hg ae hints (Q0b hlen af) hr hF hb (λH hO hP hS=>ai w tabs H a ns hlen hO hP hS) λH e s' h=>h.elim
end L2
namespace Pb
open L2 PyProof.Rows
mutual
inductive Kd where
 |num
 |eu
 |c8 (fs:Fs)
 |rows (key by_:Str) (fs:Fs)
 |tree (k:Kd)
 |e8 (fs:Fs)
inductive Fs where
 |nil
 |cons (x:Str) (k:Kd) (r:Fs)
end
mutual
inductive D where
 |int (z:Int)
 |str (x:Str)
 |tup (xs:Ds)
 |lst (xs:Ds)
 |dct (m:Ds)
inductive Ds where
 |nil
 |cons (x:Str) (d:D) (r:Ds)
end
mutual
noncomputable def Kd.dep:Kd->Nat
 | .num=>1
 | .eu=>1
 | .c8 fs=>fs.dep+1
 | .rows _ _ fs=>fs.dep+1
 | .tree k=>k.dep+1
 | .e8 fs=>fs.dep+1
noncomputable def Fs.dep:Fs->Nat
 | .nil=>0
 | .cons _ k r=>max k.dep r.dep
end
mutual
noncomputable def D.dep:D->Nat
 | .int _=>1
 | .str _=>1
 | .tup xs=>xs.dep+1
 | .lst xs=>xs.dep+1
 | .dct m=>m.dep+1
noncomputable def Ds.dep:Ds->Nat
 | .nil=>0
 | .cons _ d r=>max d.dep r.dep
end
theorem Kd.jm (k:Kd):1<=k.dep:=by cases k <;> simp[Kd.dep]
theorem D.jm (d:D):1<=d.dep:=by cases d <;> simp[D.dep]
noncomputable def Fs.names:Fs->List Str
 | .nil=>[]
 | .cons x _ r=>x::r.names
noncomputable def Fs.get:Fs->Str->Option Kd
 | .nil,_=>none
 | .cons y k r,x=>if x=y then some k else r.get x
noncomputable def Fs.at:Fs->Nat->Option (Str × Kd)
 | .nil,_=>none
 | .cons x k _,0=>some (x,k)
 | .cons _ _ r,i+1=>r.at i
noncomputable def Fs.snoc:Fs->Str->Kd->Fs
 | .nil,x,k=>.cons x k .nil
 | .cons y q r,x,k=>.cons y q (r.snoc x k)
noncomputable def Fs.take:Fs->Nat->Fs
 | .nil,_=>.nil
 | .cons _ _ _,0=>.nil
 | .cons x k r,i+1=>.cons x k (r.take i)
theorem Fs.tT:∀(fs:Fs) (x:Str) (k:Kd),(fs.snoc x k).names=fs.names++[x]
 | .nil,_,_=>rfl
 | .cons y q r,x,k=>by
   show y::(r.snoc x k).names=_;rw[Fs.tT r x k];rfl
theorem Fs.tU:∀(fs:Fs) (x:Str) (k:Kd),(fs.snoc x k).dep=max fs.dep k.dep
 | .nil,_,k=>by simp[Fs.snoc,Fs.dep]
 | .cons y q r,x,k=>by
   show max q.dep (r.snoc x k).dep=max (max q.dep r.dep) k.dep;rw[Fs.tU r x k,Nat.max_assoc]
theorem Fs.lh:∀(fs:Fs) (i:Nat),fs.names[i]? =(fs.at i).map (·.1)
 | .nil,i=>by simp[Fs.names,Fs.at]
 | .cons x k r,0=>by simp[Fs.names,Fs.at]
 | .cons x k r,i+1=>by
   show(x::r.names)[i+1]? =_;rw[List.getElem?_cons_succ,Fs.lh r i];rfl
theorem Fs.yy:∀{fs:Fs}{i:Nat},i<fs.names.length->∃x k,fs.at i=some (x,k)
 | .nil,i,h=>by simp[Fs.names] at h
 | .cons x k r,0,h=>⟨x,k,rfl⟩
 | .cons x k r,i+1,h=>Fs.yy (fs:=r) (i:=i) (by simpa[Fs.names] using h)
theorem Fs.jN:∀{fs:Fs}{i:Nat}{x:Str}{k:Kd},fs.at i=some (x,k)->k.dep<=fs.dep
 | .nil,_,_,_,h=>by cases h
 | .cons x k r,0,_,_,h=>by
   cases h;exact Q2g _ _
 | .cons x k r,i+1,_,_,h=>Q0b (Fs.jN (fs:=r) (i:=i) h) (Q2h _ _)
theorem Fs.nz:∀{fs:Fs}{i:Nat}{x:Str}{k:Kd},fs.names.Nodup->fs.at i=some (x,k)->fs.get x=some k
 | .nil,_,_,_,_,h=>by cases h
 | .cons y q r,0,x,k,_,h=>by
   cases h;simp[Fs.get]
 | .cons y q r,i+1,x,k,nd,h=>by
   have nd:(y::r.names).Nodup:=nd;obtain⟨n1,n2⟩:=List.nodup_cons.mp nd;have h:r.at i=some (x,k):=h;have hm:x∈r.names:=Q16 (i:=i) (by rw[Fs.lh,h];rfl);show(if x=y then some q else r.get x)=some k;rw[if_neg (λe=>n1 (by rw[<-e];exact hm))];exact Fs.nz n2 h
theorem Fs.take_succ:∀{fs:Fs}{i:Nat}{x:Str}{k:Kd},fs.at i=some (x,k)->fs.take (i+1)=(fs.take i).snoc x k
 | .nil,_,_,_,h=>by cases h
 | .cons y q r,0,x,k,h=>by
   cases h
   cases r <;> rfl
 | .cons y q r,i+1,x,k,h=>by
   show Fs.cons y q (r.take (i+1))=Fs.cons y q ((r.take i).snoc x k);rw[Fs.take_succ (fs:=r) (i:=i) h]
theorem Fs.take_zero (fs:Fs):fs.take 0=.nil:=by cases fs <;> rfl
theorem Fs.take_all:∀(fs:Fs),fs.take fs.names.length=fs
 | .nil=>rfl
 | .cons x k r=>by
   show Fs.cons x k (r.take r.names.length)=_;rw[Fs.take_all r]
def ll:Kd->Prop
 | .num=>True
 | .eu=>True
 |_=>False
def Fs.pl (fs:Fs) (x:Str):Prop:=∃k,fs.get x=some k/\ll k
mutual
def Kd.W:Kd->Prop
 | .num=>True
 | .eu=>True
 | .c8 fs=>fs.names.Nodup/\fs.names.length<=60/\fs.W
 | .rows key aa fs=>fs.names.Nodup/\fs.names.length<=60/\fs.W/\fs.pl key/\(aa=""\/fs.pl aa)
 | .tree k=>k.W
 | .e8 fs=>fs.names.Nodup/\fs.names.length<=60/\1<=fs.names.length/\fs.W
def Fs.W:Fs->Prop
 | .nil=>True
 | .cons _ k r=>k.W/\r.W
end
theorem Fs.pd:∀{fs:Fs}{i:Nat}{x:Str}{k:Kd},fs.W->fs.at i=some (x,k)->k.W
 | .nil,_,_,_,_,h=>by cases h
 | .cons x k r,0,_,_,w,h=>by
   unfold Fs.W at w
   cases h;exact w.1
 | .cons x k r,i+1,_,_,w,h=>by
   unfold Fs.W at w;exact Fs.pd (fs:=r) (i:=i) w.2 h
theorem Fs.tV(hk:k.W):∀{fs:Fs},fs.W->(fs.snoc x k).W
 | .nil,_=>by
   show(Fs.cons x k .nil).W;unfold Fs.W;exact⟨hk,by unfold Fs.W;trivial⟩
 | .cons y q r,h=>by
   unfold Fs.W at h;show(Fs.cons y q (r.snoc x k)).W;unfold Fs.W;exact⟨h.1,Fs.tV hk h.2⟩
noncomputable def Ds.get:Ds->Str->Option D
 | .nil,_=>none
 | .cons y d r,x=>if x=y then some d else r.get x
noncomputable def keyOf (m:Ds) (x:Str):Key:=match m.get x with
 |some (.int z)=>.inl z
 |some (.str s)=>.inr s
 |_=>.inl 0
noncomputable def rankOf (key aa:Str) (m:Ds):List Key:=if aa="" then [keyOf m key] else [keyOf m aa,keyOf m key]
theorem F0(h:rankOf key aa a=rankOf key aa b):keyOf a key=keyOf b key:=by
 unfold rankOf at h;split at h
 . exact(List.cons.inj h).1
 . exact(List.cons.inj (List.cons.inj h).2).1
def nA (key aa:Str) (a b:Ds):Prop:=eA (rankOf key aa a) (rankOf key aa b)=true
def my (key aa:Str) (a b:Ds):Prop:=iS (rankOf key aa a) (rankOf key aa b)
noncomputable def ins (key aa:Str) (m:Ds):List Ds->List Ds
 |[]=>[m]
 |y::q=>if eA (rankOf key aa y) (rankOf key aa m)=true then y::ins key aa m q else m::y::q
noncomputable def lq (key aa:Str):List Ds->List Ds
 |[]=>[]
 |m::r=>ins key aa m (lq key aa r)
theorem tW (key aa:Str)(m:Ds):∀l:List Ds,(ins key aa m l).Perm (m::l)
 |[]=>List.Perm.refl _
 |y::q=>by
  unfold ins;split
  . exact((tW key aa m q).cons y).trans (List.Perm.swap m y q)
  . exact List.Perm.refl _
theorem kB (key aa:Str):∀l:List Ds,(lq key aa l).Perm l
 |[]=>List.Perm.refl _
 |m::r=>(tW key aa m _).trans ((kB key aa r).cons m)
theorem F1(h:eA a b=true):iS a b:=KeyOrd.kle_of_klt (O:=nv) h
theorem F2(h1:iS a b)(h2:iS b c):iS a c:=KeyOrd.kle_trans (O:=nv) h1 h2
theorem yz (key aa:Str)(m:Ds):∀{l:List Ds},l.Pairwise (my key aa)->(ins key aa m l).Pairwise (my key aa)
 |[],_=>Q2 _ _
 |y::q,h=>by
  obtain⟨h1,h2⟩:=List.pairwise_cons.mp h;unfold ins;by_cases c:eA (rankOf key aa y) (rankOf key aa m)=true
  . rw[if_pos c];refine List.pairwise_cons.mpr ⟨λz hz=>?_,yz key aa m h2⟩;rcases List.mem_cons.mp ((tW key aa m q).mem_iff.mp hz) with e|e
    . rw[e];exact F1 c
    . exact h1 z e
  . rw[if_neg c];have c':my key aa m y:=by unfold my iS;simpa using c
    refine List.pairwise_cons.mpr ⟨λz hz=>?_,h⟩;rcases List.mem_cons.mp hz with e|e
    . rw[e];exact c'
    . exact F2 c' (h1 z e)
theorem tX (key aa:Str):∀l:List Ds,(lq key aa l).Pairwise (my key aa)
 |[]=>List.Pairwise.nil
 |m::r=>yz key aa m (tX key aa r)
theorem tY {key aa:Str}{l:List Ds}(h:l.Pairwise (my key aa))(nd:(l.map λm=>keyOf m key).Nodup):l.Pairwise (nA key aa):=by
 have ab:l.Pairwise λa b=>keyOf a key≠keyOf b key:=List.pairwise_map.mp nd;refine(h.and ab).imp λ{a b} ⟨h1,h2⟩=>?_;rcases o_ (rankOf key aa a) (rankOf key aa b) with q|q|q
 . exact q
 . exact absurd (F0 q) h2
 . have h1:eA (rankOf key aa b) (rankOf key aa a)=false:=h1;rw[h1] at q;cases q
theorem yA:∀{l1 l2:List Ds},l1.Perm l2->l1.Pairwise (nA key aa)->l2.Pairwise (nA key aa)->l1=l2
 |[],l2,p,_,_=>by rw[p.nil_eq]
 |a::r,[],p,_,_=>absurd p.length_eq (by simp)
 |a::r,b::q,p,h1,h2=>by
  obtain⟨a1,a2⟩:=List.pairwise_cons.mp h1;obtain⟨b1,b2⟩:=List.pairwise_cons.mp h2
  have e:a=b:=by
   have ha:a∈b::q:=p.mem_iff.mp Q04;have hb:b∈a::r:=p.mem_iff.mpr Q04;rcases List.mem_cons.mp ha with e|e
   . exact e
   . rcases List.mem_cons.mp hb with e'|e'
     . exact e'.symm
     . have z:=nu _ _ _ (a1 b e') (b1 a e);rw[qR] at z;cases z
  subst e;rw[yA ((Q32 a).mp p) a2 b2]
theorem F3(p:z.Perm l)(h:z.Pairwise (my key aa))(nd:(l.map λm=>keyOf m key).Nodup):z=lq key aa l:=
 yA (p.trans (kB key aa l).symm) (tY h ((p.map _).nodup_iff.mpr nd)) (tY (tX key aa l) (((kB key aa l).map _).nodup_iff.mpr nd))
noncomputable def fM:List Ds->Ds
 |[]=>.nil
 |m::r=>.cons "" (.dct m) (fM r)
noncomputable abbrev pairD (a b:D):D:=.tup (.cons "" a (.cons "" b .nil))
mutual
def Tree (P:D->Prop):D->Prop
 | .tup xs=>iV P xs
 |_=>False
def iV (P:D->Prop):Ds->Prop
 | .cons _ t (.cons _ (.lst as) .nil)=>P t/\gh P as
 |_=>False
def gh (P:D->Prop):Ds->Prop
 | .nil=>True
 | .cons _ d r=>Tree P d/\gh P r
end
mutual
def d8:Kd->D->Prop
 | .num,d=>∃z,d=.int z
 | .eu,d=>∃x,d=.str x
 | .c8 fs,d=>∃m,d=.dct m/\fk fs m
 | .rows key aa fs,d=>∃rs:List Ds,d=.lst (fM rs)/\(∀m∈rs,fk fs m)/\rs.Pairwise (nA key aa)/\(rs.map λm=>keyOf m key).Nodup
 | .tree k,d=>Tree (d8 k) d
 | .e8 fs,d=>∃x v,d=pairD (.str x) v/\iX fs x v
def fk:Fs->Ds->Prop
 | .nil,m=>m=.nil
 | .cons x k r,m=>∃d q,m=.cons x d q/\d8 k d/\fk r q
def iX:Fs->Str->D->Prop
 | .nil,_,_=>False
 | .cons y k r,x,v=>(x=y/\d8 k v)\/(x≠y/\iX r x v)
end
theorem Tree.shape:∀{d:D},Tree P d->∃x y t as,d=.tup (.cons x t (.cons y (.lst as) .nil))/\P t/\gh P as
 | .tup (.cons x t (.cons y (.lst as) .nil)),h=>by
   unfold Tree iV at h;exact⟨x,y,t,as,rfl,h.1,h.2⟩
 | .tup .nil,h=>by unfold Tree iV at h;exact h.elim
 | .tup (.cons _ _ .nil),h=>by unfold Tree iV at h;exact h.elim
 | .tup (.cons _ _ (.cons _ (.int _) _)),h=>by unfold Tree iV at h;exact h.elim
 | .tup (.cons _ _ (.cons _ (.str _) _)),h=>by unfold Tree iV at h;exact h.elim
 | .tup (.cons _ _ (.cons _ (.tup _) _)),h=>by unfold Tree iV at h;exact h.elim
 | .tup (.cons _ _ (.cons _ (.dct _) _)),h=>by unfold Tree iV at h;exact h.elim
 | .tup (.cons _ _ (.cons _ (.lst _) (.cons _ _ _))),h=>by unfold Tree iV at h;exact h.elim
 | .int _,h=>by unfold Tree at h;exact h.elim
 | .str _,h=>by unfold Tree at h;exact h.elim
 | .lst _,h=>by unfold Tree at h;exact h.elim
 | .dct _,h=>by unfold Tree at h;exact h.elim
theorem fk.get:∀{fs:Fs}{m:Ds}{x:Str}{k:Kd},fk fs m->fs.get x=some k->∃d,m.get x=some d/\d8 k d
 | .nil,_,_,_,_,h=>by cases h
 | .cons y q r,m,x,k,f,h=>by
   unfold fk at f;obtain⟨d,t,rfl,f1,f2⟩:=f;have h:(if x=y then some q else r.get x)=some k:=h;by_cases e:x=y
   . rw[if_pos e] at h
     cases h;exact⟨d,by show(if x=y then some d else t.get x)=_;rw[if_pos e],f1⟩
   . rw[if_neg e] at h;obtain⟨d',g1,g2⟩:=fk.get f2 h;exact⟨d',by show(if x=y then some d else t.get x)=_;rw[if_neg e];exact g1,g2⟩
theorem fk.plain(f:fk fs m)(h:fs.pl x):(m.get x=some (.int 0)\/True)/\((∃z,m.get x=some (.int z)/\keyOf m x=.inl z/\fs.get x=some .num)\/∃s,m.get x=some (.str s)/\keyOf m x=.inr s/\fs.get x=some .eu):=by
 refine⟨.inr trivial,?_⟩;obtain⟨k,h1,h2⟩:=h;obtain⟨d,g1,g2⟩:=f.get h1
 cases k with
 |num=>
  unfold d8 at g2;obtain⟨z,rfl⟩:=g2;exact .inl ⟨z,g1,by unfold keyOf;rw[g1],h1⟩
 |eu=>
  unfold d8 at g2;obtain⟨s,rfl⟩:=g2;exact .inr ⟨s,g1,by unfold keyOf;rw[g1],h1⟩
 |c8 _=>exact h2.elim
 |rows _ _ _=>exact h2.elim
 |tree _=>exact h2.elim
 |e8 _=>exact h2.elim
theorem yB:∀{fs:Fs}{x:Str}{v:D},iX fs x v->x∈fs.names
 | .nil,_,_,h=>by unfold iX at h;exact h.elim
 | .cons y k r,x,v,h=>by
   unfold iX at h;rcases h with⟨e,_⟩|⟨_,h⟩
   . rw[e];exact Q04
   . exact Q09 _ (yB h)
noncomputable def jn:Option Kd->Bool
 |some .num=>true
 |_=>false
theorem fk.tag(f:fk fs m)(h:fs.pl x):eJ (keyOf m x)=jn (fs.get x):=by
 rcases(f.plain h).2 with⟨z,_,e,g⟩|⟨s,_,e,g⟩ <;> rw[e,g] <;> rfl
theorem F4 {fs:Fs}{key aa:Str}(f:fk fs m)(h1:fs.pl key)(h2:aa=""\/fs.pl aa):(rankOf key aa m).map eJ=if aa="" then [jn (fs.get key)] else [jn (fs.get aa),jn (fs.get key)]:=by
 unfold rankOf;split
 . show [eJ (keyOf m key)]=_;rw[f.tag h1]
 . rename_i e;rcases h2 with z|z
   . exact absurd z e
   . show [eJ (keyOf m aa),eJ (keyOf m key)]=_;rw[f.tag h1,f.tag z]
noncomputable def cellAt (ns:List Int) (n:Int):Int:=if 0<ns.length then ns.getD (n % (ns.length:Int)).toNat 0 else 0
noncomputable def nx (ns:List Int) (n:Int):Int:=
 ((cellAt ns n % 2147483647+n * n * 7919+11) * 48271 % 2147483647) * ((cellAt ns n % 2147483647+n * n * 7919+11) * 48271 % 2147483647) % 1999999973
theorem tZ (ns:List Int)(n:Int):0<=nx ns n:=Q0k _ (by decide)
theorem t9 (ns:List Int)(n:Int):nx ns n<1999999973:=Q0l _ (by decide)
noncomputable def num (ns:List Int) (n:Int):Int:=
 if nx ns n % 3=0 then nx ns n / 3 % 7 - 3 else(cellAt ns n % 10 ^ 40+nx ns n * 10 ^ 29) % (2 * 10 ^ 40) - 10 ^ 40
noncomputable def iY:Str:=" !#$&'()*+,-./0123456789:;<=>?@ABCDEFGHIJKLMNOPQRSTUVWXYZ"++"[\\]^_`abcdefghijklmnopqrstuvwxyz{|}~"
noncomputable def nB (m:Int):Nat->Str
 |0=>""
 |k+1=>nB m k++⟨#[(iY.cps.toList.getD ((m / 145+(k:Int) * (k:Int) * (m / 7 % 3)) % 93).toNat 0)]⟩
noncomputable def eu (ns:List Int) (n:Int):Str:=nB (nx ns n) (if nx ns n / 5 % 29=0 then 40 else(nx ns n % 5).toNat)
noncomputable def times (g:Int->D × Int):Nat->Int->Ds × Int
 |0,n=>(.nil,n)
 |m+1,n=>(.cons "" (g n).1 (times g m (g n).2).1,(times g m (g n).2).2)
noncomputable def ff (ns:List Int) (f:Nat->Int->D × Int):Nat->Nat->Int->D × Int
 |0,_,n=>(.int 0,n)
 |fu+1,room,n=>
  (pairD (f (room / 2) n).1 (.lst (times (ff ns f fu (room / 2)) (nx ns ((f (room / 2) n).2+1) % ((room:Int)+1)).toNat ((f (room / 2) n).2+1)).1),
    (times (ff ns f fu (room / 2)) (nx ns ((f (room / 2) n).2+1) % ((room:Int)+1)).toNat ((f (room / 2) n).2+1)).2)
noncomputable def lu (key:Str) (l:List Ds) (k:Key):Bool:=l.any λr=>decide (keyOf r key=k)
noncomputable def dY (g:Int->Ds × Int) (key:Str):Nat->List Ds->Int->List Ds × Int
 |0,acc,n=>(acc,n)
 |m+1,acc,n=>if lu key acc (keyOf (g n).1 key)=true then dY g key m acc (g n).2 else dY g key m (acc++[(g n).1]) (g n).2
mutual
noncomputable def val (ns:List Int):Kd->Nat->Int->D × Int
 | .num,_,n=>(.int (num ns (n+1)),n+1)
 | .eu,_,n=>(.str (eu ns (n+1)),n+1)
 | .c8 fs,room,n=>(.dct (dw ns fs room n).1,(dw ns fs room n).2)
 | .rows key aa fs,room,n=>
   (.lst (fM (lq key aa (dY (dw ns fs (room / 2)) key (nx ns (n+1) % ((room:Int)+1)).toNat [] (n+1)).1)),(dY (dw ns fs (room / 2)) key (nx ns (n+1) % ((room:Int)+1)).toNat [] (n+1)).2)
 | .tree k,room,n=>ff ns (val ns k) 4 room n
 | .e8 fs,room,n=>fZ ns fs (nx ns (n+1) % (fs.names.length:Int)).toNat room (n+1)
noncomputable def dw (ns:List Int):Fs->Nat->Int->Ds × Int
 | .nil,_,n=>(.nil,n)
 | .cons x k r,room,n=>(.cons x (val ns k room n).1 (dw ns r room (val ns k room n).2).1,(dw ns r room (val ns k room n).2).2)
noncomputable def fZ (ns:List Int):Fs->Nat->Nat->Int->D × Int
 | .nil,_,_,n=>(.int 0,n)
 | .cons x k _,0,room,n=>(pairD (.str x) (val ns k room n).1,(val ns k room n).2)
 | .cons _ _ r,i+1,room,n=>fZ ns r i room n
end
theorem qU:∀(m:Nat) (acc:List Ds) (n:Int),(acc.map λr=>keyOf r key).Nodup->((dY g key m acc n).1.map λr=>keyOf r key).Nodup
 |0,_,_,h=>h
 |m+1,acc,n,h=>by
  unfold dY;split
  . exact qU m acc _ h
  . rename_i c;refine qU m _ _ ?_;rw[Q0h];refine List.nodup_append.mpr ⟨h,by simp,λa ha b hb=>?_⟩;have:b=keyOf (g n).1 key:=by simpa using hb
    rw[this];obtain⟨r,hr,e⟩:=List.mem_map.mp ha;exact λe2=>c (List.any_eq_true.mpr ⟨r,hr,decide_eq_true (e.trans e2)⟩)
theorem nE {g:Int->Ds × Int}{R:Ds->Prop}(hg:∀n,R (g n).1):∀(m:Nat) (acc:List Ds) (n:Int),(∀r∈acc,R r)->∀r∈(dY g key m acc n).1,R r
 |0,_,_,h=>h
 |m+1,acc,n,h=>by
  unfold dY;split
  . exact nE hg m acc _ h
  . refine nE hg m _ _ λr hr=>?_;rcases List.mem_append.mp hr with q|q
    . exact h r q
    . have:r=(g n).1:=by simpa using q
      rw[this];exact hg n
theorem yC(hg:∀n,Tree P (g n).1):∀(m:Nat) (n:Int),gh P (times g m n).1
 |0,_=>by unfold times gh;trivial
 |m+1,n=>by
  unfold times gh;exact⟨hg n,yC hg m _⟩
theorem yD(hf:∀room n,room<8->P (f room n).1):∀(fu room:Nat) (n:Int),room<8->room<2 ^ fu->Tree P (ff ns f (fu+1) room n).1
 |0,room,n,_,h=>by
  have e:room=0:=by simpa using h
  subst e;unfold ff
  have e0:(nx ns ((f (0 / 2) n).2+1) % (((0:Nat):Int)+1)).toNat=0:=by
   have:nx ns ((f (0 / 2) n).2+1) % (((0:Nat):Int)+1)=0:=by
    show _ % (1:Int)=0;exact Int.emod_one _
   rw[this];rfl
  rw[e0];unfold Tree iV;exact⟨hf _ _ (by decide),by unfold times gh;trivial⟩
 |fu+1,room,n,h8,h=>by
  have ih:=λm=>yD (ns:=ns) hf fu (room / 2) m (by omega) (by rw[Nat.pow_succ] at h;omega);unfold ff;unfold Tree iV;exact⟨hf _ _ (by omega),yC ih _ _⟩
mutual
theorem ph (ns:List Int):∀(k:Kd),k.W->∀(room:Nat) (n:Int),room<8->d8 k (val ns k room n).1
 | .num,_,room,n,_=>by unfold val d8;exact⟨_,rfl⟩
 | .eu,_,room,n,_=>by unfold val d8;exact⟨_,rfl⟩
 | .c8 fs,w,room,n,h=>by
   unfold Kd.W at w;unfold val d8;exact⟨_,rfl,pj ns fs w.2.2 room n h⟩
 | .rows key aa fs,w,room,n,h=>by
   unfold Kd.W at w;unfold val d8;have nd:=qU (g:=dw ns fs (room / 2)) (key:=key) (nx ns (n+1) % ((room:Int)+1)).toNat [] (n+1) Q0s;refine⟨_,rfl,λm hm=>?_,?_,?_⟩
   . exact nE (R:=fk fs) (λn=>pj ns fs w.2.2.1 (room / 2) n (by omega)) _ _ _ (λr hr=>absurd hr (by simp)) m ((kB key aa _).mem_iff.mp hm)
   . exact tY (tX key aa _) (((kB key aa _).map _).nodup_iff.mpr nd)
   . exact((kB key aa _).map _).nodup_iff.mpr nd
 | .tree k,w,room,n,h=>by
   unfold Kd.W at w;unfold val d8;exact yD (λroom n h=>ph ns k w room n h) 3 room n h (by simpa using h)
 | .e8 fs,w,room,n,h=>by
   unfold Kd.W at w;unfold val d8
   have hl:(nx ns (n+1) % (fs.names.length:Int)).toNat<fs.names.length:=by
    have:=Q0l (nx ns (n+1)) (show(0:Int)<fs.names.length by omega);have:=Q0k (nx ns (n+1)) (show(fs.names.length:Int)≠0 by omega);omega
   exact yE ns fs w.2.2.2 w.1 _ room _ h hl
theorem pj (ns:List Int):∀(fs:Fs),fs.W->∀(room:Nat) (n:Int),room<8->fk fs (dw ns fs room n).1
 | .nil,_,_,_,_=>by unfold dw fk;rfl
 | .cons x k r,w,room,n,h=>by
   unfold Fs.W at w;unfold dw fk;exact⟨_,_,rfl,ph ns k w.1 room n h,pj ns r w.2 room _ h⟩
theorem yE (ns:List Int):∀(fs:Fs),fs.W->fs.names.Nodup->∀(i room:Nat) (n:Int),room<8->i<fs.names.length->∃x v,(fZ ns fs i room n).1=pairD (.str x) v/\iX fs x v
 | .nil,_,_,i,_,_,_,hi=>by simp[Fs.names] at hi
 | .cons x k r,w,nd,0,room,n,h,hi=>by
   unfold Fs.W at w;unfold fZ;exact⟨x,_,rfl,by unfold iX;exact .inl ⟨rfl,ph ns k w.1 room n h⟩⟩
 | .cons x k r,w,nd,i+1,room,n,h,hi=>by
   unfold Fs.W at w;unfold fZ;have nd:(x::r.names).Nodup:=nd;obtain⟨n1,n2⟩:=List.nodup_cons.mp nd;obtain⟨y,v,e,f⟩:=yE ns r w.2 n2 i room n h (by simpa[Fs.names] using hi);refine⟨y,v,e,?_⟩;unfold iX;exact .inr ⟨λz=>n1 (by rw[<-z];exact yB f),f⟩
end
mutual
noncomputable def Kd.dB:Kd->Nat
 | .num=>1
 | .eu=>1
 | .c8 fs=>fs.dB+1
 | .rows _ _ fs=>fs.dB+2
 | .tree k=>k.dB+10
 | .e8 fs=>fs.dB+2
noncomputable def Fs.dB:Fs->Nat
 | .nil=>0
 | .cons _ k r=>max k.dB r.dB
end
mutual
noncomputable def Kd.cB:Kd->Nat
 | .num=>1
 | .eu=>1
 | .c8 fs=>fs.cB
 | .rows _ _ fs=>8 * fs.cB+1
 | .tree k=>(k.cB+1) * 585
 | .e8 fs=>fs.cB+1
noncomputable def Fs.cB:Fs->Nat
 | .nil=>0
 | .cons _ k r=>k.cB+r.cB
end
theorem yF:∀{l:List Ds}{n:Nat},(∀m∈l,m.dep<=n)->(fM l).dep<=n+1
 |[],n,_=>by simp[fM,Ds.dep]
 |m::r,n,h=>by
  have h1:=h m Q04;have h2:=yF (l:=r) (n:=n) λx hx=>h x (Q09 _ hx);simp only[fM,Ds.dep,D.dep];omega
theorem yG(hg:∀n,(g n).1.dep<=N):∀(m:Nat) (n:Int),(times g m n).1.dep<=N
 |0,_=>by simp[times,Ds.dep]
 |m+1,n=>by
  have h1:=hg n;have h2:=yG hg m (g n).2;simp only[times,Ds.dep];omega
theorem yH(h1:1<=N)(hf:∀room n,(f room n).1.dep<=N):∀(fu room:Nat) (n:Int),(ff ns f fu room n).1.dep<=N+2 * fu
 |0,_,_=>by simp[ff,D.dep];omega
 |fu+1,room,n=>by
  have a:=hf (room / 2) n;have b:=yG (g:=ff ns f fu (room / 2)) (N:=N+2 * fu) (λn=>yH h1 hf fu (room / 2) n) (nx ns ((f (room / 2) n).2+1) % ((room:Int)+1)).toNat ((f (room / 2) n).2+1);simp only[ff,D.dep,Ds.dep];omega
theorem Kd.F5 (k:Kd):1<=k.dB:=by cases k <;> simp[Kd.dB]
mutual
theorem pq (ns:List Int):∀(k:Kd) (room:Nat) (n:Int),(val ns k room n).1.dep<=k.dB
 | .num,_,_=>by simp[val,D.dep,Kd.dB]
 | .eu,_,_=>by simp[val,D.dep,Kd.dB]
 | .c8 fs,room,n=>by
   have:=t_ ns fs room n;simp only[val,D.dep,Kd.dB];omega
 | .rows key aa fs,room,n=>by
   have:=yF (l:=lq key aa (dY (dw ns fs (room / 2)) key (nx ns (n+1) % ((room:Int)+1)).toNat [] (n+1)).1) (n:=fs.dB) λm hm=>
    nE (R:=λm=>m.dep<=fs.dB) (λn=>t_ ns fs (room / 2) n) _ _ _ (λr hr=>absurd hr (by simp)) m ((kB key aa _).mem_iff.mp hm)
   simp only[val,D.dep,Kd.dB];omega
 | .tree k,room,n=>by
   have:=yH (ns:=ns) (f:=val ns k) k.F5 (λroom n=>pq ns k room n) 4 room n;simp only[val,Kd.dB];omega
 | .e8 fs,room,n=>by
   have:=yI ns fs (nx ns (n+1) % (fs.names.length:Int)).toNat room (n+1);simp only[val,Kd.dB];omega
theorem t_ (ns:List Int):∀(fs:Fs) (room:Nat) (n:Int),(dw ns fs room n).1.dep<=fs.dB
 | .nil,_,_=>by simp[dw,Ds.dep]
 | .cons x k r,room,n=>by
   have a:=pq ns k room n;have b:=t_ ns r room (val ns k room n).2;simp only[dw,Ds.dep,Fs.dB];omega
theorem yI (ns:List Int):∀(fs:Fs) (i room:Nat) (n:Int),(fZ ns fs i room n).1.dep<=fs.dB+2
 | .nil,_,_,_=>by simp[fZ,D.dep]
 | .cons x k r,0,room,n=>by
   have a:=pq ns k room n;simp only[fZ,D.dep,Ds.dep,Fs.dB];omega
 | .cons x k r,i+1,room,n=>by
   have a:=yI ns r i room n;simp only[fZ,Fs.dB];omega
end
theorem mod_le{room:Nat}(h:room<8):(a % ((room:Int)+1)).toNat<=room:=by
 have:=Q0l a (show(0:Int)<(room:Int)+1 by omega);have:=Q0k a (show((room:Int)+1)≠0 by omega);omega
theorem ua {g:Int->D × Int}{N:Nat}(hg:∀n,n<=(g n).2/\(g n).2<=n+N):∀(m:Nat) (n:Int),n<=(times g m n).2/\(times g m n).2<=n+(m * N:Nat)
 |0,n=>by simp[times]
 |m+1,n=>by
  obtain⟨a1,a2⟩:=hg n;obtain⟨b1,b2⟩:=ua hg m (g n).2;have e:(m+1) * N=m * N+N:=Q12 m N;simp only[times];rw[e];omega
noncomputable def jO:Nat->Nat
 |0=>0
 |n+1=>8 * jO n+1
theorem nF {ns:List Int}{f:Nat->Int->D × Int}{N:Nat}(hf:∀room n,room<8->n<=(f room n).2/\(f room n).2<=n+N):∀(fu room:Nat) (n:Int),room<8->n<=(ff ns f fu room n).2/\(ff ns f fu room n).2<=n+((N+1) * jO fu:Nat)
 |0,_,n,_=>by simp[ff,jO]
 |fu+1,room,n,h=>by
  obtain⟨a1,a2⟩:=hf (room / 2) n (by omega);obtain⟨b1,b2⟩:=ua (g:=ff ns f fu (room / 2)) (N:=(N+1) * jO fu) (λn=>nF hf fu (room / 2) n (by omega)) (nx ns ((f (room / 2) n).2+1) % ((room:Int)+1)).toNat ((f (room / 2) n).2+1);have c:=mod_le (a:=nx ns ((f (room / 2) n).2+1)) h;have d:(nx ns ((f (room / 2) n).2+1) % ((room:Int)+1)).toNat * ((N+1) * jO fu)<=8 * ((N+1) * jO fu):=Q1 _ (by omega)
  have e:(N+1) * jO (fu+1)=8 * ((N+1) * jO fu)+(N+1):=by
   show(N+1) * (8 * jO fu+1)=_;rw[Nat.mul_add,Q33,Nat.mul_one]
  simp only[ff];rw[e];omega
theorem qV {g:Int->Ds × Int}{key:Str}{N:Nat}(hg:∀n,n<=(g n).2/\(g n).2<=n+N):∀(m:Nat) (acc:List Ds) (n:Int),n<=(dY g key m acc n).2/\(dY g key m acc n).2<=n+(m * N:Nat)
 |0,_,n=>by simp[dY]
 |m+1,acc,n=>by
  obtain⟨a1,a2⟩:=hg n;have e:(m+1) * N=m * N+N:=Q12 m N;unfold dY;rw[e];split
  . obtain⟨b1,b2⟩:=qV (key:=key) hg m acc (g n).2;omega
  . obtain⟨b1,b2⟩:=qV (key:=key) hg m (acc++[(g n).1]) (g n).2;omega
mutual
theorem mz (ns:List Int):∀(k:Kd) (room:Nat) (n:Int),room<8->n<=(val ns k room n).2/\(val ns k room n).2<=n+k.cB
 | .num,_,_,_=>by simp only[val,Kd.cB];omega
 | .eu,_,_,_=>by simp only[val,Kd.cB];omega
 | .c8 fs,room,n,h=>by
   have:=px ns fs room n h;simp only[val,Kd.cB];omega
 | .rows key aa fs,room,n,h=>by
   obtain⟨a1,a2⟩:=qV (g:=dw ns fs (room / 2)) (key:=key) (N:=fs.cB) (λn=>px ns fs (room / 2) n (by omega)) (nx ns (n+1) % ((room:Int)+1)).toNat [] (n+1);have c:=mod_le (a:=nx ns (n+1)) h;have d:(nx ns (n+1) % ((room:Int)+1)).toNat * fs.cB<=8 * fs.cB:=Q1 _ (by omega);simp only[val,Kd.cB];omega
 | .tree k,room,n,h=>by
   have:=nF (ns:=ns) (f:=val ns k) (N:=k.cB) (λroom n h=>mz ns k room n h) 4 room n h;have e:jO 4=585:=rfl;rw[e] at this;simp only[val,Kd.cB];omega
 | .e8 fs,room,n,h=>by
   have:=yJ ns fs (nx ns (n+1) % (fs.names.length:Int)).toNat room (n+1) h;simp only[val,Kd.cB];omega
theorem px (ns:List Int):∀(fs:Fs) (room:Nat) (n:Int),room<8->n<=(dw ns fs room n).2/\(dw ns fs room n).2<=n+fs.cB
 | .nil,_,_,_=>by simp[dw,Fs.cB]
 | .cons x k r,room,n,h=>by
   have a:=mz ns k room n h;have b:=px ns r room (val ns k room n).2 h;simp only[dw,Fs.cB];omega
theorem yJ (ns:List Int):∀(fs:Fs) (i room:Nat) (n:Int),room<8->n<=(fZ ns fs i room n).2/\(fZ ns fs i room n).2<=n+fs.cB
 | .nil,_,_,_,_=>by simp[fZ,Fs.cB]
 | .cons x k r,0,room,n,h=>by
   have a:=mz ns k room n h;simp only[fZ,Fs.cB];omega
 | .cons x k r,i+1,room,n,h=>by
   have a:=yJ ns r i room n h;simp only[fZ,Fs.cB];omega
end
noncomputable def CB:Nat->Nat
 |0=>1
 |d+1=>1200 * CB d
theorem nG:∀d,1<=CB d
 |0=>Q0 _
 |d+1=>by have:=nG d;show 1<=1200 * CB d;omega
mutual
theorem uc:∀(k:Kd) (d:Nat),k.W->k.dep<=d+1->k.cB<=CB d
 | .num,d,_,_=>nG d
 | .eu,d,_,_=>nG d
 | .c8 fs,0,_,h=>by
   simp only[Kd.dep] at h
   cases fs with
   |nil=>simp[Kd.cB,Fs.cB]
   |cons x k r=>have:=k.jm;simp only[Fs.dep] at h;omega
 | .c8 fs,d+1,w,h=>by
   unfold Kd.W at w;simp only[Kd.dep] at h;have:=qW fs d w.2.2 (by omega);have e:fs.names.length * CB d<=60 * CB d:=Q1 _ w.2.1;show fs.cB<=1200 * CB d;omega
 | .rows key aa fs,0,w,h=>by
   simp only[Kd.dep] at h
   cases fs with
   |nil=>simp[Kd.cB,Fs.cB,CB]
   |cons x k r=>have:=k.jm;simp only[Fs.dep] at h;omega
 | .rows key aa fs,d+1,w,h=>by
   unfold Kd.W at w;simp only[Kd.dep] at h;have:=qW fs d w.2.2.1 (by omega);have e:fs.names.length * CB d<=60 * CB d:=Q1 _ w.2.1;have p:=nG d;show 8 * fs.cB+1<=1200 * CB d;omega
 | .tree k,0,w,h=>by
   have:=k.jm;simp only[Kd.dep] at h;omega
 | .tree k,d+1,w,h=>by
   unfold Kd.W at w;simp only[Kd.dep] at h;have:=uc k d w (by omega);have p:=nG d;show(k.cB+1) * 585<=1200 * CB d;omega
 | .e8 fs,0,w,h=>by
   simp only[Kd.dep] at h
   cases fs with
   |nil=>simp[Kd.cB,Fs.cB,CB]
   |cons x k r=>have:=k.jm;simp only[Fs.dep] at h;omega
 | .e8 fs,d+1,w,h=>by
   unfold Kd.W at w;simp only[Kd.dep] at h;have:=qW fs d w.2.2.2 (by omega);have e:fs.names.length * CB d<=60 * CB d:=Q1 _ w.2.1;have p:=nG d;show fs.cB+1<=1200 * CB d;omega
theorem qW:∀(fs:Fs) (d:Nat),fs.W->fs.dep<=d+1->fs.cB<=fs.names.length * CB d
 | .nil,d,_,_=>by simp[Fs.cB]
 | .cons x k r,d,w,h=>by
   unfold Fs.W at w;simp only[Fs.dep] at h;have a:=uc k d w.1 (by omega);have b:=qW r d w.2 (by omega);show k.cB+r.cB<=(r.names.length+1) * CB d;rw[Q12];omega
end
mutual
theorem yK:∀(k:Kd),k.dB+8<=10 * k.dep
 | .num=>by simp[Kd.dB,Kd.dep]
 | .eu=>by simp[Kd.dB,Kd.dep]
 | .c8 fs=>by have:=pz fs;simp only[Kd.dB,Kd.dep];omega
 | .rows _ _ fs=>by have:=pz fs;simp only[Kd.dB,Kd.dep];omega
 | .tree k=>by have:=yK k;simp only[Kd.dB,Kd.dep];omega
 | .e8 fs=>by have:=pz fs;simp only[Kd.dB,Kd.dep];omega
theorem pz:∀(fs:Fs),fs.dB<=10 * fs.dep - 8
 | .nil=>by simp[Fs.dB]
 | .cons x k r=>by
   have a:=yK k;have b:=pz r;simp only[Fs.dB,Fs.dep];omega
end
end Pb
namespace Pb
open L2
mutual
def KA (H:Hp):V->Kd->Prop
 |v,.num=>∃a,v=.ref a/\H a=some (.tup [.str "number"])
 |v,.eu=>∃a,v=.ref a/\H a=some (.tup [.str "word"])
 |v,.c8 fs=>∃a b vs,v=.ref a/\H a=some (.tup [.str "record",.ref b])/\H b=some (.tup vs)/\FA H vs fs
 |v,.rows key aa fs=>∃a b vs,v=.ref a/\H a=some (.tup [.str "rows",.str key,.str aa,.ref b])/\H b=some (.tup vs)/\FA H vs fs
 |v,.tree k=>∃a u,v=.ref a/\H a=some (.tup [.str "tree",u])/\KA H u k
 |v,.e8 fs=>∃a b vs,v=.ref a/\H a=some (.tup [.str "either",.ref b])/\H b=some (.tup vs)/\FA H vs fs
def FA (H:Hp):List V->Fs->Prop
 |vs,.nil=>vs=[]
 |vs,.cons x k r=>∃c u vr,vs=.ref c::vr/\H c=some (.tup [.str x,u])/\KA H u k/\FA H vr r
end
def Tu (H H':Hp):Prop:=∀a xs,H a=some (.tup xs)->H' a=some (.tup xs)
theorem Tu.trans(a:Tu H H1)(b:Tu H1 H2):Tu H H2:=λc xs h=>b c xs (a c xs h)
theorem Tu.of(s:Same H H'):Tu H H':=λa xs h=>s a _ h
theorem Tu.wr(h:∀xs,H p≠some (.tup xs)):Tu H (upd H p o):=λa xs e=>by
 rw[cQ (λz=>h xs (by rw[<-z];exact e))];exact e
mutual
theorem KA.mono(t:Tu H H'):∀{v:V}(k:Kd),KA H v k->KA H' v k
 |v,.num,h=>by
  unfold KA at h ⊢;obtain⟨a,e,q⟩:=h;exact⟨a,e,t _ _ q⟩
 |v,.eu,h=>by
  unfold KA at h ⊢;obtain⟨a,e,q⟩:=h;exact⟨a,e,t _ _ q⟩
 |v,.c8 fs,h=>by
  unfold KA at h ⊢;obtain⟨a,b,vs,e,q1,q2,f⟩:=h;exact⟨a,b,vs,e,t _ _ q1,t _ _ q2,FA.mono t fs f⟩
 |v,.rows key aa fs,h=>by
  unfold KA at h ⊢;obtain⟨a,b,vs,e,q1,q2,f⟩:=h;exact⟨a,b,vs,e,t _ _ q1,t _ _ q2,FA.mono t fs f⟩
 |v,.tree k,h=>by
  unfold KA at h ⊢;obtain⟨a,u,e,q,f⟩:=h;exact⟨a,u,e,t _ _ q,KA.mono t k f⟩
 |v,.e8 fs,h=>by
  unfold KA at h ⊢;obtain⟨a,b,vs,e,q1,q2,f⟩:=h;exact⟨a,b,vs,e,t _ _ q1,t _ _ q2,FA.mono t fs f⟩
theorem FA.mono(t:Tu H H'):∀{vs:List V}(fs:Fs),FA H vs fs->FA H' vs fs
 |vs,.nil,h=>by
  unfold FA at h ⊢;exact h
 |vs,.cons x k r,h=>by
  unfold FA at h ⊢;obtain⟨c,u,vr,e,q,f,g⟩:=h;exact⟨c,u,vr,e,t _ _ q,KA.mono t k f,FA.mono t r g⟩
end
theorem FA.len:∀{vs:List V}(fs:Fs),FA H vs fs->vs.length=fs.names.length
 |vs,.nil,h=>by
  unfold FA at h;rw[h];rfl
 |vs,.cons x k r,h=>by
  unfold FA at h;obtain⟨c,u,vr,e,_,_,g⟩:=h;rw[e];show vr.length+1=r.names.length+1;rw[FA.len r g]
theorem FA.get:∀{vs:List V}(fs:Fs) {i:Nat}{v:V},FA H vs fs->vs[i]? =some v->∃c u x k,v=.ref c/\fs.at i=some (x,k)/\H c=some (.tup [.str x,u])/\KA H u k
 |vs,.nil,i,v,h,e=>by
  unfold FA at h;rw[h] at e;simp at e
 |vs,.cons x k r,0,v,h,e=>by
  unfold FA at h;obtain⟨c,u,vr,ev,q,f,_⟩:=h;rw[ev] at e;have e:some (V.ref c)=some v:=e
  cases e;exact⟨c,u,x,k,rfl,rfl,q,f⟩
 |vs,.cons x k r,i+1,v,h,e=>by
  unfold FA at h;obtain⟨c,u,vr,ev,_,_,g⟩:=h;rw[ev] at e;exact FA.get r (i:=i) g (by simpa using e)
theorem FA.at(h:FA H vs fs)(e:fs.at i=some (x,k)):∃c u,vs[i]? =some (.ref c)/\H c=some (.tup [.str x,u])/\KA H u k:=by
 have hl:=FA.len fs h
 have hi:i<fs.names.length:=by
  have:fs.names[i]? =some x:=by rw[Fs.lh,e];rfl
  exact(List.getElem?_eq_some_iff.mp this).1
 have hv:vs[i]? =some (vs[i]'(by omega)):=Q03 (by omega);obtain⟨c,u,x',k',h1,h2,h3,h4⟩:=FA.get fs h hv;rw[e] at h2;cases h2;exact⟨c,u,by rw[hv,h1],h3,h4⟩
theorem FA.snoc(hc:H c=some (.tup [.str x,u]))(hk:KA H u k):∀{vs:List V}(fs:Fs),FA H vs fs->FA H (vs++[.ref c]) (fs.snoc x k)
 |vs,.nil,h=>by
  unfold FA at h;subst h;show FA H [.ref c] (.cons x k .nil);unfold FA;exact⟨c,u,[],rfl,hc,hk,by unfold FA;rfl⟩
 |vs,.cons y q r,h=>by
  unfold FA at h;obtain⟨d,w,vr,e,h1,h2,h3⟩:=h;subst e;show FA H (.ref d::(vr++[.ref c])) (.cons y q (r.snoc x k));unfold FA;exact⟨d,w,vr++[.ref c],rfl,h1,h2,FA.snoc hc hk r h3⟩
mutual
def Own (H:Hp):V->D->List Addr->Prop
 |v,.int z,fp=>v=.int z/\fp=[]
 |v,.str x,fp=>v=.str x/\fp=[]
 |v,.tup xs,fp=>∃a vs,v=.ref a/\H a=some (.tup vs)/\dj H vs xs fp
 |v,.lst xs,fp=>∃a vs fq,v=.ref a/\H a=some (.lst vs)/\fp=a::fq/\dj H vs xs fq
 |v,.dct m,fp=>∃a kvs fq,v=.ref a/\H a=some (.dK kvs)/\fp=a::fq/\dk H kvs m fq
def dj (H:Hp):List V->Ds->List Addr->Prop
 |vs,.nil,fp=>vs=[]/\fp=[]
 |vs,.cons _ d r,fp=>∃v q f1 f2,vs=v::q/\fp=f1++f2/\Own H v d f1/\dj H q r f2
def dk (H:Hp):List (Key × V)->Ds->List Addr->Prop
 |kvs,.nil,fp=>kvs=[]/\fp=[]
 |kvs,.cons x d r,fp=>∃v q f1 f2,kvs=(Sum.inr x,v)::q/\fp=f1++f2/\Own H v d f1/\dk H q r f2
end
mutual
theorem Own.keep(t:Tu H H'):∀{v:V}(d:D) {fp:List Addr},(∀a∈fp,∀o,H a=some o->H' a=some o)->Own H v d fp->Own H' v d fp
 |v,.int z,fp,k,h=>by unfold Own at h ⊢;exact h
 |v,.str x,fp,k,h=>by unfold Own at h ⊢;exact h
 |v,.tup xs,fp,k,h=>by
  unfold Own at h ⊢;obtain⟨a,vs,e,q,f⟩:=h;exact⟨a,vs,e,t _ _ q,dj.keep t xs k f⟩
 |v,.lst xs,fp,k,h=>by
  unfold Own at h ⊢;obtain⟨a,vs,fq,e,q,rfl,f⟩:=h;exact⟨a,vs,fq,e,k a Q04 _ q,rfl,dj.keep t xs (λb hb=>k b (Q09 _ hb)) f⟩
 |v,.dct m,fp,k,h=>by
  unfold Own at h ⊢;obtain⟨a,vs,fq,e,q,rfl,f⟩:=h;exact⟨a,vs,fq,e,k a Q04 _ q,rfl,dk.keep t m (λb hb=>k b (Q09 _ hb)) f⟩
theorem dj.keep(t:Tu H H'):∀{vs:List V}(xs:Ds) {fp:List Addr},(∀a∈fp,∀o,H a=some o->H' a=some o)->dj H vs xs fp->dj H' vs xs fp
 |vs,.nil,fp,k,h=>by unfold dj at h ⊢;exact h
 |vs,.cons x d r,fp,k,h=>by
  unfold dj at h ⊢;obtain⟨v,q,f1,f2,e,rfl,g1,g2⟩:=h;exact⟨v,q,f1,f2,e,rfl,Own.keep t d (λb hb=>k b (Q0o _ hb)) g1,dj.keep t r (λb hb=>k b (Q07 _ hb)) g2⟩
theorem dk.keep(t:Tu H H'):∀{kvs:List (Key × V)}(m:Ds) {fp:List Addr},(∀a∈fp,∀o,H a=some o->H' a=some o)->dk H kvs m fp->dk H' kvs m fp
 |kvs,.nil,fp,k,h=>by unfold dk at h ⊢;exact h
 |kvs,.cons x d r,fp,k,h=>by
  unfold dk at h ⊢;obtain⟨v,q,f1,f2,e,rfl,g1,g2⟩:=h;exact⟨v,q,f1,f2,e,rfl,Own.keep t d (λb hb=>k b (Q0o _ hb)) g1,dk.keep t r (λb hb=>k b (Q07 _ hb)) g2⟩
end
theorem Own.same(s:Same H H')(h:Own H v d fp):Own H' v d fp:=h.keep (Tu.of s) d λa _ o e=>s a o e
theorem dj.same(s:Same H H')(h:dj H v d fp):dj H' v d fp:=h.keep (Tu.of s) d λa _ o e=>s a o e
theorem dk.same(s:Same H H')(h:dk H v d fp):dk H' v d fp:=h.keep (Tu.of s) d λa _ o e=>s a o e
def Mu (H:Hp) (a:Addr):Prop:=(∃xs,H a=some (.lst xs))\/∃kvs,H a=some (.dK kvs)
mutual
theorem Own.alive:∀{v:V}(d:D) {fp:List Addr},Own H v d fp->∀a∈fp,Mu H a
 |v,.int z,fp,h=>by unfold Own at h;rw[h.2];intro a ha;exact absurd ha (by simp)
 |v,.str x,fp,h=>by unfold Own at h;rw[h.2];intro a ha;exact absurd ha (by simp)
 |v,.tup xs,fp,h=>by
  unfold Own at h;obtain⟨a,vs,e,q,f⟩:=h;exact dj.alive xs f
 |v,.lst xs,fp,h=>by
  unfold Own at h;obtain⟨a,vs,fq,e,q,rfl,f⟩:=h;intro b hb;rcases List.mem_cons.mp hb with z|z
  . rw[z];exact .inl ⟨_,q⟩
  . exact dj.alive xs f b z
 |v,.dct m,fp,h=>by
  unfold Own at h;obtain⟨a,vs,fq,e,q,rfl,f⟩:=h;intro b hb;rcases List.mem_cons.mp hb with z|z
  . rw[z];exact .inr ⟨_,q⟩
  . exact dk.alive m f b z
theorem dj.alive:∀{vs:List V}(xs:Ds) {fp:List Addr},dj H vs xs fp->∀a∈fp,Mu H a
 |vs,.nil,fp,h=>by unfold dj at h;rw[h.2];intro a ha;exact absurd ha (by simp)
 |vs,.cons x d r,fp,h=>by
  unfold dj at h;obtain⟨v,q,f1,f2,e,rfl,g1,g2⟩:=h;intro b hb;rcases List.mem_append.mp hb with z|z
  . exact Own.alive d g1 b z
  . exact dj.alive r g2 b z
theorem dk.alive:∀{kvs:List (Key × V)}(m:Ds) {fp:List Addr},dk H kvs m fp->∀a∈fp,Mu H a
 |kvs,.nil,fp,h=>by unfold dk at h;rw[h.2];intro a ha;exact absurd ha (by simp)
 |kvs,.cons x d r,fp,h=>by
  unfold dk at h;obtain⟨v,q,f1,f2,e,rfl,g1,g2⟩:=h;intro b hb;rcases List.mem_append.mp hb with z|z
  . exact Own.alive d g1 b z
  . exact dk.alive r g2 b z
end
theorem Mu.ex(h:Mu H a):∃o,H a=some o:=by
 rcases h with⟨_,h⟩|⟨_,h⟩ <;> exact⟨_,h⟩
theorem Mu.ud(h:Mu H a)(xs:List V):H a≠some (.tup xs):=λz=>by
 rcases h with⟨_,h⟩|⟨_,h⟩ <;> rw[h] at z <;> cases z
noncomputable def Ds.len:Ds->Nat
 | .nil=>0
 | .cons _ _ r=>r.len+1
noncomputable def Ds.names:Ds->List Str
 | .nil=>[]
 | .cons x _ r=>x::r.names
noncomputable def Ds.at:Ds->Nat->Option D
 | .nil,_=>none
 | .cons _ d _,0=>some d
 | .cons _ _ r,i+1=>r.at i
noncomputable def Ds.snoc:Ds->Str->D->Ds
 | .nil,x,d=>.cons x d .nil
 | .cons y e r,x,d=>.cons y e (r.snoc x d)
theorem Ds.jN:∀{xs:Ds}{i:Nat}{d:D},xs.at i=some d->d.dep<=xs.dep
 | .nil,_,_,h=>by cases h
 | .cons _ d r,0,_,h=>by cases h;exact Q2g _ _
 | .cons _ d r,i+1,_,h=>Q0b (Ds.jN (xs:=r) (i:=i) h) (Q2h _ _)
theorem Ds.ue:∀{xs:Ds}{x:Str}{d:D},xs.get x=some d->d.dep<=xs.dep
 | .nil,_,_,h=>by cases h
 | .cons y e r,x,d,h=>by
   have h:(if x=y then some e else r.get x)=some d:=h;by_cases c:x=y
   . rw[if_pos c] at h;cases h;exact Q2g _ _
   . rw[if_neg c] at h;exact Q0b (Ds.ue h) (Q2h _ _)
theorem dj.len:∀{vs:List V}(xs:Ds) {fp:List Addr},dj H vs xs fp->vs.length=xs.len
 |vs,.nil,fp,h=>by unfold dj at h;rw[h.1];rfl
 |vs,.cons x d r,fp,h=>by
  unfold dj at h;obtain⟨v,q,f1,f2,rfl,rfl,g1,g2⟩:=h;show q.length+1=r.len+1;rw[dj.len r g2]
theorem dj.get:∀{vs:List V}(xs:Ds) {fp:List Addr}{i:Nat}{v:V},dj H vs xs fp->vs[i]? =some v->∃d f,xs.at i=some d/\Own H v d f/\∀a∈f,a∈fp
 |vs,.nil,fp,i,v,h,e=>by
  unfold dj at h;rw[h.1] at e;simp at e
 |vs,.cons x d r,fp,0,v,h,e=>by
  unfold dj at h;obtain⟨w,q,f1,f2,rfl,rfl,g1,g2⟩:=h;have e:some w=some v:=e
  cases e;exact⟨d,f1,rfl,g1,λa ha=>Q0o _ ha⟩
 |vs,.cons x d r,fp,i+1,v,h,e=>by
  unfold dj at h;obtain⟨w,q,f1,f2,rfl,rfl,g1,g2⟩:=h;obtain⟨d',f,h1,h2,h3⟩:=dj.get r (i:=i) g2 (by simpa using e);exact⟨d',f,h1,h2,λa ha=>Q07 _ (h3 a ha)⟩
theorem dj.snoc(hv:Own H v d g):∀{vs:List V}(xs:Ds) {fp:List Addr},dj H vs xs fp->dj H (vs++[v]) (xs.snoc y d) (fp++g)
 |vs,.nil,fp,h=>by
  unfold dj at h;obtain⟨rfl,rfl⟩:=h;show dj H [v] (.cons y d .nil) g;unfold dj;exact⟨v,[],g,[],rfl,by simp,hv,by unfold dj;exact⟨rfl,rfl⟩⟩
 |vs,.cons x e r,fp,h=>by
  unfold dj at h;obtain⟨w,q,f1,f2,rfl,rfl,g1,g2⟩:=h;show dj H (w::(q++[v])) (.cons x e (r.snoc y d)) (f1++f2++g);unfold dj;exact⟨w,q++[v],f1,f2++g,rfl,by rw[Q1h],g1,dj.snoc hv r g2⟩
theorem dk.snoc(hv:Own H v d g):∀{kvs:List (Key × V)}(xs:Ds) {fp:List Addr},dk H kvs xs fp->dk H (kvs++[(Sum.inr y,v)]) (xs.snoc y d) (fp++g)
 |kvs,.nil,fp,h=>by
  unfold dk at h;obtain⟨rfl,rfl⟩:=h;show dk H [(Sum.inr y,v)] (.cons y d .nil) g;unfold dk;exact⟨v,[],g,[],rfl,by simp,hv,by unfold dk;exact⟨rfl,rfl⟩⟩
 |kvs,.cons x e r,fp,h=>by
  unfold dk at h;obtain⟨w,q,f1,f2,rfl,rfl,g1,g2⟩:=h;show dk H ((Sum.inr x,w)::(q++[(Sum.inr y,v)])) (.cons x e (r.snoc y d)) (f1++f2++g);unfold dk;exact⟨w,q++[(Sum.inr y,v)],f1,f2++g,rfl,by rw[Q1h],g1,dk.snoc hv r g2⟩
theorem dk.keys:∀{kvs:List (Key × V)}(m:Ds) {fp:List Addr},dk H kvs m fp->kvs.map (·.1)=m.names.map Sum.inr
 |kvs,.nil,fp,h=>by unfold dk at h;rw[h.1];rfl
 |kvs,.cons x d r,fp,h=>by
  unfold dk at h;obtain⟨v,q,f1,f2,rfl,rfl,g1,g2⟩:=h;show Sum.inr x::q.map (·.1)=Sum.inr x::r.names.map Sum.inr;rw[dk.keys r g2]
theorem dk.len(h:dk H kvs m fp):kvs.length=m.names.length:=by
 have:=congrArg List.length (dk.keys m h);simpa using this
theorem dk.val:∀{kvs:List (Key × V)}(m:Ds) {fp:List Addr}{x:Str}{d:D},dk H kvs m fp->m.get x=some d->∃v f,e6 kvs (Sum.inr x)=some v/\Own H v d f/\∀a∈f,a∈fp
 |kvs,.nil,fp,x,d,h,e=>by cases e
 |kvs,.cons y e r,fp,x,d,h,eg=>by
  unfold dk at h;obtain⟨v,q,f1,f2,rfl,rfl,g1,g2⟩:=h;have eg:(if x=y then some e else r.get x)=some d:=eg;by_cases c:x=y
  . rw[if_pos c] at eg
    cases eg;exact⟨v,f1,oS (by rw[c]),g1,λa ha=>Q0o _ ha⟩
  . rw[if_neg c] at eg;obtain⟨w,f,h1,h2,h3⟩:=dk.val r g2 eg;exact⟨w,f,by rw[oU (λz=>c (Sum.inr.inj z).symm)];exact h1,h2,λa ha=>Q07 _ (h3 a ha)⟩
theorem fk.names:∀{fs:Fs}{m:Ds},fk fs m->m.names=fs.names
 | .nil,m,h=>by unfold fk at h;rw[h];rfl
 | .cons x k r,m,h=>by
   unfold fk at h;obtain⟨d,q,rfl,_,g⟩:=h;show x::q.names=x::r.names;rw[fk.names g]
theorem dk.F6(h:dk H kvs m fp)(hx:x ∉ m.names):e6 kvs (Sum.inr x)=none:=by
 cases e:e6 kvs (Sum.inr x) with
 |none=>rfl
 |some v=>
  have:=EX e;rw[dk.keys m h] at this;obtain⟨y,hy,e2⟩:=List.mem_map.mp this
  cases e2;exact absurd hy hx
theorem qX {kvs:List (Key × V)}(h:e6 kvs k=none):putK kvs k v=kvs++[(k,v)]:=by
 unfold putK;rw[if_neg];rw[nh,h];simp
def Kp (S:Addr->Prop) (H H':Hp):Prop:=∀c o,¬S c->H c=some o->H' c=some o
theorem Kp.refl (S:Addr->Prop)(H:Hp):Kp S H H:=λ_ _ _ h=>h
theorem Kp.trans(x:Kp S H H1)(y:Kp S H1 H2):Kp S H H2:=λc o n h=>y c o n (x c o n h)
theorem Kp.of(s:Same H H'):Kp S H H':=λc o _ h=>s c o h
theorem Kp.uf(x:Kp S H H')(ha:¬S a)(h:H' a=none):H a=none:=by
 cases e:H a with
 |none=>rfl
 |some o=>rw[x a o ha e] at h;cases h
inductive A3 {α β γ:Type} (R:α->β->γ->Prop):List α->List β->List γ->Prop
 |nil:A3 R [] [] []
 |cons {a:α} {b:β} {c:γ} {as:List α} {bs:List β} {cs:List γ}:R a b c->A3 R as bs cs->A3 R (a::as) (b::bs) (c::cs)
theorem A3.snoc {α β γ:Type}{R:α->β->γ->Prop}{a:α}{b:β}{c:γ}(h:R a b c):∀{as:List α}{bs:List β}{cs:List γ},A3 R as bs cs->A3 R (as++[a]) (bs++[b]) (cs++[c])
 |_,_,_,.nil=>.cons h .nil
 |_,_,_,.cons x r=>.cons x (A3.snoc h r)
theorem A3.len {α β γ:Type}{R:α->β->γ->Prop}:∀{as:List α}{bs:List β}{cs:List γ},A3 R as bs cs->as.length=bs.length/\as.length=cs.length
 |_,_,_,.nil=>⟨rfl,rfl⟩
 |_,_,_,.cons x r=>by
  obtain⟨h1,h2⟩:=A3.len r;simp only[Q0j];omega
theorem A3.at {α β γ:Type}{R:α->β->γ->Prop}{a0:α}{b0:β}{c0:γ}:∀{as:List α}{bs:List β}{cs:List γ},A3 R as bs cs->∀i,i<as.length->R (as.getD i a0) (bs.getD i b0) (cs.getD i c0)
 |_,_,_,.nil,i,h=>absurd h (by simp)
 |_,_,_,.cons x r,0,h=>x
 |_,_,_,.cons x r,i+1,h=>by
  have:=A3.at (a0:=a0) (b0:=b0) (c0:=c0) r i (by simpa using h);simpa using this
theorem A3.pick {α β γ:Type}{R:α->β->γ->Prop}{a0:α}{b0:β}{c0:γ}{as:List α}{bs:List β}{cs:List γ}(h:A3 R as bs cs):∀p:List Nat,(∀i∈p,i<as.length)->A3 R (p.map λi=>as.getD i a0) (p.map λi=>bs.getD i b0) (p.map λi=>cs.getD i c0)
 |[],_=>.nil
 |i::p,hp=>.cons (h.at i (hp i Q04)) (A3.pick h p λj hj=>hp j (Q09 _ hj))
theorem F7 {α:Type}(a0:α):∀l:List α,((List.range l.length).map λi=>l.getD i a0)=l:=λl=>by
 apply Q2d
 . simp
 . intro i h1 h2;simp[h2]
theorem yL {α:Type}(a0:α){l:List α}{p:List Nat}(h:p.Perm (List.range l.length)):(p.map λi=>l.getD i a0).Perm l:=by
 have:=h.map (λi=>l.getD i a0)
 rwa [F7] at this
theorem F8 {α:Type}{l1 l2:List (List α)}(h:l1.Perm l2):l1.flatten.Perm l2.flatten:=by
 induction h with
 |nil=>exact List.Perm.refl _
 |cons x _ ih=>exact ih.append_left x
 |swap x y l=>
  show(y++(x++l.flatten)).Perm (x++(y++l.flatten));rw[<-Q1h,<-Q1h];exact List.perm_append_comm.append_right _
 |trans _ _ a b=>exact a.trans b
abbrev fg (H:Hp):List V->List Ds->List (List Addr)->Prop:=A3 λv m f=>Own H v (.dct m) f
theorem fg.own:∀{vs:List V}{rs:List Ds}{fs:List (List Addr)},fg H vs rs fs->dj H vs (fM rs) fs.flatten
 |_,_,_,.nil=>by unfold fM dj;exact⟨rfl,rfl⟩
 |_,_,_,.cons h r=>by
  unfold fM dj;exact⟨_,_,_,_,rfl,rfl,h,fg.own r⟩
theorem dj.rows:∀{rs:List Ds}{vs:List V}{fp:List Addr},dj H vs (fM rs) fp->∃fs,fg H vs rs fs/\fp=fs.flatten
 |[],vs,fp,h=>by
  unfold fM dj at h;obtain⟨rfl,rfl⟩:=h;exact⟨[],.nil,rfl⟩
 |m::rs,vs,fp,h=>by
  unfold fM dj at h;obtain⟨v,q,f1,f2,rfl,rfl,g1,g2⟩:=h;obtain⟨fs,h1,rfl⟩:=dj.rows g2;exact⟨f1::fs,.cons g1 h1,rfl⟩
noncomputable def lt (z:Int):Str:=⟨#[97+z.toNat]⟩
theorem qY (z:Int):(lt z).length=1:=rfl
theorem F9:∀j:Nat,j<26->(("abcdefghijklmnopqrstuvwxyz":Str)).cps.toList[j]? =some (97+j):=by decide +kernel
theorem F_:(("abcdefghijklmnopqrstuvwxyz":Str)).cps.toList.length=26:=by decide +kernel
theorem nH(h0:0<=z)(h1:z<26):fS (("abcdefghijklmnopqrstuvwxyz":Str)).cps.toList z=some (97+z.toNat):=by
 unfold fS jH;rw[F_,if_pos h0,if_pos (show z<((26:Nat):Int) by omega)];exact F9 z.toNat (by omega)
theorem Ga(h0:0<=z)(h1:z<6):fS [V.int 1,.int 3,.int 5,.int 7,.int 9,.int 11] z=some (.int (2 * z+1)):=by
 obtain⟨n,rfl⟩:=Int.eq_ofNat_of_zero_le h0;have h:=Int.ofNat_lt.mp h1;clear h0 h1;revert n
 decide
noncomputable def nameAt (m:Int) (k:Nat):Str:=
 if m / 12168 % 4=0 then Txt.mul (lt (m / 6 % 26)) ((k:Int)+1)
 else Txt.slice (lt (m / 6 % 26)++lt (m / 156 % 26)) none (some (m / 4056 % 3))++lt ((m / 156+(k:Int) * (2 * (m % 6)+1)) % 26)++Txt.slice (lt (m / 6 % 26)++lt (m / 156 % 26)) (some (m / 4056 % 3)) none
theorem foldl_size (a:Array Nat):∀(n:Nat) (b:Array Nat),((List.replicate n a).foldl (· ++ ·) b).size=b.size+n * a.size
 |0,b=>by simp
 |n+1,b=>by
  rw[Q34,Q20,foldl_size a n,Q2w,Q12];omega
theorem yM(hx:x.length=1)(k:Nat):(Txt.mul x ((k:Int)+1)).length=k+1:=by
 have hs:x.cps.size=1:=hx;unfold Txt.mul;rw[if_neg (by omega)];by_cases h:k=0
 . subst h;rw[if_pos (by simp)];exact hx
 . rw[if_neg]
   . show((List.replicate ((k:Int)+1).toNat x.cps).foldl (· ++ ·) #[]).size=k+1;rw[foldl_size,hs,show((k:Int)+1).toNat=k+1 by omega];simp
   . rw[hx];simp;omega
theorem ug (x y:Str):(x++y).cps.toList=x.cps.toList++y.cps.toList:=by
 show(x.cps++y.cps).toList=_;simp
theorem yN (x y:Str):(x++y).length=x.length+y.length:=by
 show(x.cps++y.cps).size=x.cps.size+y.cps.size;simp
theorem Gb(h:p++lt z++q=p++lt w++q):z.toNat=w.toNat:=by
 have e:=congrArg (λs:Str=>s.cps.toList) h;simp only[ug] at e;have e:=List.append_cancel_left (List.append_cancel_right e);have e:[97+z.toNat]=[97+w.toNat]:=e;have e:=List.cons.inj e |>.1;omega
theorem Ge:∀s:Nat,s<6->∀i,i<12->∀j,j<12->(i * (2 * s+1)) % 26=(j * (2 * s+1)) % 26->i=j:=by decide +kernel
theorem Gf(hm:0<=m)(hi:i<12)(hj:j<12)(h:nameAt m i=nameAt m j):i=j:=by
 unfold nameAt at h;by_cases hb:m / 12168 % 4=0
 . rw[if_pos hb,if_pos hb] at h;have e:=congrArg Str.length h;rw[yM (qY _),yM (qY _)] at e;omega
 . rw[if_neg hb,if_neg hb] at h;have e:=Gb h;obtain⟨s,hs⟩:∃s:Nat,m % 6=s:=⟨(m % 6).toNat,by omega⟩;rw[hs] at e;have e:((m / 156+(i * (2 * s+1):Nat)) % 26).toNat=((m / 156+(j * (2 * s+1):Nat)) % 26).toNat:=e;generalize m / 156=a at e;exact Ge s (by omega) i hi j hj (by omega)
theorem Gg:∀{n:Nat},(∀i j,i<n->j<n->f i=f j->i=j)->((List.range n).map f).Nodup:=by
 intro n h;refine List.pairwise_map.mpr (List.Pairwise.imp_of_mem (λ{a b} ha hb aa=>?_) (Q35 (n:=n)));intro e;exact aa (h a b (List.mem_range.mp ha) (List.mem_range.mp hb) e)
theorem names_nodup(hm:0<=m)(hn:n<=12):((List.range n).map (nameAt m)).Nodup:=
 Gg λi j hi hj e=>Gf hm (by omega) (by omega) e
theorem Gh(hx:x.length=1){k:Nat}(hk:k<12)(hl:∀n,n<=1000->Builtin.Str.tooLong n=false):MulOk x ((k:Int)+1):=by
 refine⟨?_,λ_ z=>?_,λ_ _=>?_⟩
 . have e1:decide (((k:Int)+1)< -(2 ^ 63:Int))=false:=decide_eq_false (by omega);have e2:decide (((k:Int)+1) ≥ 2 ^ 63)=false:=decide_eq_false (by omega);rw[e1,e2];rfl
 . rw[hx];clear hl hx z;revert k
   decide
 . rw[hx];exact hl _ (by omega)
end Pb
namespace Pb
open L2 PyProof.Rows Spec StrLaws Builtin Builtin.Str
def lx (H:Hp) (u:V) (pl:Bool):Prop:=∃a f rest,u=.ref a/\H a=some (.tup (.str f::rest))/\(pl=true->rest=[]/\(f="number"\/f="word"))/\(pl=false->f≠"number"/\f≠"word")/\∀v∈rest,(∃s,v=.str s)\/∃c,v=.ref c
theorem lx.mono(t:Tu H H')(h:lx H u pl):lx H' u pl:=by
 obtain⟨a,f,rest,e,h1,h2⟩:=h;exact⟨a,f,rest,e,t _ _ h1,h2⟩
theorem lx.of:∀{k:Kd},KA H u k->∃pl,lx H u pl
 | .num,h=>by
   unfold KA at h;obtain⟨a,e,q⟩:=h;exact⟨true,a,_,_,e,q,λ_=>⟨rfl,.inl rfl⟩,(λz=>by cases z),λv hv=>nomatch hv⟩
 | .eu,h=>by
   unfold KA at h;obtain⟨a,e,q⟩:=h;exact⟨true,a,_,_,e,q,λ_=>⟨rfl,.inr rfl⟩,(λz=>by cases z),λv hv=>nomatch hv⟩
 | .c8 fs,h=>by
   unfold KA at h;obtain⟨a,b,vs,e,q,_⟩:=h;exact⟨false,a,_,_,e,q,(λz=>by cases z),(λ_=>by decide),λv hv=>by rw[List.mem_singleton.mp hv];exact .inr ⟨_,rfl⟩⟩
 | .rows key aa fs,h=>by
   unfold KA at h;obtain⟨a,b,vs,e,q,_⟩:=h;refine⟨false,a,_,_,e,q,(λz=>by cases z),(λ_=>by decide),λv hv=>?_⟩;simp only[Q1i,List.mem_nil_iff,or_false] at hv;rcases hv with z|z|z <;> subst z
   . exact .inl ⟨_,rfl⟩
   . exact .inl ⟨_,rfl⟩
   . exact .inr ⟨_,rfl⟩
 | .tree k,h=>by
   unfold KA at h;obtain⟨a,b,e,q,hk⟩:=h;obtain⟨_,c,_,_,ec,_⟩:=lx.of hk;exact⟨false,a,_,_,e,q,(λz=>by cases z),(λ_=>by decide),λv hv=>by rw[List.mem_singleton.mp hv];exact .inr ⟨c,ec⟩⟩
 | .e8 fs,h=>by
   unfold KA at h;obtain⟨a,b,vs,e,q,_⟩:=h;exact⟨false,a,_,_,e,q,(λz=>by cases z),(λ_=>by decide),λv hv=>by rw[List.mem_singleton.mp hv];exact .inr ⟨_,rfl⟩⟩
noncomputable abbrev Qd:=V × Str × Bool
def pA (H:Hp) (q:Qd):Prop:=∃c u,q.1=.ref c/\H c=some (.tup [.str q.2.1,u])/\lx H u q.2.2
def ly (H:Hp) (qs:List Qd):Prop:=∀q∈qs,pA H q
noncomputable def nms (qs:List Qd):List Str:=qs.map (·.2.1)
noncomputable def eI (qs:List Qd):List V:=qs.map (·.1)
theorem pA.mono(t:Tu H H')(h:pA H q):pA H' q:=by
 obtain⟨c,u,e,h1,h2⟩:=h;exact⟨c,u,e,t _ _ h1,h2.mono t⟩
theorem ly.mono(t:Tu H H')(h:ly H qs):ly H' qs:=λq hq=>(h q hq).mono t
def sle (x y:Str):Prop:=iS (eS x) (eS y)
def slt (x y:Str):Prop:=eA (eS x) (eS y)=true
theorem yO (x y:Str)(h:slt x y):¬slt y x:=λh2=>by
 have z:=nu _ _ _ h h2;rw[qR] at z
 cases z
theorem Gi(h:eS x=eS y):x=y:=Sum.inr.inj (List.cons.inj h).1
theorem uh(h:sle x y):slt x y\/x=y:=by
 rcases o_ (eS x) (eS y) with q|q|q
 . exact .inl q
 . exact .inr (Gi q)
 . have h:eA (eS y) (eS x)=false:=h;rw[h] at q;cases q
theorem yP(h:slt x y):sle x y:=by
 unfold sle iS
 cases e:eA (eS y) (eS x) with
 |false=>rfl
 |true=>exact absurd e (yO _ _ h)
theorem yQ(h1:sle x y)(h2:sle y z):sle x z:=by
 rcases uh h1 with a|a
 . rcases uh h2 with b|b
   . exact yP (nu _ _ _ a b)
   . rw[<-b];exact h1
 . rw[a];exact h2
theorem Gj (x y:Str):ltCps x.cps.toList y.cps.toList=eA (eS x) (eS y):=by
 rw[yx];exact ltCps_eq _ _
theorem yR:∀{ss:List Str},sortedS ss=true->ss.Pairwise sle
 |[],_=>.nil
 |[x],_=>Q2 _ _
 |x::y::r,h=>by
  have h:(!ltCps y.cps.toList x.cps.toList && risingS y r)=true:=h;obtain⟨h1,h2⟩:=Bool.and_eq_true_iff.mp h;have ih:(y::r).Pairwise sle:=yR (ss:=y::r) h2
  have aa:sle x y:=by
   rw[Gj] at h1;unfold sle iS
   cases e:eA (eS y) (eS x) with
   |false=>rfl
   |true=>rw[e] at h1;cases h1
  refine .cons (λz hz=>?_) ih;rcases List.mem_cons.mp hz with e|e
  . rw[e];exact aa
  . exact yQ aa ((List.pairwise_cons.mp ih).1 z e)
theorem yS(h:(nms qs).Pairwise sle)(nd:(nms qs).Nodup):qs.Pairwise λa b=>slt a.2.1 b.2.1:=by
 have h1:=List.pairwise_map.mp h;have h2:qs.Pairwise λa b=>a.2.1≠b.2.1:=List.pairwise_map.mp nd;refine(h1.and h2).imp λ{a b} ⟨x,y⟩=>?_;rcases uh x with z|z
 . exact z
 . exact absurd z y
theorem yT {α:Type}{R:α->α->Prop}(as:∀a b,R a b->¬R b a):∀{l1 l2:List α},l1.Perm l2->l1.Pairwise R->l2.Pairwise R->l1=l2
 |[],l2,p,_,_=>by rw[p.nil_eq]
 |a::r,[],p,_,_=>absurd p.length_eq (by simp)
 |a::r,b::q,p,h1,h2=>by
  obtain⟨a1,a2⟩:=List.pairwise_cons.mp h1;obtain⟨b1,b2⟩:=List.pairwise_cons.mp h2
  have aa:a=b:=by
   have ha:a∈b::q:=p.mem_iff.mp Q04;have hb:b∈a::r:=p.mem_iff.mpr Q04;rcases List.mem_cons.mp ha with e|e
   . exact e
   . rcases List.mem_cons.mp hb with e2|e2
     . exact e2.symm
     . exact absurd (a1 b e2) (as b a (b1 a e))
  subst aa;rw[yT as ((Q32 a).mp p) a2 b2]
theorem Gk(p:q1.Perm q2)(h1:(nms q1).Pairwise sle)(h2:(nms q2).Pairwise sle)(nd:(nms q2).Nodup):q1=q2:=
 yT (λa b=>yO _ _) p (yS h1 ((p.map _).nodup_iff.mpr nd)) (yS h2 nd)
noncomputable def wt (x:Str):Nat:=match x.cps.toList with
 |[a,b]=>if a=b then 0 else 1
 |_=>0
theorem yU (x:Str):wt x<=1:=by
 unfold wt;split
 . split <;> omega
 . omega
theorem Gm(h:x.cps.toList.length≠2):wt x=0:=by
 unfold wt;split
 . rename_i a b e;rw[e] at h;exact absurd rfl h
 . rfl
theorem foldl_rep (c:Nat):∀(n:Nat) (b:Array Nat),((List.replicate n #[c]).foldl (· ++ ·) b).toList=b.toList++List.replicate n c
 |0,b=>by simp
 |n+1,b=>by
  rw[Q34,Q20,foldl_rep c n,Array.toList_append,Q1h];rfl
theorem Gn (z:Int)(k:Nat):(Txt.mul (lt z) ((k:Int)+1)).cps.toList=List.replicate (k+1) (97+z.toNat):=by
 unfold Txt.mul;rw[if_neg (by omega)];by_cases h:(((k:Int)+1 == 1) || (lt z).length == 0)=true
 . rw[if_pos h]
   have hk:k=0:=by
    rw[qY] at h;simp at h;omega
   subst hk;rfl
 . rw[if_neg h];have e:((k:Int)+1).toNat=k+1:=by omega
   rw[e];show((List.replicate (k+1) #[97+z.toNat]).foldl (· ++ ·) #[]).toList=_;rw[foldl_rep];rfl
theorem Gp (a b:Int)(h0:0<=c)(h1:c<3):∃l1 l2:List Nat,(Txt.slice (lt a++lt b) none (some c)).cps.toList=l1/\(Txt.slice (lt a++lt b) (some c) none).cps.toList=l2/\l1++l2=[97+a.toNat,97+b.toNat]:=by
 have hs:(lt a++lt b)=⟨#[97+a.toNat,97+b.toNat]⟩:=rfl;rw[hs];have:c=0\/c=1\/c=2:=by omega
 rcases this with rfl|rfl|rfl
 . refine⟨[],[97+a.toNat,97+b.toNat],rfl,?_,rfl⟩;have e:strSliceIndices (some 0) none 1 2=[0,1]:=by decide +kernel
   unfold Txt.slice;rw[show(⟨#[97+a.toNat,97+b.toNat]⟩:Str).length=2 from rfl,e];rfl
 . refine⟨[97+a.toNat],[97+b.toNat],rfl,?_,rfl⟩;have e:strSliceIndices (some 1) none 1 2=[1]:=by decide +kernel
   unfold Txt.slice;rw[show(⟨#[97+a.toNat,97+b.toNat]⟩:Str).length=2 from rfl,e];rfl
 . exact⟨[97+a.toNat,97+b.toNat],[],rfl,rfl,rfl⟩
theorem Gq{n:Nat}:wt (Txt.mul (lt z) ((n:Int)+1))=0:=by
 unfold wt;rw[Gn];split
 . rename_i a b e;have h1:=congrArg (·[0]?) e;have h2:=congrArg (·[1]?) e;have hl:=congrArg List.length e;rw[Q1e] at hl;have hn:n=1:=by simpa using hl
   subst hn;have h1:97+z.toNat=a:=by simpa using h1
   have h2:97+z.toNat=b:=by simpa using h2
   rw[if_pos (h1.symm.trans h2)]
 . rfl
theorem Gr(hi:i<12):wt (nameAt m i)=0:=by
 unfold nameAt;by_cases h:m / 12168 % 4=0
 . rw[if_pos h];exact Gq
 . rw[if_neg h];obtain⟨p1,p2,e1,e2,e3⟩:=Gp (m / 6 % 26) (m / 156 % 26) (c:=m / 4056 % 3) (by omega) (by omega)
   have aa:(Txt.slice (lt (m / 6 % 26)++lt (m / 156 % 26)) none (some (m / 4056 % 3))++lt ((m / 156+(i:Int) * (2 * (m % 6)+1)) % 26)++Txt.slice (lt (m / 6 % 26)++lt (m / 156 % 26)) (some (m / 4056 % 3)) none).cps.toList
    =p1++[97+((m / 156+(i:Int) * (2 * (m % 6)+1)) % 26).toNat]++p2:=by
    rw[ug,ug,e1,e2];rfl
   have ab:p1.length+p2.length=2:=by
    have:=congrArg List.length e3;rw[Q0d] at this;exact this
   have l3:(p1++[97+((m / 156+(i:Int) * (2 * (m % 6)+1)) % 26).toNat]++p2).length=3:=by
    rw[Q0d,Q0d,Q1l];omega
   refine Gm ?_;rw[aa,l3]
   decide
mutual
def Kd.O:Kd->Prop
 | .c8 fs=>fs.names.Nodup/\fs.O
 |k=>k.W
def Fs.O:Fs->Prop
 | .nil=>True
 | .cons _ k r=>k.O/\r.O
end
mutual
theorem Kd.pB:∀{k:Kd},k.W->k.O
 | .c8 fs,h=>by unfold Kd.W at h;unfold Kd.O;exact⟨h.1,Fs.pB h.2.2⟩
 | .num,h=>by unfold Kd.O;exact h
 | .eu,h=>by unfold Kd.O;exact h
 | .rows _ _ _,h=>by unfold Kd.O;exact h
 | .tree _,h=>by unfold Kd.O;exact h
 | .e8 _,h=>by unfold Kd.O;exact h
theorem Fs.pB:∀{fs:Fs},fs.W->fs.O
 | .nil,_=>by unfold Fs.O;trivial
 | .cons _ k r,h=>by unfold Fs.W at h;unfold Fs.O;exact⟨Kd.pB h.1,Fs.pB h.2⟩
end
mutual
noncomputable def Kd.sz:Kd->Nat
 | .c8 fs=>max 1 fs.sz
 |_=>1
noncomputable def Fs.sz:Fs->Nat
 | .nil=>0
 | .cons _ k r=>k.sz+r.sz
end
mutual
noncomputable def Kd.bc:Kd->Nat
 | .c8 fs=>fs.bc
 |_=>0
noncomputable def Fs.bc:Fs->Nat
 | .nil=>0
 | .cons x k r=>wt x+k.bc+r.bc
end
theorem Kd.Gu (k:Kd):1<=k.sz:=by cases k <;> simp only[Kd.sz] <;> omega
theorem yV(h:ll k):k.sz<=1:=by cases k <;> first|exact h.elim|(unfold Kd.sz;exact Q0 _)
theorem yW(h:ll k):k.bc=0:=by cases k <;> first|exact h.elim|(unfold Kd.bc;rfl)
theorem Fs.yX:∀{fs:Fs},(fs.snoc x k).sz=fs.sz+k.sz
 | .nil=>by show Fs.sz (.cons x k .nil)=_;unfold Fs.sz;unfold Fs.sz;omega
 | .cons y q r=>by
   show Fs.sz (.cons y q (r.snoc x k))=_;have:=Fs.yX (x:=x) (k:=k) (fs:=r);unfold Fs.sz;omega
theorem Fs.yY(hx:wt x=0)(hk:k.bc=0):∀{fs:Fs},fs.bc=0->(fs.snoc x k).bc=0
 | .nil,_=>by show Fs.bc (.cons x k .nil)=_;unfold Fs.bc;unfold Fs.bc;omega
 | .cons y q r,h=>by
   show Fs.bc (.cons y q (r.snoc x k))=_;unfold Fs.bc at h ⊢;have:=Fs.yY hx hk (fs:=r) (by omega);omega
noncomputable def jo:Nat->Nat
 |0=>1
 |d+1=>3 * jo d
theorem mB:∀d,1<=jo d
 |0=>Q0 _
 |d+1=>by have:=mB d;unfold jo;omega
end Pb
namespace Pb
open L2 PyProof.Rows
structure Ok (P:Program) (w:World) (K:W.Frag) (mg:Str->Option Value) (base:Heap) (CX:gf) (x:Str) (ps:List Str) (k:Nat) (sp:Sp):Prop where
 ex:∃f d,mg x=some (.ref f)/\W.keepIn K (.ref f)=true/\Binds K d ps []/\fY P w K mg base CX k f d ps sp/\∃o q s,K.lookup f=some ⟨o,q,.func d,s⟩
structure Om (P:Program) (w:World) (K:W.Frag) (mg:Str->Option Value) (base:Heap) (CX:gf) (C:Addr) (x:Str) (ps:List Str) (k:Nat) (sp:Sp):Prop where
 ct:Cls K C
 ex:∃f d,Meth K C x f/\Binds K d ps []/\fY P w K mg base CX k f d ps sp
structure Oi (P:Program) (w:World) (K:W.Frag) (mg:Str->Option Value) (base:Heap) (CX:gf) (C:Addr) (x:Str) (ps:List Str) (k:Nat) (sp:Sp):Prop where
 ex:∃f d,Mk K C f/\mg x=some (.ref C)/\Binds K d ps []/\fY P w K mg base CX k f d ps sp
section
variable {P:Program}{w:World}{K:W.Frag}{mg:Str->Option Value}{base:Heap}{CX:gf}{C:Addr}{x:Str}{ps:List Str}{k j:Nat}{sp me:Sp}
theorem Ok.mono:Ok P w K mg base CX x ps j sp->j<=k->Ok P w K mg base CX x ps k sp
 |⟨f,d,a,b,e,F,l⟩,h=>⟨f,d,a,b,e,F.mono h,l⟩
theorem Ok.imp:Ok P w K mg base CX x ps k sp->(∀vs H Q E,me vs H Q E->sp vs H Q E)->Ok P w K mg base CX x ps k me
 |⟨f,d,a,b,e,F,l⟩,h=>⟨f,d,a,b,e,F.imp h,l⟩
theorem Ok.or:Ok P w K mg base CX x ps k sp->Ok P w K mg base CX x ps k me->Ok P w K mg base CX x ps k (λvs H Q E=>sp vs H Q E\/me vs H Q E)
 |⟨f,d,a,b,e,F,l⟩,⟨f',d',a',b',e',F',l'⟩=>by
  have q:=a.symm.trans a'
  cases q;obtain⟨_,_,_,l⟩:=l;obtain⟨_,_,_,m⟩:=l';have q:=l.symm.trans m
  cases q;exact⟨f,d,a,b,e,⟨λvs H Q E h=>h.elim (F.len vs H Q E) (F'.len vs H Q E),λA outer s H args us vs Q E hr he hb hv hs=>hs.elim (F.run A outer s H args us vs Q E hr he hb hv) (F'.run A outer s H args us vs Q E hr he hb hv)⟩,_,_,_,l⟩
theorem Om.mono:Om P w K mg base CX C x ps j sp->j<=k->Om P w K mg base CX C x ps k sp
 |⟨c,f,d,a,b,F⟩,h=>⟨c,f,d,a,b,F.mono h⟩
end
section
variable {X:Cx}{CX:gf}{k:Nat}{x y m:Str}{C:Addr}{p pos apos:Pos}{o e:Expr}{es:List Expr}{ps:List Str}{sp:Sp}{E:XK}{ta:TE}{t:TA}
theorem yZ (G:Ok X.prog X.w X.K X.mg X.base CX x ps k sp)(hr:d4 k X.A)(hg:Gl X x)(hx:Passes CX X E)
 (ha:PA X (e::es) t) (aa:(x == ("__debug__":Str))=false:=by decide) (he:starEach (e::es) X.env=(false,eval e X.env)::starEach es X.env:=by rfl) (ab:(backTo pos (starEach es X.env)).any (·.1)=false:=by rfl):
 PE X (.Call (.Name x p) (e::es) [] pos) (kg sp [] E t):=by
 obtain⟨f,d,a,b,c,F,_⟩:=G;exact D7 F hr hg a b c .nil hx ha aa he ab
theorem jq (G:Oi X.prog X.w X.K X.mg X.base CX C x ps k sp)(hr:d4 (k+1) X.A)(hg:Gl X x)(hx:Passes CX X E)
 (ha:PA X (e::es) t) (aa:(x == ("__debug__":Str))=false:=by decide) (he:starEach (e::es) X.env=(false,eval e X.env)::starEach es X.env:=by rfl) (ab:(backTo pos (starEach es X.env)).any (·.1)=false:=by rfl):
 PE X (.Call (.Name x p) (e::es) [] pos) (wI C sp [] E t):=by
 obtain⟨f,d,a,b,c,F⟩:=G;exact D_ a F hr hg b c .nil hx ha aa he ab
theorem iZ(he:PE X o ta)(G:Om X.prog X.w X.K X.mg X.base CX C m ps k sp)(hr:d4 k X.A)(hx:Passes CX X E)(ha:PA X (e::es) t)
 (aa:starEach (e::es) X.env=(false,eval e X.env)::starEach es X.env:=by rfl) (ab:(backTo pos (starEach es X.env)).any (·.1)=false:=by rfl)
 (ht:eval (.Call (.Attribute o m apos) (e::es) [] pos) X.env=(do
   let ov <-eval o X.env
   standAt apos.atName
   let(f,first) <-holding [ov] (getMethod ov m pl)
   callWith pos f first (backTo pos (starEach (e::es) X.env)) (backToKw pos (keywordEach [] X.env))):=by rfl):
 PE X (.Call (.Attribute o m apos) (e::es) [] pos) (sT C m sp [] E ta t):=by
 obtain⟨c,f,d,a,b,F⟩:=G;exact D8 he c a F hr b .nil hx ha aa ab ht
end
noncomputable def FR.fd (r:FR):FuncData:=W.fnOf r.x r.q (qc r.s) (k5 r.s) (eP r.s) .none .none .none (.str r.m r.u) none (.ref r.c) .none
noncomputable def mC:List En->List FR
 |[]=>[]
 | .f r::l=>r::mC l
 | .c _::l=>mC l
noncomputable def kD:List En->List CR
 |[]=>[]
 | .f _::l=>kD l
 | .c q::l=>if q.e then kD l else q::kD l
noncomputable def jr (l:List En):List FR:=mC l++(kD l).flatMap CR.fs
noncomputable def nI (N P:List Str) (sc:Scope):Bool:=(match sc.kind with| .function=>true|_=>false) && (!sc.isCoroutine && (!sc.isGenerator && (decide N.Nodup && (decide (N.take P.length=P) && (P.all (λx=>decide (sc.names.lookup x=some .local\/sc.names.lookup x=some .cell)) && sc.names.all λy=>decide (y.2≠ .free))))))
theorem nI.of(h:nI N P sc=true):ng N P sc:=by
 unfold nI at h;simp only[Bool.and_eq_true,Bool.not_eq_true',decide_eq_true_eq,Q10] at h;obtain⟨h1,h2,h3,h4,h5,h6,h7⟩:=h;refine⟨?_,h2,h3,h4,h5,h6,h7⟩
 cases e:sc.kind <;> rw[e] at h1 <;> first|rfl|cases h1
abbrev hbL (n:Nat) (us:List Value) (l:List FR):Prop:=((l.filter λr=>r.p.length == n).map λr=>bindArgs r.fd ⟨us,[]⟩)=(l.filter λr=>r.p.length == n).map λr=>pure (r.p.zip us)
structure TabOk (l:List FR):Prop where
 sc:(l.all λr=>nI r.d.N r.p (eP r.s) && decide (r.p.length<=5))=true
 b0:hbL 0 [] l
 b1:∀a,hbL 1 [a] l
 b2:∀a b,hbL 2 [a,b] l
 b3:∀a b c,hbL 3 [a,b,c] l
 b4:∀a b c d,hbL 4 [a,b,c,d] l
 b5:∀a b c d e,hbL 5 [a,b,c,d,e] l
theorem hbL.of(h:hbL us.length us l)(hr:r∈l)(e:us.length=r.p.length):bindArgs r.fd ⟨us,[]⟩=pure (r.p.zip us):=
 List.map_inj_left.mp h r (List.mem_filter.mpr ⟨hr,by rw[e];exact beq_self_eq_true _⟩)
theorem TabOk.binds(T:TabOk l)(h:r∈l)(K:W.Frag):Binds K r.fd r.p []:=.all λus hl=>by
 have h5:=List.all_eq_true.mp T.sc r h;rw[Bool.and_eq_true,decide_eq_true_eq] at h5;have h5:=h5.2
 match us,hl with
 |[],e=>exact hbL.of T.b0 h e
 |[a],e=>exact hbL.of (T.b1 a) h e
 |[a,b],e=>exact hbL.of (T.b2 a b) h e
 |[a,b,c],e=>exact hbL.of (T.b3 a b c) h e
 |[a,b,c,d],e=>exact hbL.of (T.b4 a b c d) h e
 |[a,b,c,d,f],e=>exact hbL.of (T.b5 a b c d f) h e
 |a::b::c::d::f::g::l,e=>rw[<-e] at h5;exact absurd h5 (by simp)
structure cW (es:List En) (K:W.Frag) (mg:Str->Option Value):Prop where
 tab:TabOk (jr es)
 fn:∀r∈jr es,o3 K r.x r.q r.s r.f r.fd
 tp:∀r∈mC es,mg r.x=some (.ref r.f)
 cl:∀q∈kD es,Cls K q.cls/\mg q.x=some (.ref q.cls)/\W.makesIn K q.cls=true/\W.keepIn K (.ref q.cls)=true/\∀r∈q.fs,Meth K q.cls r.x r.f
noncomputable def FR.see (r:FR):List Str × List Str × Stmt:=(r.d.N,r.p,r.s)
noncomputable def lz (es:List En) (x:Str):Option FR:=(mC es).find? λr=>decide (r.x=x)
noncomputable def nJ (es:List En) (C:Addr):Option CR:=(kD es).find? λq=>decide (q.cls=C)
noncomputable def y7 (es:List En) (C:Addr) (m:Str):Option (List Str × List Str × Stmt):=(nJ es C).bind λq=>(q.fs.find? λr=>decide (r.x=m)).map FR.see
def pC (P:Program) (w:World) (K:W.Frag) (mg:Str->Option Value) (base:Heap) (N ps:List Str) (st:Stmt) (R:Str->Nat->Prop) (k:Nat) (vs:List V) (H:Hp) (Q:VK) (E:XK):Prop:=vs.length=ps.length/\∀(ql:Str) (f c:Addr) (A:Around) (outer:List Env) (s:Shared),R ql c->N.Nodup->d4 k (A.deeper (envOfC ql (eP st) s.heap.objs.size f (.ref c)))->(A.deeper (envOfC ql (eP st) s.heap.objs.size f (.ref c))).units+1<cLine->∃t,g9 (cY cH P w K mg base N ql (eP st) f (.ref c) A outer s H E).c7 (k5 st) t/\t { nx:=λ_ H'=>Q .non H',rt:=Q } (start N vs) H
theorem _root_.L2.o3.look {K:W.Frag}{x ql:Str}{st:Stmt}(F:o3 K x ql st f fd):∃o q s,K.lookup f=some ⟨o,q,.func fd,s⟩:=by
 obtain⟨_,_,_,_,_,_,_,_,_,_,l,_⟩:=F.ex;exact⟨_,_,_,l⟩
section
variable {es:List En}{P:Program}{w:World}{K:W.Frag}{mg:Str->Option Value}{base:Heap}{k:Nat}{x:Str}{ps:List Str}{sp:Sp}
theorem cW.run(Z:cW es K mg)(hr:r∈jr es)(hR:R r.q r.c)(h:∀vs H Q E,sp vs H Q E->pC P w K mg base r.d.N r.p r.s R k vs H Q E):fY P w K mg base cH (k+1) r.f r.fd r.p sp:=by
 have S:=List.all_eq_true.mp Z.tab.sc r hr;rw[Bool.and_eq_true] at S;refine(Z.fn r hr).qS rfl (nI.of S.1) (λvs H Q E q=>(h vs H Q E q).1) λA outer s H vs Q E hr hs=>?_;obtain⟨t,a,b⟩:=(h vs H Q E hs).2 _ _ _ A outer s hR (nI.of S.1).nd hr (xC hr);exact⟨t,a,b⟩
theorem cW.okR(Z:cW es K mg)(h:∀vs H Q E,sp vs H Q E->pC P w K mg base N ps s R k vs H Q E)(e:∃r,lz es x=some r/\r.see=(N,ps,s)/\R r.q r.c):Ok P w K mg base cH x ps (k+1) sp:=by
 obtain⟨r,e1,e2,hR⟩:=e;unfold lz at e1;have hr:=Q1j e1;have hx:r.x=x:=by have:=Q1k e1;exact of_decide_eq_true this
 cases e2;subst hx;have ha:r∈jr es:=Q0o _ hr;exact⟨r.f,r.fd,Z.tp r hr,(Z.fn r ha).kp,Z.tab.binds ha K,Z.run ha hR h,(Z.fn r ha).look⟩
theorem cW.ok (Z:cW es K mg)(N:List Str)(s:Stmt)(h:∀vs H Q E,sp vs H Q E->pC P w K mg base N ps s (λ_ _=>True) k vs H Q E)(e:(lz es x).map FR.see=some (N,ps,s):=by kernel_rfl):Ok P w K mg base cH x ps (k+1) sp:=by
 obtain⟨r,e1,e2⟩:=Option.map_eq_some_iff.mp e;exact Z.okR h ⟨r,e1,e2,trivial⟩
theorem cW.qS (Z:cW es K mg)(N:List Str)(s:Stmt)(c:Nat)(h:∀vs H Q E,sp vs H Q E->pC P w K mg base N ps s (λq y=>q=x/\y=c) k vs H Q E)(e:(lz es x).map (λr=>(r.see,r.q,r.c))=some ((N,ps,s),x,c):=by kernel_rfl):Ok P w K mg base cH x ps (k+1) sp:=by
 obtain⟨r,e1,e2⟩:=Option.map_eq_some_iff.mp e;exact Z.okR h ⟨r,e1,(Prod.mk.inj e2).1,Prod.mk.inj (Prod.mk.inj e2).2⟩
theorem cW.no (Z:cW es K mg)(h:∀vs H Q E,¬sp vs H Q E)(e:(lz es x).map FR.p=some ps:=by kernel_rfl):Ok P w K mg base cH x ps (k+1) sp:=by
 obtain⟨r,e1,rfl⟩:=Option.map_eq_some_iff.mp e;exact Z.okR (N:=r.d.N) (s:=r.s) (R:=λ_ _=>True) (λvs H Q E q=>absurd q (h vs H Q E)) ⟨r,e1,rfl,trivial⟩
theorem cW.cls (Z:cW es K mg)(e:(nJ es C).map CR.x=some y:=by kernel_rfl):Cls K C/\mg y=some (.ref C):=by
 obtain⟨q,e1,rfl⟩:=Option.map_eq_some_iff.mp e;unfold nJ at e1;have hr:=Q1j e1;have hx:q.cls=C:=by have:=Q1k e1;exact of_decide_eq_true this
 subst hx;exact⟨(Z.cl q hr).1,(Z.cl q hr).2.1⟩
theorem cW.om (Z:cW es K mg)(N:List Str)(s:Stmt)(h:∀vs H Q E,sp vs H Q E->pC P w K mg base N ps s (λ_ _=>True) k vs H Q E)(e:y7 es C x=some (N,ps,s):=by kernel_rfl):Om P w K mg base cH C x ps (k+1) sp:=by
 unfold y7 at e;obtain⟨q,e0,e⟩:=Option.bind_eq_some_iff.mp e;unfold nJ at e0;have hq:=Q1j e0;have hc:q.cls=C:=by have:=Q1k e0;exact of_decide_eq_true this
 obtain⟨r,e1,e2⟩:=Option.map_eq_some_iff.mp e;have hr:=Q1j e1;have hx:r.x=x:=by have:=Q1k e1;exact of_decide_eq_true this
 cases e2;subst hx hc;have ha:r∈jr es:=Q07 _ (List.mem_flatMap.mpr ⟨q,hq,hr⟩);exact⟨(Z.cl q hq).1,r.f,r.fd,(Z.cl q hq).2.2.2.2 r hr,Z.tab.binds ha K,Z.run ha trivial h⟩
theorem cW.law (Z:cW es K mg)(aa:mg x=some (.ref fa))(e:(lz es x).map FR.p=some [y]:=by kernel_rfl):∃fd:FuncData,(∀(s:Shared) (v:Value),BindsTo s fd ⟨[v],[]⟩ [(y,v)])/\∀{P:Program} {w:World} {base:Heap} {k:Nat} {sp:Sp},Ok P w K mg base cH x [y] k sp->fY P w K mg base cH k fa fd [y] sp:=by
 obtain⟨r,e1,e2⟩:=Option.map_eq_some_iff.mp e;unfold lz at e1;have hr:=Q1j e1;have hx:r.x=x:=by have:=Q1k e1;exact of_decide_eq_true this
 subst hx;have ha:r∈jr es:=Q0o _ hr;have z:=(Z.tp r hr).symm.trans aa
 cases z;refine⟨r.fd,λs v=>.of_eq ?_,λ{P w base k sp} G=>?_⟩
 . have b:=hbL.of (Z.tab.b1 v) ha (by rw[e2];rfl);rw[e2] at b;exact b
 . obtain⟨f,d,a,_,_,F,l⟩:=G;have z:=a.symm.trans aa
   cases z;obtain⟨_,_,_,l⟩:=l;obtain⟨_,_,_,m⟩:=(Z.fn r ha).look;have q:=l.symm.trans m
   cases q;exact F
theorem cW.oi (Z:cW es K mg)(B:Om P w K mg base cH C "__init__" ps k sp)(e:(nJ es C).map CR.x=some x:=by kernel_rfl):Oi P w K mg base cH C x ps k sp:=by
 obtain⟨q,e1,rfl⟩:=Option.map_eq_some_iff.mp e;unfold nJ at e1;have hr:=Q1j e1;have hx:q.cls=C:=by have:=Q1k e1;exact of_decide_eq_true this
 subst hx;obtain⟨_,f,d,M,b,F⟩:=B;obtain⟨_,m,mk,kp,_⟩:=Z.cl q hr;exact⟨f,d,⟨mk,M.at_,M.fn,kp⟩,m,b,F⟩
end
structure ui (es:List En) (K:W.Frag):Prop where
 h1:(jr es).map (λr=>K.lookup r.f)=(jr es).map λr=>some (hF r)
 h2:((jr es).all λr=>W.codeIn K (.ref r.c) r.q && (W.keepIn K (.ref r.f) && W.isFn K (.ref r.f)))=true
 h3:(mC es).map (λr=>W.nsIn K mainGlobals r.x)=(mC es).map λr=>some (some (.ref r.f))
 h4:(kD es).map (λq=>(W.nsIn K mainGlobals q.x,W.findIn K (.ref q.cls) "__setattr__",q.fs.map λr=>W.findIn K (.ref q.cls) r.x))=(kD es).map λq=>(some (some (.ref q.cls)),some (some (.builtin "object.__setattr__")),q.fs.map λr=>some (some (.ref r.f)))
 h5:((kD es).all λq=>W.plainGet K q.cls Str.empty && (W.hasDictIn K q.cls && (W.plainOver K q.cls && (W.makesIn K q.cls && W.keepIn K (.ref q.cls)))))=true
theorem ui.env {es:List En}{K:W.Frag}{mg:Str->Option Value}{h:Heap}(k:ui es K)(T:TabOk (jr es))(X:K.In h)(G:h.Ns mainGlobals mg):cW es K mg:=by
 have H2:=List.all_eq_true.mp k.h2;refine⟨T,λr hr=>?_,λr hr=>W.mg_of X G (List.map_inj_left.mp k.h3 r hr),λq hq=>?_⟩
 . have a:=H2 r hr;simp only[Bool.and_eq_true] at a;exact⟨⟨_,_,_,_,_,_,_,_,_,rfl,List.map_inj_left.mp k.h1 r hr,a.1⟩,a.2.1⟩
 . have a:=List.all_eq_true.mp k.h5 q hq;simp only[Bool.and_eq_true] at a;have b:=Prod.mk.inj (List.map_inj_left.mp k.h4 q hq);have c:=Prod.mk.inj b.2;refine⟨⟨a.1,a.2.1,a.2.2.1,c.1⟩,W.mg_of X G b.1,a.2.2.2.1,a.2.2.2.2,λr hr=>?_⟩;have d:=H2 r (Q07 _ (List.mem_flatMap.mpr ⟨q,hq,hr⟩));simp only[Bool.and_eq_true] at d;exact⟨List.map_inj_left.mp c.2 r hr,d.2.2,d.2.1⟩
end Pb
namespace Pb
open L2
noncomputable section
@[irreducible] noncomputable def codeN (x:Str):Nat:=((lz es x).map FR.c).getD 0
structure CA where
 vw:Addr
 tk:Addr
 rn:Addr
 ne:Addr
 un:Addr
 wi:Addr
 aT:Addr
 ch:Addr
noncomputable def c:CA:=⟨239,435,482,529,576,630,684,314⟩
end
theorem cT {X:Cx}{k k2:Nat}{ps:List Str}{sp:Sp}{x:Str}{p pos:Pos}{e:Expr}{es:List Expr}(G:Ok X.prog X.w X.K X.mg X.base cH x ps k2 sp)(hr:d4 k X.A)(ha:PA X (e::es) t)(hk:k2<=k:=by first|decide|omega)(hg:Gl X x:=by rfl)(aa:(x == ("__debug__":Str))=false:=by decide)(he:starEach (e::es) X.env=(false,eval e X.env)::starEach es X.env:=by rfl)(ab:(backTo pos (starEach es X.env)).any (·.1)=false:=by rfl):PE X (.Call (.Name x p) (e::es) [] pos) (kg sp [] E0 t):=yZ G (hr.mono hk) hg fG ha aa he ab
theorem c_(i:Nat)(hN:X.N.Nodup)(he:PE X e te)(hi:X.N[i]? =some x:=by rfl)(hx:Loc X.env.scope x:=by exact Or.inl rfl)(hs:swapsWith e (some (.Name x aa)) pos.line X.env=pure false:=by rfl)(hf:X.fn x=true\/X.env.scope.names.lookup x=some .local:=by first|exact .inl rfl|exact .inr rfl|assumption):PS X (.Assign [.Name x aa] e pos) (m4 te (eG i)):=vY hN hi hx he hs hf
theorem Gw(i:Nat)(hN:X.N.Nodup)(he:PE X e te)(hi:X.N[i]? =some x:=by rfl)(hx:Loc X.env.scope x:=by exact Or.inr rfl)(hs:swapsWith e (some (.Name x aa)) pos.line X.env=pure false:=by rfl)(hf:X.fn x=true\/X.env.scope.names.lookup x=some .local:=by first|exact .inl rfl|exact .inr rfl|assumption):PS X (.Assign [.Name x aa] e pos) (m4 te (eG i)):=vY hN hi hx he hs hf
theorem nK:0<=sizeLine:=by decide
theorem gw:1<=sizeLine:=by decide
theorem gx:2<=sizeLine:=by decide
theorem J4:3<=sizeLine:=by decide
theorem uj:4<=sizeLine:=by decide
theorem J5:5<=sizeLine:=by decide
theorem Gx:6<=sizeLine:=by decide
theorem cX {X:Cx}{a b:Expr}{ta tb:TE}(ha:PE X a ta)(hb:PE X b tb)(hs:sX b:=by exact λ_ _=>rfl):PE X (.Subscript a b pos) (d6 (gm X.K) ta tb):=km El ha hb hs
theorem fE {X:Cx}{a b:Expr}{ta tb:TE}(ha:PE X a ta)(hb:PE X b tb)(hs:sX b:=by exact λ_ _=>rfl):PE X (.Subscript a b pos) (d6 (wX X.K) ta tb):=km Ej ha hb hs
theorem gD(aa:X.env.scope=sc:=by rfl)(hN:X.N=N:=by rfl)(k:scope.kind=.function:=by rfl)(c:tE own N scope sc=true:=by decide +kernel):ir X own scope:=ir.of aa hN k c
theorem d9 {α:Type}{a:α}:a=a\/p:=Or.inl rfl
theorem J6(h:(sc.kind == .function && !sc.isCoroutine && !sc.isGenerator && decide N.Nodup && N.take P.length == P && P.all (λx=>sc.names.lookup x == some .local || sc.names.lookup x == some .cell) && sc.names.all (λy=>y.2 != .free))=true:=by decide +kernel):ng N P sc:=by
 simp only[Bool.and_eq_true,Q10,Bool.or_eq_true,beq_iff_eq,bne_iff_ne,decide_eq_true_eq,Bool.not_eq_true',ne_eq] at h;obtain⟨⟨⟨⟨⟨⟨h1,h2⟩,h3⟩,h4⟩,h5⟩,h6⟩,h7⟩:=h;exact⟨h1,h2,h3,h4,h5,h6,h7⟩
theorem boot_isinstance:bootBuiltins "isinstance"=some (.builtin "isinstance"):=by decide +kernel
theorem boot_sorted:bootBuiltins "sorted"=some (.builtin "sorted"):=by decide +kernel
theorem boot_all:bootBuiltins "all"=some (.builtin "all"):=by decide +kernel
theorem boot_int:bootBuiltins "int"=some (.type "int"):=by decide +kernel
theorem boot_bool:bootBuiltins "bool"=some (.type "bool"):=by decide +kernel
theorem boot_str:bootBuiltins "str"=some (.type "str"):=by decide +kernel
theorem boot_list:bootBuiltins "list"=some (.type "list"):=by decide +kernel
theorem boot_tuple:bootBuiltins "tuple"=some (.type "tuple"):=by decide +kernel
theorem boot_set:bootBuiltins "set"=some (.type "set"):=by decide +kernel
theorem boot_dict:bootBuiltins "dict"=some (.type "dict"):=by decide +kernel
structure Tb (mg:Str->Option Value):Prop where
 eT:mg "len"=none
 gX:mg "isinstance"=none
 um:mg "sorted"=none
 pE:mg "all"=none
 jP:mg "range"=none
 qZ:mg "enumerate"=none
 y_:mg "zip"=none
 za:mg "int"=none
 uo:mg "bool"=none
 uq:mg "str"=none
 lA:mg "list"=none
 pF:mg "tuple"=none
 q9:mg "dict"=none
 Gy:mg "set"=none
def ie (K:W.Frag) (H:Hp) (a:Addr) (ns:List Int):Prop:=
 (∃o,H a=some (.e_ o (.lst (ns.map V.int))))\/
   ∃(o:Obj) (aa:Array Value) (n:Nat),K.lookup a=some o/\o.cls=.type "list"/\o.dict=none/\o.data=.seq aa n/\aa.size<=sizeLine/\Vals (ns.map V.int) aa.toList
theorem ie.sq(h:ie K H a ns):cM K H a (ns.map V.int):=by
 rcases h with⟨o,h⟩|h
 . exact .inl (.inr ⟨o,h⟩)
 . exact .inr h
def SB (b:Addr) (H H':Hp):Prop:=∀c o,c≠b->H c=some o->H' c=some o
theorem SB.trans(x:SB b H H1)(y:SB b H1 H2):SB b H H2:=λc o n h=>y c o n (x c o n h)
theorem SB.of(s:Same H H'):SB b H H':=λc o _ h=>s c o h
theorem SB.wr:SB b H (upd H b o):=λc u n h=>by rw[cQ n];exact h
theorem SB.new(h:H p=none):SB b H (upd H p o):=λc u n q=>by rw[cQ (c6 q h)];exact q
structure G0 (K:W.Frag) (H:Hp) (a b:Addr) (ns:List Int) (n:Int):Prop where
 iw:ie K H a ns
 len:ns.length<=63
 at_:H b=some (.lst [.int n])
 pos:0<=n
theorem SB.iw(x:SB b H H')(hb:H b=some (.lst [.int n]))(h:ie K H a ns):ie K H' a ns:=by
 rcases h with⟨o,h⟩|h
 . exact .inl ⟨o,x a _ (eK h hb (by intro z;cases z)) h⟩
 . exact .inr h
theorem SB.tu(x:SB b H H')(hb:H b=some (.lst [.int n])):Tu H H':=λc xs h=>x c _ (eK h hb (by intro z;cases z)) h
theorem G0.go(g:G0 K H a b ns n)(x:SB b H H')(h:H' b=some (.lst [.int n']))(hn:n<=n'):G0 K H' a b ns n':=
 ⟨x.iw g.at_ g.iw,g.len,h,by have:=g.pos;omega⟩
theorem Same.new(h:H p=none):Same H (upd H p o):=λc u q=>by rw[cQ (c6 q h)];exact q
theorem int_at {ns:List Int}{z:Int}(h0:0<=z)(h1:z<ns.length):fS (ns.map V.int) z=some (.int (ns.getD z.toNat 0)):=by
 obtain⟨j,rfl⟩:∃j:Nat,z=(j:Int):=⟨z.toNat,by omega⟩;rw[Q2i];exact fe (by rw[Q0g,Q0f,Q03 (by omega)];rfl)
inductive zb (K:W.Frag) (vs:List V) (H:Hp) (Q:V->Hp->Prop):Prop
 |mk (a:_) (b:_) (ns:_) (n:_) (h0:vs=[.ref a,.ref b]) (h1:G0 K H a b ns n) (h2:n<=1000000000000) (h3:∀(H':Hp),SB b H H'->H' b=some (.lst [.int (n+1)])->Q (.int (nx ns (n+1))) H'):zb K vs H Q
def nL (K:W.Frag):Sp:=λvs H Q _=>zb K vs H Q
inductive zc (K:W.Frag) (vs:List V) (H:Hp) (Q:V->Hp->Prop):Prop
 |mk (a:_) (b:_) (ns:_) (n:_) (h0:vs=[.ref a,.ref b]) (h1:G0 K H a b ns n) (h2:n<=1000000000000) (h3:∀(r:Int) (H':Hp),0<=r->r<1999999973->SB b H H'->H' b=some (.lst [.int (n+1)])->Q (.int r) H'):zc K vs H Q
def kE (K:W.Frag):Sp:=λvs H Q _=>zc K vs H Q
theorem q_(F:Ok P w K mg base CX x ps k (nL K)):Ok P w K mg base CX x ps k (kE K):=
 F.imp λvs H Q E ⟨a,b,ns,n,e,g,hn,q⟩=>⟨a,b,ns,n,e,g,hn,λH' s1 h1=>q _ H' (tZ _ _) (t9 _ _) s1 h1⟩
inductive zd (K:W.Frag) (vs:List V) (H:Hp) (Q:V->Hp->Prop):Prop
 |mk (a:_) (b:_) (ns:_) (n:_) (h0:vs=[.ref a,.ref b]) (h1:G0 K H a b ns n) (h2:n<=1000000000000) (h3:∀(v:V) (k:Kd) (H':Hp),SB b H H'->H' b=some (.lst [.int (n+1)])->KA H' v k->k.dep<=1->ll k->k.W->Q v H'):zd K vs H Q
def ra (K:W.Frag):Sp:=λvs H Q _=>zd K vs H Q
inductive ze (K:W.Frag) (vs:List V) (H:Hp) (Q:V->Hp->Prop):Prop
 |mk (a:_) (b:_) (ns:_) (n:_) (m:Nat) (h0:vs=[.ref a,.ref b,.int m]) (h1:m<=12) (h2:G0 K H a b ns n) (h3:n<=1000000000000) (h4:∀(p:Addr) (ss:List Str) (H':Hp),SB b H H'->H' b=some (.lst [.int (n+1)])->p≠b->H' p=some (.lst (ss.map V.str))->ss.length=m->ss.Nodup->Q (.ref p) H'):ze K vs H Q
def zf (K:W.Frag):Sp:=λvs H Q _=>ze K vs H Q
noncomputable def ck:Nat->Nat
 |0=>2
 |d+1=>3 * ck d+6
inductive zg (K:W.Frag) (d:Nat) (vs:List V) (H:Hp) (Q:V->Hp->Prop):Prop
 |mk (a:_) (b:_) (ns:_) (n:_) (h0:vs=[.ref a,.ref b,.int d]) (h1:G0 K H a b ns n) (h2:n+ck d<=1000000000000) (h3:∀(v:V) (k:Kd) (n':Int) (H':Hp),SB b H H'->H' b=some (.lst [.int n'])->n<=n'->n'<=n+ck d->KA H' v k->k.dep<=d+1->k.W->(k.bc=0/\k.sz<=jo d)->Q v H'):zg K d vs H Q
def nM (K:W.Frag) (d:Nat):Sp:=λvs H Q _=>zg K d vs H Q
inductive zh (K:W.Frag) (d:Nat) (vs:List V) (H:Hp) (Q:V->Hp->Prop):Prop
 |mk (a:_) (b:_) (ns:_) (n:_) (m:Nat) (h0:vs=[.ref a,.ref b,.int m,.int d]) (h1:m<=3) (h2:G0 K H a b ns n) (h3:n+1+3 * ck d<=1000000000000) (h4:∀(t:Addr) (xs:List V) (fs:Fs) (n':Int) (H':Hp),SB b H H'->H' b=some (.lst [.int n'])->n<=n'->n'<=n+1+3 * ck d->H' t=some (.tup xs)->FA H' xs fs->fs.names.Nodup->fs.names.length=m->fs.dep<=d+1->fs.W->(fs.bc=0/\fs.sz<=m * jo d)->Q (.ref t) H'):zh K d vs H Q
def zi (K:W.Frag) (d:Nat):Sp:=λvs H Q _=>zh K d vs H Q
inductive zj (K:W.Frag) (d:Nat) (vs:List V) (H:Hp) (Q:V->Hp->Prop):Prop
 |mk (a:_) (b:_) (ns:_) (n:_) (m:Nat) (h0:vs=[.ref a,.ref b,.int m,.int d]) (h1:1<=m) (h2:m<=3) (h3:G0 K H a b ns n) (h4:n+5+3 * ck d<=1000000000000) (h5:∀(v:V) (k:Kd) (n':Int) (H':Hp),SB b H H'->H' b=some (.lst [.int n'])->n<=n'->n'<=n+5+3 * ck d->KA H' v k->k.dep<=d+2->k.W->(∃key by_ fs,k=.rows key by_ fs)->Q v H'):zj K d vs H Q
def zk (K:W.Frag) (d:Nat):Sp:=λvs H Q _=>zj K d vs H Q
inductive zm (K:W.Frag) (vs:List V) (H:Hp) (Q:V->Hp->Prop):Prop
 |mk (a:_) (b:_) (ns:_) (n:_) (h0:vs=[.ref a,.ref b]) (h1:G0 K H a b ns n) (h2:n<=1000000000000) (h3:∀(H':Hp),SB b H H'->H' b=some (.lst [.int (n+1)])->Q (.int (num ns (n+1))) H'):zm K vs H Q
def zo (K:W.Frag):Sp:=λvs H Q _=>zm K vs H Q
inductive zp (K:W.Frag) (vs:List V) (H:Hp) (Q:V->Hp->Prop):Prop
 |mk (a:_) (b:_) (ns:_) (n:_) (h0:vs=[.ref a,.ref b]) (h1:G0 K H a b ns n) (h2:n<=1000000000000) (h3:∀(H':Hp),SB b H H'->H' b=some (.lst [.int (n+1)])->Q (.str (eu ns (n+1))) H'):zp K vs H Q
def zq (K:W.Frag):Sp:=λvs H Q _=>zp K vs H Q
inductive zr (K:W.Frag) (vs:List V) (H:Hp) (Q:V->Hp->Prop):Prop
 |mk (a:_) (b:_) (ns:_) (n:_) (m:Nat) (h0:vs=[.ref a,.ref b,.int m]) (h1:m<=12) (h2:G0 K H a b ns n) (h3:n<=1000000000000) (h4:∀(p:Addr) (ss:List Str) (H':Hp),SB b H H'->H' b=some (.lst [.int (n+1)])->p≠b->H' p=some (.lst (ss.map V.str))->ss.length=m->ss.Nodup->ss.Pairwise sle->(∀x∈ss,wt x=0)->Q (.ref p) H'):zr K vs H Q
def uu (K:W.Frag):Sp:=λvs H Q _=>zr K vs H Q
theorem namesW(F:Ok P w K mg base CX x ps k (uu K)):Ok P w K mg base CX x ps k (zf K):=
 F.imp λvs H Q E ⟨a,b,ns,n,m,e,hm,g,hn,q⟩=>⟨a,b,ns,n,m,e,hm,g,hn,λp ss H' s1 h1 h2 h3 h4 h5 _ _=>q p ss H' s1 h1 h2 h3 h4 h5⟩
inductive zt (K:W.Frag) (d:Nat) (vs:List V) (H:Hp) (Q:V->Hp->Prop):Prop
 |mk (a:_) (b:_) (ns:_) (n:_) (m:Nat) (h0:vs=[.ref a,.ref b,.int m,.int d]) (h1:m<=12) (h2:G0 K H a b ns n) (h3:n+1+m * ck d<=1000000000000) (h4:∀(t:Addr) (xs:List V) (fs:Fs) (n':Int) (H':Hp),SB b H H'->H' b=some (.lst [.int n'])->n<=n'->n'<=n+1+m * ck d->H' t=some (.tup xs)->FA H' xs fs->fs.names.Nodup->fs.names.length=m->fs.dep<=d+1->fs.W->(fs.bc=0/\fs.sz<=m * jo d)->fs.names.Pairwise sle->(∀x∈fs.names,wt x=0)->Q (.ref t) H'):zt K d vs H Q
def uv (K:W.Frag) (d:Nat):Sp:=λvs H Q _=>zt K d vs H Q
theorem Gz(F:Ok P w K mg base CX x ps k (uv K d)):Ok P w K mg base CX x ps k (zi K d):=
 F.imp λvs H Q E ⟨a,b,ns,n,m,e,hm,g,hn,q⟩=>by
   have e3:(m:Int) * ck d<=3 * ck d:=Q1d (by omega) (by omega);exact⟨a,b,ns,n,m,e,by omega,g,by omega,λt xs fs n' H' h1 h2 h3 h4 h5 h6 h7 h8 h9 aa ab _ _=>q t xs fs n' H' h1 h2 h3 (by omega) h5 h6 h7 h8 h9 aa ab⟩
variable {P:Program}{w:World}{K:W.Frag}{mg:Str->Option Value}{base:Heap}
theorem pG (T:Tb mg)(Z:cW es K mg):Ok P w K mg base cH "_law_next" XD (1) (nL K):=by
 refine Z.ok YI (top 46) λvs H Q E h=>?_;obtain⟨a,b,ns,n,rfl,g,hn,q⟩:=h;refine⟨rfl,λql f ab A outer s _ nd hr hu=>?_⟩
 refine⟨_,(cK (sC (cU gT (fE (pv 1) cI) cI) (Du (pv 1) cI set_list))
  (cK (c_ 2 nd cI)
  (cK (dq (di m7 (dG fC (by rfl) T.eT PySem.boot_len (a_ (pv 0) cG)) cI (c9 _)) (cO (c_ 2 nd (fE (pv 0) (cU dH (fE (pv 1) cI) (dG fC (by rfl) T.eT PySem.boot_len (a_ (pv 0) cG)))))) dt)
  (cK (c_ 3 nd (cU dH (cU ke (cU gT (cU gT (cU dH (pv 2) cI) (cU ke (cU ke (fE (pv 1) cI) (fE (pv 1) cI)) cI)) cI) cI) cI))
  (cO (cS (cU dH (cU ke (pv 3) (pv 3)) cI))))))),?_⟩
 ac_rfl
 have hb:=g.at_;have hp:=g.pos;have hS:cM K (upd H b (.lst [.int (n+1)])) a (ns.map V.int):=(SB.wr.iw hb g.iw).sq;have aa:upd H b (.lst [.int (n+1)]) b=some (.lst [.int (n+1)]):=cV;refine⟨_,rfl,b,_,_,_,rfl,rfl,cM.of hb,rfl,_,_,rfl,rfl,_,rfl,b,_,_,0,rfl,rfl,hb,rfl,?_⟩;refine⟨_,rfl,a,_,rfl,.inl hS,_,_,rfl,rfl,_,rfl,?_⟩;have hl:(ns.map V.int).length=ns.length:=Q01 _;refine dz (λc=>?_) (λc=>?_)
 . have c':(0:Int)<((ns.map V.int).length:Nat):=of_decide_eq_true c;rw[hl] at c';have i0:=Q0k (n+1) (show(ns.length:Int)≠0 by omega);have i1:=Q0l (n+1) c'
   have hz:fS (ns.map V.int) ((n+1) % (((ns.map V.int).length:Nat):Int))=some (.int (cellAt ns (n+1))):=by
    rw[hl,int_at i0 i1];unfold cellAt;rw[if_pos (by omega)]
   refine⟨_,rfl,_,rfl,b,_,_,_,rfl,rfl,cM.of aa,rfl,_,rfl,a,_,rfl,.inl hS,_,_,rfl,rfl,by rw[hl];exact c',a,_,_,_,rfl,rfl,hS,hz,?_⟩
   refine⟨_,rfl,_,_,rfl,rfl,(by show(0:Int)<_;decide),_,rfl,b,_,_,_,rfl,rfl,cM.of aa,rfl,_,rfl,b,_,_,_,rfl,rfl,cM.of aa,rfl,_,_,rfl,rfl,.inl ⟨by omega,by omega⟩,_,_,rfl,rfl,.inr ⟨by decide,by decide⟩,
    _,_,rfl,rfl,_,_,rfl,rfl,_,_,rfl,rfl,.inr ⟨by decide,by decide⟩,_,_,rfl,rfl,(by show(0:Int)<_;decide),?_⟩
   refine⟨_,rfl,_,rfl,_,_,rfl,rfl,.inl ⟨?_,?_⟩,_,_,rfl,rfl,(by show(0:Int)<_;decide),q _ SB.wr aa⟩
   . exact Q36 (by decide) (Q0k _ (by decide))
   . exact Int.lt_trans (Q0l _ (by decide)) (by decide)
 . have c':¬(0:Int)<((ns.map V.int).length:Nat):=λz=>c (decide_eq_true z);rw[hl] at c'
   have hz:cellAt ns (n+1)=0:=by
    unfold cellAt;rw[if_neg (by omega)]
   have q':Q (.int (((0:Int) % 2147483647+(n+1) * (n+1) * 7919+11) * 48271 % 2147483647 * (((0:Int) % 2147483647+(n+1) * (n+1) * 7919+11) * 48271 % 2147483647) % 1999999973)) (upd H b (.lst [.int (n+1)])):=by
    have:=q _ SB.wr aa;unfold nx at this;rw[hz] at this;exact this
   refine⟨_,rfl,_,_,rfl,rfl,(by show(0:Int)<_;decide),_,rfl,b,_,_,_,rfl,rfl,cM.of aa,rfl,_,rfl,b,_,_,_,rfl,rfl,cM.of aa,rfl,_,_,rfl,rfl,.inl ⟨by omega,by omega⟩,_,_,rfl,rfl,.inr ⟨by decide,by decide⟩,
    _,_,rfl,rfl,_,_,rfl,rfl,_,_,rfl,rfl,.inr ⟨by decide,by decide⟩,_,_,rfl,rfl,(by show(0:Int)<_;decide),?_⟩
   refine⟨_,rfl,_,rfl,_,_,rfl,rfl,.inl ⟨?_,?_⟩,_,_,rfl,rfl,(by show(0:Int)<_;decide),q'⟩
   . exact Q36 (by decide) (Q0k _ (by decide))
   . exact Int.lt_trans (Q0l _ (by decide)) (by decide)
theorem zu (T:Tb mg)(Z:cW es K mg)(aa:Ok P w K mg base cH "_law_next" XD (1) (kE K)):Ok P w K mg base cH "_law_plain" XD (2) (ra K):=by
 refine Z.ok XD (top 50) λvs H Q E h=>?_;obtain⟨a,b,ns,n,rfl,g,hn,q⟩:=h;refine⟨rfl,λql f ae A outer s _ nd hr hu=>?_⟩
 refine⟨_,(cK (dq (di dO (cU dH (cT aa hr (a_ (pv 0) (a_ (pv 1) cG))) cI) cI (c9 _)) (cO (cS (gc (a_ d0 cG)))) dt)
  (cO (cS (gc (a_ d0 cG))))),?_⟩
 ac_rfl
 refine⟨_,rfl,_,rfl,a,b,ns,n,rfl,g,hn,λr H1 r0 r1 s1 h1=>?_⟩;refine⟨_,_,rfl,rfl,(by show(0:Int)<_;decide),rfl,_,rfl,?_⟩
 have fin:∀(x:Str) (k:Kd),(∀(p:Addr) (H2:Hp),H2 p=some (.tup [.str x])->KA H2 (.ref p) k)->k.dep<=1->ll k->k.W->∀p,H1 p=none->Q (.ref p) (upd H1 p (.tup [.str x])):=λx k hk hd hp hw p ab=>
  q _ k _ (s1.trans (SB.new ab)) (by rw[cQ (c6 h1 ab)];exact h1) (hk p _ cV) hd hp hw
 refine dz (λc=>?_) (λc=>?_)
 . exact⟨gw,λp hp=>fin _ .num (λp H2 e=>by unfold KA;exact⟨p,rfl,e⟩) (Q0 _) trivial (by unfold Kd.W;trivial) p hp⟩
 . exact⟨gw,λp hp=>fin _ .eu (λp H2 e=>by unfold KA;exact⟨p,rfl,e⟩) (Q0 _) trivial (by unfold Kd.W;trivial) p hp⟩
theorem GA (T:Tb mg)(Z:cW es K mg)(aa:Ok P w K mg base cH "_law_next" XD (1) (nL K)):Ok P w K mg base cH "_law_number" XD (2) (zo K):=by
 refine Z.ok YJ (top 47) λvs H Q E h=>?_;obtain⟨a,b,ns,n,rfl,g,hn,q⟩:=h;refine⟨rfl,λql f ae A outer s _ nd hr hu=>?_⟩
 refine⟨_,(cK (c_ 2 nd (cT aa hr (a_ (pv 0) (a_ (pv 1) cG))))
  (cK (c_ 3 nd cI)
  (cK (dq (di m7 (dG fC (by rfl) T.eT PySem.boot_len (a_ (pv 0) cG)) cI (c9 _)) (cO (c_ 3 nd (fE (pv 0) (cU dH (fE (pv 1) cI) (dG fC (by rfl) T.eT PySem.boot_len (a_ (pv 0) cG)))))) dt)
  (cK (dq (di dO (cU dH (pv 2) cI) cI (c9 _)) (cO (cS (cU ji (cU dH (cU eZ (pv 2) cI) cI) cI))) dt)
  (cO (cS (cU ji (cU dH (cU gT (cU dH (pv 3) (cU qz cI cI)) (cU ke (pv 2) (cU qz cI cI))) (cU ke cI (cU qz cI cI))) (cU qz cI cI)))))))),?_⟩
 ac_rfl
 refine⟨_,rfl,_,rfl,a,b,ns,n,rfl,g,hn,λH1 s1 h1=>?_⟩;have g1:=g.go s1 h1 (by omega);have hS:=g1.iw.sq;have r0:=tZ ns (n+1);have r1:=t9 ns (n+1);have hl:(ns.map V.int).length=ns.length:=Q01 _;have hq:∀e,num ns (n+1)=e->Q (.int e) H1:=λe he=>by rw[<-he];exact q _ s1 h1
 unfold num at hq;refine⟨_,rfl,a,_,rfl,.inl hS,_,_,rfl,rfl,_,rfl,?_⟩;have pw:sJ 10 40:=⟨by decide,by decide,by decide⟩;have ab:sJ 10 29:=⟨by decide,by decide,by decide⟩;refine dz (λc=>?_) (λc=>?_)
 . have c':(0:Int)<((ns.map V.int).length:Nat):=of_decide_eq_true c;rw[hl] at c';have i0:=Q0k (n+1) (show(ns.length:Int)≠0 by omega);have i1:=Q0l (n+1) c'
   have hz:fS (ns.map V.int) ((n+1) % (((ns.map V.int).length:Nat):Int))=some (.int (cellAt ns (n+1))):=by
    rw[hl,int_at i0 i1];unfold cellAt;rw[if_pos (by omega)]
   refine⟨_,rfl,_,rfl,b,_,_,_,rfl,rfl,cM.of h1,rfl,_,rfl,a,_,rfl,.inl hS,_,_,rfl,rfl,by rw[hl];exact c',a,_,_,_,rfl,rfl,hS,hz,?_⟩;refine⟨_,rfl,_,_,rfl,rfl,(by show(0:Int)<_;decide),rfl,_,rfl,dz (λc2=>?_) (λc2=>?_)⟩
   . have c3:nx ns (n+1) % 3=0:=by
      have:=of_decide_eq_true c2;injection this
     refine⟨_,rfl,_,_,rfl,rfl,⟨by decide,by decide⟩,_,_,rfl,rfl,(by show(0:Int)<_;decide),_,_,rfl,rfl,hq _ (by rw[if_pos c3])⟩
   . have c3:¬nx ns (n+1) % 3=0:=λz=>c2 (decide_eq_true (show V.int (nx ns (n+1) % 3)=V.int 0 by rw[z]));refine⟨_,rfl,_,_,rfl,rfl,pw,_,_,rfl,rfl,(by show(0:Int)<_;decide),_,rfl,_,_,rfl,rfl,ab,_,_,rfl,rfl,.inl ⟨by omega,by omega⟩,_,_,rfl,rfl,_,_,rfl,rfl,pw,_,_,rfl,rfl,.inl ⟨by decide,by decide⟩,_,_,rfl,rfl,(by show(0:Int)<_;decide),_,_,rfl,rfl,pw,_,_,rfl,rfl,hq _ (by rw[if_neg c3];rfl)⟩
 . have c':¬(0:Int)<((ns.map V.int).length:Nat):=λz=>c (decide_eq_true z);rw[hl] at c'
   have hz:cellAt ns (n+1)=0:=by
    unfold cellAt;rw[if_neg (by omega)]
   refine⟨_,rfl,_,_,rfl,rfl,(by show(0:Int)<_;decide),rfl,_,rfl,dz (λc2=>?_) (λc2=>?_)⟩
   . have c3:nx ns (n+1) % 3=0:=by
      have:=of_decide_eq_true c2;injection this
     refine⟨_,rfl,_,_,rfl,rfl,⟨by decide,by decide⟩,_,_,rfl,rfl,(by show(0:Int)<_;decide),_,_,rfl,rfl,hq _ (by rw[if_pos c3])⟩
   . have c3:¬nx ns (n+1) % 3=0:=λz=>c2 (decide_eq_true (show V.int (nx ns (n+1) % 3)=V.int 0 by rw[z]));refine⟨_,rfl,_,_,rfl,rfl,pw,_,_,rfl,rfl,(by show(0:Int)<_;decide),_,rfl,_,_,rfl,rfl,ab,_,_,rfl,rfl,.inl ⟨by omega,by omega⟩,_,_,rfl,rfl,_,_,rfl,rfl,pw,_,_,rfl,rfl,.inl ⟨by decide,by decide⟩,_,_,rfl,rfl,(by show(0:Int)<_;decide),_,_,rfl,rfl,pw,_,_,rfl,rfl,hq _ (by rw[if_neg c3,hz];rfl)⟩
theorem nN:iY.length=93:=by decide +kernel
theorem zv(h0:0<=z)(h1:z<93):fS iY.cps.toList z=some (iY.cps.toList.getD z.toNat 0):=by
 have hl:iY.cps.toList.length=93:=by
  have:=nN;rw[Q1u];exact this
 unfold fS jH;rw[hl,if_pos h0,if_pos (show z<((93:Nat):Int) by omega)];show iY.cps.toList[z.toNat]? =_;rw[Q0f,Q03 (by omega)];rfl
theorem uw (m:Int):∀k,(nB m k).length=k
 |0=>rfl
 |k+1=>by
  show(nB m k++_).length=_;rw[yN,uw m k];rfl
noncomputable def σW (a b:Addr) (m:Int) (k:Int) (w:Str) (y z:Option V):St:=[some (.ref a),some (.ref b),some (.str iY),some (.int m),some (.int k),some (.str w),y,z]
theorem GB (T:Tb mg)(Z:cW es K mg)(aa:Ok P w K mg base cH "_law_next" XD (1) (nL K)):Ok P w K mg base cH "_law_word" XD (2) (zq K):=by
 refine Z.ok Xl (top 48) λvs H Q E h=>?_;obtain⟨a,b,ns,n,rfl,g,hn,q⟩:=h;refine⟨rfl,λql f ae A outer s _ nd hr hu=>?_⟩
 refine⟨_,(cK (c_ 2 nd d0)
  (cK (c_ 2 nd (cU m_ (pv 2) d0))
  (cK (c_ 3 nd (cT aa hr (a_ (pv 0) (a_ (pv 1) cG))))
  (cK (c_ 4 nd (cU dH (pv 3) cI))
  (cK (dq (di dO (cU dH (cU eZ (pv 3) cI) cI) cI (c9 _)) (cO (c_ 4 nd cI)) dt)
  (cK (c_ 5 nd d0)
  (cK (fR PassesOwn.never rfl (k_ rfl T.jP (a_ (pv 4) cG)) (dy (i:=6) nd rfl d9) (cK (c_ 7 nd (cU gT (cU eZ (pv 3) cI) (cU ke (cU ke (pv 6) (pv 6)) (cU dH (cU eZ (pv 3) cI) cI))))
  (cO (c_ 5 nd (cU m_ (pv 5) (km mf (pv 2) (cU dH (pv 7) (dG Ew (by rfl) T.eT PySem.boot_len (a_ (pv 2) cG))) (λ_ _=>rfl)))))))
  (cO (cS (pv 5)))))))))),?_⟩
 ac_rfl
 have ab:(iY).length<=sizeLine:=by rw[nN];decide
 refine⟨_,rfl,_,_,rfl,rfl,ab,?_⟩;refine⟨_,rfl,_,rfl,a,b,ns,n,rfl,g,hn,λH1 s1 h1=>?_⟩;have r0:=tZ ns (n+1);have r1:=t9 ns (n+1);have hq:∀e,eu ns (n+1)=e->Q (.str e) H1:=λe he=>by rw[<-he];exact q _ s1 h1
 unfold eu at hq;generalize nx ns (n+1)=m at *;refine⟨_,rfl,_,_,rfl,rfl,(by show(0:Int)<_;decide),?_⟩;refine⟨_,rfl,_,_,rfl,rfl,⟨by decide,by decide⟩,_,_,rfl,rfl,(by show(0:Int)<_;decide),rfl,_,rfl,dz (λc=>?_) (λc=>?_)⟩
 . have c3:m / 5 % 29=0:=by
    have:=of_decide_eq_true c;injection this
   rw[if_pos c3] at hq;refine⟨_,rfl,_,rfl,by decide,by decide,ka (n:=Int.toNat 40) (λi σ H'=>∃y z,σ=σW a b m 40 (nB m i) y z/\H'=H1) ⟨_,_,rfl,rfl⟩ ?_ ?_⟩
   . rintro i σ H' hi ⟨y,z,rfl,rfl⟩;have hi:i<40:=hi;have e0:(0:Int)+(i:Int)=(i:Int):=by omega
     have l3:0<=(m / 145+((0:Int)+(i:Int)) * ((0:Int)+(i:Int)) * (m / 7 % 3)) % 93/\(m / 145+((0:Int)+(i:Int)) * ((0:Int)+(i:Int)) * (m / 7 % 3)) % 93<93:=⟨Q0k _ (by decide),Q0l _ (by decide)⟩;refine⟨_,rfl,_,_,rfl,rfl,⟨by decide,by decide⟩,_,rfl,_,rfl,_,_,rfl,rfl,.inl ⟨by omega,by omega⟩,_,rfl,_,_,rfl,rfl,⟨by decide,by decide⟩,_,_,rfl,rfl,(by show(0:Int)<_;decide),_,_,rfl,rfl,.inr ⟨by omega,by omega⟩,_,_,rfl,rfl,?_⟩;refine⟨_,rfl,_,rfl,_,rfl,_,rfl,_,rfl,ab,_,_,rfl,rfl,(by show(0:Int)<((iY.length:Nat):Int);rw[nN];decide),iY,_,_,rfl,rfl,ab,(by rw[nN];exact zv l3.1 l3.2),_,_,rfl,rfl,?_,?_⟩
     . rw[uw];show i+1<=sizeLine;exact Q0t (eE (by omega))
     . rw[e0];exact⟨_,_,rfl,rfl⟩
   . rintro σ H' ⟨y,z,rfl,rfl⟩;exact⟨_,rfl,hq _ rfl⟩
 . have c3:¬m / 5 % 29=0:=λz=>c (decide_eq_true (show V.int (m / 5 % 29)=V.int 0 by rw[z]));rw[if_neg c3] at hq;have h5:0<=m % 5/\m % 5<5:=by omega
   refine⟨_,rfl,_,rfl,by omega,by omega,ka (n:=Int.toNat (m % 5)) (λi σ H'=>∃y z,σ=σW a b m (m % 5) (nB m i) y z/\H'=H1) ⟨_,_,rfl,rfl⟩ ?_ ?_⟩
   . rintro i σ H' hi ⟨y,z,rfl,rfl⟩;have hi:i<40:=by omega
     have e0:(0:Int)+(i:Int)=(i:Int):=by omega
     have l3:0<=(m / 145+((0:Int)+(i:Int)) * ((0:Int)+(i:Int)) * (m / 7 % 3)) % 93/\(m / 145+((0:Int)+(i:Int)) * ((0:Int)+(i:Int)) * (m / 7 % 3)) % 93<93:=⟨Q0k _ (by decide),Q0l _ (by decide)⟩;refine⟨_,rfl,_,_,rfl,rfl,⟨by decide,by decide⟩,_,rfl,_,rfl,_,_,rfl,rfl,.inl ⟨by omega,by omega⟩,_,rfl,_,_,rfl,rfl,⟨by decide,by decide⟩,_,_,rfl,rfl,(by show(0:Int)<_;decide),_,_,rfl,rfl,.inr ⟨by omega,by omega⟩,_,_,rfl,rfl,?_⟩;refine⟨_,rfl,_,rfl,_,rfl,_,rfl,_,rfl,ab,_,_,rfl,rfl,(by show(0:Int)<((iY.length:Nat):Int);rw[nN];decide),iY,_,_,rfl,rfl,ab,(by rw[nN];exact zv l3.1 l3.2),_,_,rfl,rfl,?_,?_⟩
     . rw[uw];show i+1<=sizeLine;exact Q0t (eE (by omega))
     . rw[e0];exact⟨_,_,rfl,rfl⟩
   . rintro σ H' ⟨y,z,rfl,rfl⟩;exact⟨_,rfl,hq _ rfl⟩
theorem GC (n:Nat)(h:n<=1000):Builtin.Str.tooLong n=false:=by
 have:n<=sizeLine:=Q0t (eE h);unfold Builtin.Str.tooLong;exact decide_eq_false (by omega)
theorem GD (f:Nat->Str)(i:Nat):((List.range (i+1)).map f).map V.str=((List.range i).map f).map V.str++[V.str (f i)]:=by
 rw[Q2j,Q0h,Q0h];rfl
noncomputable abbrev abc:Str:="abcdefghijklmnopqrstuvwxyz"
noncomputable abbrev stemOf (r:Int):Str:=lt (r / 6 % 26)++lt (r / 156 % 26)
noncomputable def σN (a b:Addr) (m:Nat) (r:Int) (p:Addr) (y z:Option V):St:=
 [some (.ref a),some (.ref b),some (.int m),some (.str abc),some (.int r),some (.int (2 * (r % 6)+1)),some (.str (stemOf r)),some (.int (r / 4056 % 3)),some (.ref p),y,z]
theorem zw (T:Tb mg)(Z:cW es K mg)(aa:Ok P w K mg base cH "_law_next" XD (1) (kE K)):Ok P w K mg base cH "_law_names" Xy (2) (uu K):=by
 refine Z.ok XX (top 49) λvs H Q E h=>?_;obtain⟨a,b,ns,n,m,rfl,hm,g,hn,q⟩:=h;refine⟨rfl,λql f ao A outer s _ nd hr hu=>?_⟩
 refine⟨_,(cK (c_ 3 nd d0)
  (cK (c_ 4 nd (cT aa hr (a_ (pv 0) (a_ (pv 1) cG))))
  (cK (c_ 5 nd (fE (eR (a_ cI (a_ cI (a_ cI (a_ cI (a_ cI (a_ cI cG))))))) (cU dH (pv 4) cI)))
  (cK (c_ 6 nd (cU m_ (km mf (pv 3) (cU dH (cU eZ (pv 4) cI) cI) (λ_ _=>rfl)) (km mf (pv 3) (cU dH (cU eZ (pv 4) cI) cI) (λ_ _=>rfl))))
  (cK (c_ 7 nd (cU dH (cU eZ (pv 4) cI) cI))
  (cK (c_ 8 nd (eR cG))
  (cK (fR PassesOwn.never rfl (k_ rfl T.jP (a_ (pv 2) cG)) (dy (i:=9) nd rfl d9) (cO (dq (di dO (cU dH (cU eZ (pv 4) cI) cI) cI (c9 _)) (cO (ft (jI PySem.F.plainAttrs_list PySem.F.slot_list_append PySem.F.type_list_append mj (pv 8) (a_ (cU E_ (km mf (pv 3) (cU dH (cU eZ (pv 4) cI) cI) (λ_ _=>rfl)) (cU gT (pv 9) cI)) cG)))) (cK (c_ 10 nd (km mf (pv 3) (cU dH (cU gT (cU eZ (pv 4) cI) (cU ke (pv 9) (pv 5))) cI) (λ_ _=>rfl)))
  (cO (ft (jI PySem.F.plainAttrs_list PySem.F.slot_list_append PySem.F.type_list_append mj (pv 8) (a_ (cU m_ (cU m_ (qD xQ (pv 6) qB (qC (pv 7))) (pv 10)) (qD xQ (pv 6) (qC (pv 7)) qB)) cG))))))))
  (cO (cS (dG E5 (by rfl) T.um boot_sorted (a_ (pv 8) cG))))))))))),?_⟩
 ac_rfl
 refine⟨_,rfl,_,rfl,a,b,ns,n,rfl,g,hn,λr H1 r0 r1 s1 h1=>?_⟩;have hz:(abc).length<=sizeLine:=by decide +kernel
 have m6:0<=r % 6/\r % 6<6:=by omega
 have l1:0<=r / 6 % 26/\r / 6 % 26<26:=by omega
 have l2:0<=r / 156 % 26/\r / 156 % 26<26:=by omega
 refine⟨Gx,λp1 ah=>?_⟩;refine⟨_,rfl,_,_,rfl,rfl,(by show(0:Int)<_;decide),p1,_,_,_,rfl,rfl,cM.of cV,Ga m6.1 m6.2,?_⟩;have s2:SB b H (upd H1 p1 (.lst [.int 1,.int 3,.int 5,.int 7,.int 9,.int 11])):=s1.trans (SB.new ah);have h2:upd H1 p1 (.lst [.int 1,.int 3,.int 5,.int 7,.int 9,.int 11]) b=some (.lst [.int (n+1)]):=by rw[cQ (c6 h1 ah)];exact h1
 generalize upd H1 p1 (.lst [.int 1,.int 3,.int 5,.int 7,.int 9,.int 11])=H2 at s2 h2
 refine⟨_,rfl,_,rfl,_,_,rfl,rfl,⟨by decide,by decide⟩,_,_,rfl,rfl,(by show(0:Int)<_;decide),_,_,_,rfl,rfl,hz,nH l1.1 l1.2,_,rfl,_,rfl,_,_,rfl,rfl,⟨by decide,by decide⟩,_,_,rfl,rfl,(by show(0:Int)<_;decide),_,_,_,rfl,rfl,hz,nH l2.1 l2.2,
  _,_,rfl,rfl,gx,?_⟩
 refine⟨_,rfl,_,_,rfl,rfl,⟨by decide,by decide⟩,_,_,rfl,rfl,(by show(0:Int)<_;decide),?_⟩;refine⟨nK,λp hp=>?_⟩;have aj:p≠b:=λz=>by rw[z,h2] at hp;cases hp
 have em:Int.toNat (m:Int)=m:=by omega
 refine⟨_,rfl,_,rfl,by omega,by omega,ka (n:=Int.toNat (m:Int)) (λi σ H'=>∃y z,σ=σN a b m r p y z/\SB b H H'/\H' b=some (.lst [.int (n+1)])/\H' p=some (.lst (((List.range i).map (nameAt r)).map V.str))) ?_ ?_ ?_⟩
 . exact⟨_,_,rfl,s2.trans (SB.new hp),by rw[cQ (c6 h2 hp)];exact h2,cV⟩
 . intro i σ H' hi zq;obtain⟨y,z,rfl,sb,af,ab⟩:=zq;rw[em] at hi
   have hlen:(((List.range i).map (nameAt r)).map V.str).length<sizeLine:=by
    rw[Q01,Q01,Q1p];exact eE (by omega)
   have next:∀(v:Str) (y' z':Option V),v=nameAt r i->∃y z,σN a b m r p y' z'=σN a b m r p y z/\SB b H (upd H' p (.lst (((List.range i).map (nameAt r)).map V.str++[V.str v])))/\
    upd H' p (.lst (((List.range i).map (nameAt r)).map V.str++[V.str v])) b=some (.lst [.int (n+1)])/\upd H' p (.lst (((List.range i).map (nameAt r)).map V.str++[V.str v])) p=some (.lst (((List.range (i+1)).map (nameAt r)).map V.str)):=by
    rintro v y' z' rfl;refine⟨y',z',rfl,λc o hc hh=>?_,by rw[cQ (Ne.symm aj)];exact af,by rw[cV,GD]⟩;by_cases e:c=p
    . subst e;have:=s2 c o hc hh;rw[hp] at this;cases this
    . rw[cQ e];exact sb c o hc hh
   have e0:(0:Int)+(i:Int)=(i:Int):=by omega
   refine⟨_,rfl,_,_,rfl,rfl,⟨by decide,by decide⟩,_,_,rfl,rfl,(by show(0:Int)<_;decide),rfl,_,rfl,?_⟩;refine dz (λc=>?_) (λc=>?_)
   . have c':r / 12168 % 4=0:=by
      have:=of_decide_eq_true c;injection this
     refine⟨_,rfl,.inl ⟨rfl,_,cM.of ab⟩,_,rfl,_,rfl,_,_,rfl,rfl,⟨by decide,by decide⟩,_,_,rfl,rfl,(by show(0:Int)<_;decide),_,_,_,rfl,rfl,hz,nH l1.1 l1.2,_,rfl,_,_,rfl,rfl,_,_,rfl,rfl,?_,p,_,_,rfl,rfl,ab,hlen,?_⟩
     . rw[e0];exact Gh (qY _) (by omega) GC
     . refine next _ _ _ ?_;rw[e0];unfold nameAt;rw[if_pos c'];rfl
   . have c':¬r / 12168 % 4=0:=λz=>c (decide_eq_true (show V.int (r / 12168 % 4)=V.int 0 by rw[z]));have l3:0<=(r / 156+((0:Int)+(i:Int)) * (2 * (r % 6)+1)) % 26/\(r / 156+((0:Int)+(i:Int)) * (2 * (r % 6)+1)) % 26<26:=⟨Q0k _ (by decide),Q0l _ (by decide)⟩;have ls:(stemOf r).length<=sizeLine:=gx;refine⟨_,rfl,_,rfl,_,_,rfl,rfl,⟨by decide,by decide⟩,_,rfl,_,rfl,_,_,rfl,rfl,.inl ⟨by omega,by omega⟩,_,_,rfl,rfl,_,_,rfl,rfl,(by show(0:Int)<_;decide),_,_,_,rfl,rfl,hz,nH l3.1 l3.2,?_⟩;have k1:=Txt.slice_le (stemOf r) none (some (r / 4056 % 3));have k2:=Txt.slice_le (stemOf r) (some (r / 4056 % 3)) none;have k0:(stemOf r).length=2:=rfl;rw[k0] at k1 k2;refine⟨_,rfl,.inl ⟨rfl,_,cM.of ab⟩,_,rfl,_,rfl,_,rfl,_,rfl,ls,_,rfl,_,_,rfl,rfl,?_,_,rfl,_,rfl,_,rfl,_,rfl,ls,_,_,rfl,rfl,?_,p,_,_,rfl,rfl,ab,hlen,?_⟩
     . show _+1<=sizeLine;exact Q0b (Q37 k1 1) (by decide)
     . rw[yN];show _+1+_<=sizeLine;exact Q0b (Nat.add_le_add (Q37 k1 1) k2) (by decide)
     . refine next _ _ _ ?_;rw[e0];unfold nameAt;rw[if_neg c'];rfl
 . intro σ H' zq;obtain⟨y,z,rfl,sb,af,ab⟩:=zq;rw[em] at ab;have hlen:((List.range m).map (nameAt r)).length=m:=by rw[Q01,Q1p]
   refine⟨_,rfl,p,_,rfl,cM.of ab,by rw[hlen];omega,λp' ak ag ae ai=>?_⟩;refine q p' ak _ (sb.trans (SB.new ag)) (by rw[cQ (c6 af ag)];exact af) (λz=>by rw[z,af] at ag;cases ag) cV (ae.length_eq.trans hlen) (ae.nodup_iff.mpr (names_nodup r0 hm)) (yR ai) λx hx=>?_;obtain⟨i,hi,rfl⟩:=List.mem_map.mp (ae.mem_iff.mp hx);exact Gr (by have:=List.mem_range.mp hi;omega)
theorem zx (d:Nat)(T:Tb mg)(Z:cW es K mg)(aa:Ok P w K mg base cH "_law_names" Xy (2) (uu K))(ab:Ok P w K mg base cH "_law_kind" XS (2 * d+4) (nM K d)):Ok P w K mg base cH "_law_fields" XR (2 * d+5) (uv K d):=by
 refine Z.ok XZ (top 51) λvs H Q E h=>?_;obtain⟨a,b,ns,n,m,rfl,hm,g,hn,q⟩:=h;refine⟨rfl,λql f aF A outer s _ nd hr hu=>?_⟩
 refine⟨_,(cK (c_ 4 nd (cT aa hr (a_ (pv 0) (a_ (pv 1) (a_ (pv 2) cG)))))
  (cO (cS (jG s_ (by rfl) T.pF boot_tuple (a_ (ib (g:=(eG 0)) (tt:=jk) (te:=(sR (fA (dF 0) (fA (kg _ _ _ (fA (dF 1) (fA (dF 2) (fA (dF 4) gU)))) gU)))) (own:=["_law_name"]) rfl (gD (N:=XZ) (sc:=eP (top 51))) (k9 (pv 4)) (λ_ _ _ _ _=>(dy (i:=0) (show(["_law_name","_law_script","_law_at","_law_many","_law_deep","_law_names_here"]:List Str).Nodup by decide +kernel) rfl (Or.inl rfl) (.inr rfl))) (λ_ _ _ _ _=>kr) (λ_ _ _ _ _=>(gc (a_ (pv 0) (a_ (cT ab hr (a_ (pv 1) (a_ (pv 2) (a_ (pv 4) cG)))) cG))))) cG))))),?_⟩
 ac_rfl
 have aG:0<=(m:Int) * ck d:=Int.mul_nonneg (by omega) (by omega);have au:n<=1000000000000:=by omega
 refine⟨_,rfl,_,rfl,_,rfl,a,b,ns,n,m,rfl,by omega,g,au,λp ss H1 s1 h1 av hp hl aw ax aj=>?_⟩
 refine⟨_,rfl,p,rfl,⟨_,cM.of hp⟩,λi m' ys H'=>m'=ss.length - i/\i<=ss.length/\∃(fs:Fs) (n':Int),SB b H H'/\H' b=some (.lst [.int n'])/\n<=n'/\n'<=n+1+i * ck d/\H' p=some (.lst (ss.map V.str))/\FA H' ys fs/\fs.names=ss.take i/\fs.dep<=d+1/\ys.length=i/\fs.W/\(fs.bc=0/\fs.sz<=i * jo d),
  ⟨_,rfl,Q0c _,.nil,n+1,s1,h1,by omega,by omega,hp,by unfold FA;rfl,by simp[Fs.names],by simp[Fs.dep],rfl,by unfold Fs.W;trivial,by unfold Fs.bc;rfl,by unfold Fs.sz;omega⟩,?_⟩
 intro i m' ys H' zq;obtain⟨rfl,aE,fs,n',sb,ag,z1,z2,ah,hf,ae,ay,hy,hW,hO⟩:=zq;by_cases hi:i<ss.length
 . refine .inr ⟨⟨_,.str ss[i],cM.of ah,by rw[Q0g,Q03 hi];rfl⟩,eE (by omega),λx az y=>?_⟩;obtain⟨rfl,y⟩:=y;have hx:=y _ (cM.of ah)
   have ex:x=.str ss[i]:=by
    rw[Q0g,Q03 hi] at hx;exact(Option.some.inj hx).symm
   subst ex;refine⟨rfl,yes (fo ?_)⟩;have aA:((i:Int)+1) * ck d<=(m:Int) * ck d:=Q1d (by omega) (by omega);rw[Q1q,Q2k] at aA;refine⟨_,rfl,_,rfl,_,rfl,_,rfl,a,b,ns,n',rfl,g.go sb ag z1,by omega,λv k aB H2 s2 h2 y1 y2 hk aH aC ak=>?_⟩;refine⟨gx,λt ht=>?_⟩;have aD:t≠b:=λz=>by rw[z,h2] at ht;cases ht
   have ao:Tu H2 (upd H2 t (.tup [.str ss[i],v])):=Tu.of (λc o h=>by rw[cQ (c6 h ht)];exact h);have tu:Tu az (upd H2 t (.tup [.str ss[i],v])):=(s2.tu ag).trans ao;refine⟨_,Nat.sub_lt_sub_left hi (Q14 i),rfl,hi,fs.snoc ss[i] k,aB,sb.trans (s2.trans (SB.new ht)),by rw[cQ (Ne.symm aD)];exact h2,by omega,?_,?_,FA.snoc cV (KA.mono ao k hk) fs (FA.mono tu fs hf),?_,?_,?_,Fs.tV aC hW,Fs.yY (aj _ (Q17 _)) ak.1 hO.1,by rw[Fs.yX,Q12];have:=hO.2;have:=ak.2;omega⟩
   . have e:((i+1:Nat):Int) * ck d=(i:Int) * ck d+ck d:=by
      rw[Q38,Q1q];simp
     rw[e];omega
   . have h3:=s2 p _ av ah;rw[cQ (c6 h3 ht)];exact h3
   . rw[Fs.tT,ae,Q0p,Q03 hi];rfl
   . rw[Fs.tU];omega
   . rw[Q0d,hy];rfl
 . have ei:i=m:=by omega
   subst ei;refine .inl ⟨⟨_,cM.of ah,by rw[Q01];omega⟩,λp' af=>?_⟩;refine⟨p',ys,rfl,.inl ⟨cM.of cV,λt ht=>?_⟩⟩;have ar:p'≠b:=λz=>by rw[z,ag] at af;cases af
   have aq:upd H' p' (.lst ys) b=some (.lst [.int n']):=by rw[cQ (Ne.symm ar)];exact ag
   have tu:Tu H' (upd (upd H' p' (.lst ys)) t (.tup ys)):=λc xs h=>by
    rw[cQ (c6 (show upd H' p' (.lst ys) c=some (.tup xs) by rw[cQ (c6 h af)];exact h) ht),cQ (c6 h af)];exact h
   have ai:ss.take i=ss:=by rw[<-hl,Q1r]
   refine q t ys fs n' _ (sb.trans ((SB.new af).trans (SB.new ht))) (by rw[cQ (c6 aq ht)];exact aq) z1 (by omega) cV (FA.mono tu fs hf) ?_ ?_ ay hW hO ?_ ?_
   . rw[ae,ai];exact aw
   . rw[ae,ai];exact hl
   . rw[ae,ai];exact ax
   . rw[ae,ai];exact aj
noncomputable def σR (a b:Addr) (m d:Nat) (p:Addr) (r:Int) (pf:Addr) (x y z:Option V):St:=
 [some (.ref a),some (.ref b),some (.int m),some (.int d),some (.ref p),some (.int r),some (.int (r % m)),some (.int (r / m % (m+1))),some (.ref pf),x,y,z]
theorem uy {ss:List Str}{z:Int}(h0:0<=z)(h1:z<ss.length):∃x:Str,fS (ss.map V.str) z=some (.str x)/\ss[z.toNat]? =some x:=by
 obtain⟨j,rfl⟩:∃j:Nat,z=(j:Int):=⟨z.toNat,by omega⟩;exact⟨ss[j]'(by omega),fe (by rw[Q0g,Q03 (by omega)];rfl),by rw[Q2i];exact Q03 (by omega)⟩
theorem Fs.zy:∀{fs:Fs}{x:Str}{k:Kd}{j:Nat}{y:Str}{q:Kd},fs.at j=some (y,q)->(fs.snoc x k).at j=some (y,q)
 | .nil,_,_,_,_,_,h=>by cases h
 | .cons _ _ _,_,_,0,_,_,h=>h
 | .cons _ _ r,x,k,j+1,y,q,h=>Fs.zy (fs:=r) (j:=j) h
theorem Fs.zA:∀{fs:Fs}{x:Str}{k:Kd},(fs.snoc x k).at fs.names.length=some (x,k)
 | .nil,_,_=>rfl
 | .cons _ _ r,x,k=>Fs.zA (fs:=r)
theorem GF (d:Nat)(T:Tb mg)(Z:cW es K mg)(af:Ok P w K mg base cH "_law_names" Xy (2) (zf K))(ai:Ok P w K mg base cH "_law_next" XD (1) (kE K))(ag:Ok P w K mg base cH "_law_plain" XD (2) (ra K))(aj:Ok P w K mg base cH "_law_kind" XS (2 * d+4) (nM K d)):
 Ok P w K mg base cH "_law_rows_kind" XR (2 * d+5) (zk K d):=by
 refine Z.ok XV (top 52) λvs H Q E h=>?_;obtain⟨a,b,ns,n,m,rfl,bf,hm,g,hn,q⟩:=h;refine⟨rfl,λql f bg A outer s _ nd hr hu=>?_⟩
 refine⟨_,(cK (c_ 4 nd (cT af hr (a_ (pv 0) (a_ (pv 1) (a_ (pv 2) cG)))))
  (cK (c_ 5 nd (cT ai hr (a_ (pv 0) (a_ (pv 1) cG))))
  (cK (c_ 6 nd (cU dH (pv 5) (pv 2)))
  (cK (c_ 7 nd (cU dH (cU eZ (pv 5) (pv 2)) (cU gT (pv 2) cI)))
  (cK (c_ 8 nd (eR cG))
  (cK (fR PassesOwn.never rfl (k_ rfl T.jP (a_ (pv 2) cG)) (dy (i:=9) nd rfl d9) (cK (c_ 10 nd (cT aj hr (a_ (pv 0) (a_ (pv 1) (a_ (pv 3) cG)))))
  (cK (dq (PW.pt (gQ (di dO (pv 9) (pv 6) (c9 _)) (g_ (di dO (pv 9) (pv 7) (c9 _))))) (cO (c_ 10 nd (cT ag hr (a_ (pv 0) (a_ (pv 1) cG))))) dt)
  (cO (ft (jI PySem.F.plainAttrs_list PySem.F.slot_list_append PySem.F.type_list_append mj (pv 8) (a_ (gc (a_ (fE (pv 4) (pv 9)) (a_ (pv 10) cG))) cG)))))))
  (cK (c_ 11 nd d0)
  (cK (dq (PW.pt (oH (di l8 (pv 7) (pv 2) (c9 _)) (oG (di gH (pv 7) (pv 6) (c9 _))))) (cO (c_ 11 nd (fE (pv 4) (pv 7)))) dt)
  (cO (cS (gc (a_ d0 (a_ (fE (pv 4) (pv 6)) (a_ (pv 11) (a_ (jG s_ (by rfl) T.pF boot_tuple (a_ (pv 8) cG)) cG))))))))))))))),?_⟩
 ac_rfl
 refine⟨_,rfl,_,rfl,_,rfl,a,b,ns,n,m,rfl,by omega,g,by omega,λp ss H1 s1 h1 ar hp hl aW=>?_⟩;refine⟨_,rfl,_,rfl,a,b,ns,n+1,rfl,g.go s1 h1 (by omega),by omega,λr H2 r0 r1 s2 h2=>?_⟩;have aD:H2 p=some (.lst (ss.map V.str)):=s2 p _ ar hp;have aI:SB b H H2:=s1.trans s2;refine⟨_,rfl,_,rfl,_,_,rfl,rfl,by omega,?_⟩;refine⟨_,rfl,_,rfl,_,_,rfl,rfl,⟨by omega,by omega⟩,_,rfl,_,_,rfl,rfl,_,_,rfl,rfl,by omega,?_⟩;refine⟨nK,λpf au=>?_⟩;have ab:pf≠b:=λz=>by rw[z,h2] at au;cases au
 have aJ:p≠pf:=λz=>by rw[z,au] at aD;cases aD
 have aR:∀o,H pf=some o->False:=λo ho=>by
  have:=aI pf o ab ho;rw[au] at this;cases this
 have em:Int.toNat (m:Int)=m:=by omega
 refine⟨_,rfl,_,rfl,by omega,by omega,ka (n:=Int.toNat (m:Int)) (λi σ H'=>∃(x y z:Option V) (n':Int) (ys:List V) (fs:Fs),σ=σR a b m d p r pf x y z/\SB b H H'/\H' b=some (.lst [.int n'])/\n<=n'/\n'<=n+2+i * (ck d+1)/\
  H' p=some (.lst (ss.map V.str))/\H' pf=some (.lst ys)/\FA H' ys fs/\fs.dep<=d+1/\ys.length=i/\fs.W/\fs.names=ss.take i/\∀j:Nat,j<i->((j:Int)=r % m\/(j:Int)=r / m % (m+1))->∃y q,fs.at j=some (y,q)/\ll q) ?_ ?_ ?_⟩
 . refine⟨_,_,_,n+1+1,[],.nil,rfl,aI.trans (SB.new au),by rw[cQ (Ne.symm ab)];exact h2,by omega,by omega,by rw[cQ aJ];exact aD,cV,by unfold FA;rfl,by simp[Fs.dep],rfl,by unfold Fs.W;trivial,rfl,λj hj=>absurd hj (by omega)⟩
 . intro i σ H' hi zq;obtain⟨x,y,z,n',ys,fs,rfl,sb,ak,z1,z2,ah,aa,az,aX,hy,hW,aA,aB⟩:=zq;rw[em] at hi;have aY:(i:Int)<=2:=by omega
   have bj:(i:Int) * (ck d+1)<=2 * (ck d+1):=Q1d aY (by omega)
   have e1:((i+1:Nat):Int) * (ck d+1)=(i:Int) * (ck d+1)+(ck d+1):=by
    rw[Q38,Q1q];simp
   have hlen:ys.length<sizeLine:=eE (by omega);have aZ:∃q:Str,fS (ss.map V.str) ((0:Int)+(i:Int))=some (.str q)/\ss[((0:Int)+(i:Int)).toNat]? =some q:=uy (by omega) (by omega);obtain⟨nm,av,ao⟩:=aZ
   have ao:ss[i]? =some nm:=by
    rw[show((0:Int)+(i:Int)).toNat=i by omega] at ao;exact ao
   have a3:fs.names.length=i:=by rw[<-FA.len fs az];exact hy
   have next:∀(x' y' z':Option V) (v:V) (k:Kd) (n2:Int) (H3:Hp) (t:Addr),SB b H' H3->H3 b=some (.lst [.int n2])->n'<=n2->n2<=n'+(ck d+1)->KA H3 v k->k.dep<=d+1->k.W->(((i:Int)=r % m\/(i:Int)=r / m % (m+1))->ll k)->H3 t=none->
    ∃(x y z:Option V) (n':Int) (aE:List V) (fs:Fs),σR a b m d p r pf x' y' z'=σR a b m d p r pf x y z/\SB b H (upd (upd H3 t (.tup [.str nm,v])) pf (.lst (ys++[.ref t])))/\(upd (upd H3 t (.tup [.str nm,v])) pf (.lst (ys++[.ref t]))) b=some (.lst [.int n'])/\n<=n'/\
     n'<=n+2+((i+1:Nat):Int) * (ck d+1)/\(upd (upd H3 t (.tup [.str nm,v])) pf (.lst (ys++[.ref t]))) p=some (.lst (ss.map V.str))/\(upd (upd H3 t (.tup [.str nm,v])) pf (.lst (ys++[.ref t]))) pf=some (.lst aE)/\
     FA (upd (upd H3 t (.tup [.str nm,v])) pf (.lst (ys++[.ref t]))) aE fs/\fs.dep<=d+1/\aE.length=i+1/\fs.W/\fs.names=ss.take (i+1)/\∀j:Nat,j<i+1->((j:Int)=r % m\/(j:Int)=r / m % (m+1))->∃y q,fs.at j=some (y,q)/\ll q:=by
    intro x' y' z' v k n2 H3 t s3 h3 w1 w2 hk aK aF a4 ht;have aL:H3 pf=some (.lst ys):=s3 pf _ ab aa;have aM:H3 p=some (.lst (ss.map V.str)):=s3 p _ ar ah;have a5:t≠pf:=λz=>by rw[z,aL] at ht;cases ht
    have a6:t≠b:=λz=>by rw[z,h3] at ht;cases ht
    have a7:t≠p:=λz=>by rw[z,aM] at ht;cases ht
    have aN:Tu H3 (upd (upd H3 t (.tup [.str nm,v])) pf (.lst (ys++[.ref t]))):=λc xs h=>by
     rw[cQ (eK h aL (by intro z;cases z)),cQ (c6 h ht)];exact h
    have a8:upd (upd H3 t (.tup [.str nm,v])) pf (.lst (ys++[.ref t])) t=some (.tup [.str nm,v]):=by rw[cQ a5];exact cV
    refine⟨x',y',z',n2,ys++[.ref t],fs.snoc nm k,rfl,λc o hc hh=>?_,?_,by omega,by rw[e1];omega,?_,cV,FA.snoc a8 (KA.mono aN k hk) fs (FA.mono ((s3.tu ak).trans aN) fs az),by rw[Fs.tU];omega,by rw[Q0d,hy];rfl,Fs.tV aF hW,by rw[Fs.tT,aA,Q0p,ao];rfl,λj hj aq=>?_⟩
    . have q1:=s3 c o hc (sb c o hc hh);by_cases e:c=pf
      . subst e;exact(aR o hh).elim
      . rw[cQ e,cQ (c6 q1 ht)];exact q1
    . rw[cQ (Ne.symm ab),cQ (Ne.symm a6)];exact h3
    . rw[cQ aJ,cQ (Ne.symm a7)];exact aM
    . by_cases e:j<i
      . obtain⟨y,q,e1,e2⟩:=aB j e aq;exact⟨y,q,Fs.zy e1,e2⟩
      . have:j=i:=by omega
        subst this;exact⟨nm,k,by have:=Fs.zA (fs:=fs) (x:=nm) (k:=k);rwa [a3] at this,a4 aq⟩
   refine⟨_,rfl,_,rfl,_,rfl,a,b,ns,n',rfl,g.go sb ak z1,by omega,λv k n2 H3 s3 h3 w1 w2 hk aK aF _=>?_⟩;refine⟨_,rfl,_,rfl,rfl,_,rfl,?_⟩;refine dz (λc=>fo ?_) (λcL=>⟨_,rfl,_,rfl,rfl,_,rfl,dz (λc=>?_) (λc=>?_)⟩)
   . refine⟨_,rfl,_,rfl,a,b,ns,n2,rfl,(g.go sb ak z1).go s3 h3 w1,by omega,λv' k' H4 s4 h4 aG aS aw ax=>?_⟩;have ae:=s3.trans s4;refine⟨_,rfl,.inl ⟨rfl,_,cM.of (ae pf _ ab aa)⟩,_,rfl,_,rfl,p,_,_,_,rfl,rfl,cM.of (ae p _ ar ah),av,_,rfl,gx,λt ht=>?_⟩;refine⟨pf,_,_,rfl,rfl,by rw[cQ (c6 (ae pf _ ab aa) ht)];exact ae pf _ ab aa,hlen,?_⟩;exact next _ _ _ v' k' _ H4 t ae h4 (by omega) (by omega) aG (by omega) ax (λ_=>aw) ht
   . refine⟨_,rfl,_,rfl,a,b,ns,n2,rfl,(g.go sb ak z1).go s3 h3 w1,by omega,λv' k' H4 s4 h4 aG aS aw ax=>?_⟩;have ae:=s3.trans s4;refine⟨_,rfl,.inl ⟨rfl,_,cM.of (ae pf _ ab aa)⟩,_,rfl,_,rfl,p,_,_,_,rfl,rfl,cM.of (ae p _ ar ah),av,_,rfl,gx,λt ht=>?_⟩;refine⟨pf,_,_,rfl,rfl,by rw[cQ (c6 (ae pf _ ab aa) ht)];exact ae pf _ ab aa,hlen,?_⟩;exact next _ _ _ v' k' _ H4 t ae h4 (by omega) (by omega) aG (by omega) ax (λ_=>aw) ht
   . refine⟨_,rfl,.inl ⟨rfl,_,cM.of (s3 pf _ ab aa)⟩,_,rfl,_,rfl,p,_,_,_,rfl,rfl,cM.of (s3 p _ ar ah),av,_,rfl,gx,λt ht=>?_⟩;refine⟨pf,_,_,rfl,rfl,by rw[cQ (c6 (s3 pf _ ab aa) ht)];exact s3 pf _ ab aa,hlen,?_⟩;refine next _ _ _ v k _ H3 t s3 h3 (by omega) (by omega) hk aK aF (λaq=>?_) ht
     exact(by
      rcases aq with e|e
      . exact absurd (decide_eq_true (show V.int ((0:Int)+(i:Int))=V.int (r % m) by rw[<-e];congr 1;omega)) cL
      . exact absurd (decide_eq_true (show V.int ((0:Int)+(i:Int))=V.int (r / m % (m+1)) by rw[<-e];congr 1;omega)) c)
 . intro σ H' zq;obtain⟨x,y,z,n',ys,fs,rfl,sb,ak,z1,z2,ah,aa,az,aX,hy,hW,aA,aB⟩:=zq;rw[em] at z2 hy aB aA;have e3:(m:Int) * (ck d+1)<=3 * (ck d+1):=Q1d (by omega) (by omega);have l0:0<=r % (m:Int):=Q0k _ (by omega);have l1:r % (m:Int)<m:=Q0l _ (by omega);have b0:0<=r / (m:Int) % ((m:Int)+1):=Q0k _ (by omega);obtain⟨xk,aH,a9⟩:=uy (ss:=ss) l0 (by omega);have ay:fs.names=ss:=by rw[aA,<-hl,Q1r]
   have aO:fs.names.Nodup:=by rw[ay];exact aW
   have pl:∀(z:Int) (x:Str),0<=z->z<m->(z=r % m\/z=r / m % (m+1))->ss[z.toNat]? =some x->fs.pl x:=λz x h0 h1 aq hx=>by
    obtain⟨y,q,e1,e2⟩:=aB z.toNat (by omega) (by rw[Q21 h0];exact aq);have aP:=Fs.lh fs z.toNat;rw[e1,ay,hx] at aP;have e3:some x=some y:=aP
    cases e3;exact⟨q,Fs.nz aO e1,e2⟩
   have ba:fs.pl xk:=pl _ _ l0 l1 (.inl rfl) a9;have aC:fs.names.length<=60:=by rw[ay,hl];omega
   have fin:∀(nm:Str),(nm=""\/fs.pl nm)->∀(t:Addr),H' t=none->∀v:Addr,upd H' t (.tup ys) v=none->Q (.ref v) (upd (upd H' t (.tup ys)) v (.tup [.str "rows",.str xk,.str nm,.ref t])):=by
    intro nm bb t ht v hv;have be:v≠t:=λz=>by rw[z,cV] at hv;cases hv
    have tu:Tu H' (upd (upd H' t (.tup ys)) v (.tup [.str "rows",.str xk,.str nm,.ref t])):=λc xs h=>by
     have e:upd H' t (.tup ys) c=some (.tup xs):=by rw[cQ (c6 h ht)];exact h
     rw[cQ (c6 e hv)];exact e
    have aQ:upd H' t (.tup ys) b=some (.lst [.int n']):=by rw[cQ (c6 ak ht)];exact ak
    refine q (.ref v) (.rows xk nm fs) n' _ (sb.trans ((SB.new ht).trans (SB.new hv))) (by rw[cQ (c6 aQ hv)];exact aQ) z1 (by omega) ?_ (by simp only[Kd.dep];omega) (by unfold Kd.W;exact⟨aO,aC,hW,ba,bb⟩) ⟨_,_,_,rfl⟩;unfold KA;exact⟨v,t,ys,rfl,cV,by rw[cQ (Ne.symm be)];exact cV,FA.mono tu fs az⟩
   refine⟨_,rfl,_,rfl,_,_,rfl,rfl,_,rfl,?_⟩;refine dz (λc=>⟨_,rfl,_,rfl,rfl,_,rfl,dz (λc2=>?_) (λc2=>?_)⟩) (λc=>dX ?_)
   . have c':r / (m:Int) % ((m:Int)+1)<m:=of_decide_eq_true c;obtain⟨nm,aU,aV⟩:=uy (ss:=ss) b0 (by omega);refine⟨_,rfl,_,rfl,p,_,_,_,rfl,rfl,cM.of ah,aU,?_⟩;exact⟨_,rfl,_,rfl,p,_,_,_,rfl,rfl,cM.of ah,aH,_,rfl,_,rfl,pf,ys,rfl,.inl ⟨cM.of aa,λt ht=>⟨uj,λv hv=>fin nm (.inr (pl _ _ b0 c' (.inr rfl) aV)) t ht v hv⟩⟩⟩
   . exact⟨_,rfl,_,rfl,p,_,_,_,rfl,rfl,cM.of ah,aH,_,rfl,_,rfl,pf,ys,rfl,.inl ⟨cM.of aa,λt ht=>⟨uj,λv hv=>fin _ (.inl rfl) t ht v hv⟩⟩⟩
   . exact⟨_,rfl,_,rfl,p,_,_,_,rfl,rfl,cM.of ah,aH,_,rfl,_,rfl,pf,ys,rfl,.inl ⟨cM.of aa,λt ht=>⟨uj,λv hv=>fin _ (.inl rfl) t ht v hv⟩⟩⟩
theorem GG (T:Tb mg)(Z:cW es K mg)(ab:Ok P w K mg base cH "_law_next" XD (1) (kE K))(aa:Ok P w K mg base cH "_law_plain" XD (2) (ra K)):Ok P w K mg base cH "_law_kind" XS (2 * 0+4) (nM K 0):=by
 refine Z.ok Xo (top 53) λvs H Q E h=>?_;obtain⟨a,b,ns,n,rfl,g,hn,q⟩:=h;refine⟨rfl,λql f af A outer s _ nd hr hu=>?_⟩;have ae:ck 0=2:=rfl;rw[ae] at hn q
 refine⟨_,(cK (c_ 3 nd (cT ab hr (a_ (pv 0) (a_ (pv 1) cG))))
  (cK (dq (PW.pt (gQ (di sM (pv 2) cI (c9 _)) (g_ E4))) (cO (cS (cT aa hr (a_ (pv 0) (a_ (pv 1) cG))))) dt) sx)),?_⟩
 ac_rfl
 refine⟨_,rfl,_,rfl,a,b,ns,n,rfl,g,by omega,λr H1 r0 r1 s1 h1=>?_⟩;refine⟨_,rfl,_,_,rfl,rfl,_,rfl,?_⟩;refine dz (λc=>fo ?_) (λc=>(c (by decide)).elim);refine⟨_,rfl,_,rfl,a,b,ns,n+1,rfl,g.go s1 h1 (by omega),by omega,λv k H2 s2 h2 hk hd hp hw=>?_⟩;exact q v k (n+1+1) H2 (s1.trans s2) h2 (by omega) (by omega) hk (by omega) hw ⟨yW hp,Q0b (yV hp) (mB _)⟩
theorem GH (d:Nat)(T:Tb mg)(Z:cW es K mg)(af:Ok P w K mg base cH "_law_next" XD (1) (kE K))(ae:Ok P w K mg base cH "_law_plain" XD (2) (ra K))(aa:Ok P w K mg base cH "_law_fields" XR (2 * d+5) (zi K d))(ab:Ok P w K mg base cH "_law_rows_kind" XR (2 * d+5) (zk K d))
 (ag:Ok P w K mg base cH "_law_kind" XS (2 * d+4) (nM K d)):Ok P w K mg base cH "_law_kind" XS (2 * (d+1)+4) (nM K (d+1)):=by
 refine Z.ok Xo (top 53) λvs H Q E h=>?_;obtain⟨a,b,ns,n,rfl,g,hn,q⟩:=h;refine⟨rfl,λql f ao A outer s _ nd hr hu=>?_⟩
 have ah:(ck (d+1):Int)=3 * ck d+6:=by
  have:ck (d+1)=3 * ck d+6:=rfl;omega
 rw[ah] at hn
 refine⟨_,(cK (c_ 3 nd (cT af hr (a_ (pv 0) (a_ (pv 1) cG))))
  (cK (dq (PW.pt (gQ (di sM (pv 2) cI (c9 _)) (g_ (di l8 (cU dH (pv 3) cI) cI (c9 _))))) (cO (cS (cT ae hr (a_ (pv 0) (a_ (pv 1) cG))))) dt)
  (cK (dq (di l8 (cU dH (pv 3) cI) cI (c9 _)) (cO (cS (gc (a_ d0 (a_ (cT aa hr (a_ (pv 0) (a_ (pv 1) (a_ (cU dH (cU eZ (pv 3) cI) cI) (a_ (cU ji (pv 2) cI) cG))))) cG))))) dt)
  (cK (dq (di l8 (cU dH (pv 3) cI) cI (c9 _)) (cO (cS (cT ab hr (a_ (pv 0) (a_ (pv 1) (a_ (cU gT cI (cU dH (cU eZ (pv 3) cI) cI)) (a_ (cU ji (pv 2) cI) cG))))))) dt)
  (cK (dq (di dO (cU dH (pv 3) cI) cI (c9 _)) (cO (cS (gc (a_ d0 (a_ (cT ag hr (a_ (pv 0) (a_ (pv 1) (a_ (cU ji (pv 2) cI) cG)))) cG))))) dt)
  (cO (cS (gc (a_ d0 (a_ (cT aa hr (a_ (pv 0) (a_ (pv 1) (a_ (cU gT cI (cU dH (cU eZ (pv 3) cI) cI)) (a_ (cU ji (pv 2) cI) cG))))) cG)))))))))),?_⟩
 ac_rfl
 refine⟨_,rfl,_,rfl,a,b,ns,n,rfl,g,by omega,λr H1 r0 r1 s1 h1=>?_⟩;have g1:=g.go s1 h1 (by omega);have e2:(((d+1:Nat):Int)) - 1=(d:Int):=by omega
 have e0:(if decide ((((d+1:Nat):Int))<=0)=true then True else False)=False:=by
  rw[if_neg (by rw[decide_eq_true_iff];omega)]
 refine⟨_,rfl,_,_,rfl,rfl,_,rfl,dz (λc=>?_) (λc=>?_)⟩
 . exact absurd (of_decide_eq_true c) (by omega)
 refine⟨_,rfl,_,_,rfl,rfl,(by show(0:Int)<_;decide),_,_,rfl,rfl,_,rfl,dz (λc1=>?_) (λc1=>?_)⟩
 . refine⟨_,rfl,_,rfl,a,b,ns,n+1,rfl,g1,by omega,λv k H2 s2 h2 hk hd hp hw=>?_⟩;exact q v k (n+1+1) H2 (s1.trans s2) h2 (by omega) (by rw[ah];omega) hk (by omega) hw ⟨yW hp,Q0b (yV hp) (mB _)⟩
 refine⟨_,rfl,_,_,rfl,rfl,(by show(0:Int)<_;decide),_,_,rfl,rfl,_,rfl,dz (λc2=>?_) (λc2=>?_)⟩
 . obtain⟨m,hm⟩:∃m:Nat,r / 10 % 4=(m:Int):=⟨(r / 10 % 4).toNat,by omega⟩;refine⟨_,rfl,_,rfl,_,rfl,_,_,rfl,rfl,⟨by decide,by decide⟩,_,_,rfl,rfl,(by show(0:Int)<_;decide),_,rfl,_,_,rfl,rfl,a,b,ns,n+1,m,(by show [V.ref a,V.ref b,V.int (r / 10 % 4),V.int (((d+1:Nat):Int) - 1)]=_;rw[hm,e2]),by omega,g1,by omega,λt xs fs n' H2 s2 h2 w1 w2 ht ai aj hl ak hW hO=>?_⟩;refine⟨gx,λv hv=>?_⟩;have tu:Tu H2 (upd H2 v (.tup [.str "record",.ref t])):=λc ys h=>by rw[cQ (c6 h hv)];exact h
   refine q (.ref v) (.c8 fs) n' _ (s1.trans (s2.trans (SB.new hv))) (by rw[cQ (c6 h2 hv)];exact h2) (by omega) (by rw[ah];omega) ?_ (by simp only[Kd.dep];omega) (by unfold Kd.W;exact⟨aj,by omega,hW⟩) ⟨by unfold Kd.bc;exact hO.1,by unfold Kd.sz jo;have:=hO.2;have:=mB d;have:=Q1 (jo d) (show m<=3 by omega);omega⟩;unfold KA;exact⟨v,t,xs,rfl,cV,tu _ _ ht,FA.mono tu fs ai⟩
 refine⟨_,rfl,_,_,rfl,rfl,(by show(0:Int)<_;decide),_,_,rfl,rfl,_,rfl,dz (λc3=>?_) (λc3=>?_)⟩
 . obtain⟨m,hm⟩:∃m:Nat,1+r / 10 % 3=(m:Int):=⟨(1+r / 10 % 3).toNat,by omega⟩;refine⟨_,rfl,_,rfl,_,rfl,_,_,rfl,rfl,⟨by decide,by decide⟩,_,_,rfl,rfl,(by show(0:Int)<_;decide),_,_,rfl,rfl,_,rfl,_,_,rfl,rfl,a,b,ns,n+1,m,(by show [V.ref a,V.ref b,V.int (1+r / 10 % 3),V.int (((d+1:Nat):Int) - 1)]=_;rw[hm,e2]),by omega,by omega,g1,by omega,λv k n' H2 s2 h2 w1 w2 hk ak hw hx=>?_⟩;exact q v k n' H2 (s1.trans s2) h2 (by omega) (by rw[ah];omega) hk (by omega) hw ⟨by obtain⟨_,_,_,rfl⟩:=hx;unfold Kd.bc;rfl,by obtain⟨_,_,_,rfl⟩:=hx;unfold Kd.sz;exact mB _⟩
 refine⟨_,rfl,_,_,rfl,rfl,(by show(0:Int)<_;decide),rfl,_,rfl,dz (λc4=>?_) (λc4=>?_)⟩
 . refine⟨_,rfl,_,rfl,_,rfl,_,_,rfl,rfl,a,b,ns,n+1,(by show [V.ref a,V.ref b,V.int (((d+1:Nat):Int) - 1)]=_;rw[e2]),g1,by omega,λu k n' H2 s2 h2 w1 w2 hk ak hw _=>?_⟩;refine⟨gx,λv hv=>?_⟩;have tu:Tu H2 (upd H2 v (.tup [.str "tree",u])):=λc ys h=>by rw[cQ (c6 h hv)];exact h
   refine q (.ref v) (.tree k) n' _ (s1.trans (s2.trans (SB.new hv))) (by rw[cQ (c6 h2 hv)];exact h2) (by omega) (by rw[ah];omega) ?_ (by simp only[Kd.dep];omega) (by unfold Kd.W;exact hw) ⟨by unfold Kd.bc;rfl,by unfold Kd.sz;exact mB _⟩;unfold KA;exact⟨v,u,rfl,cV,KA.mono tu k hk⟩
 . obtain⟨m,hm⟩:∃m:Nat,1+r / 10 % 3=(m:Int):=⟨(1+r / 10 % 3).toNat,by omega⟩;refine⟨_,rfl,_,rfl,_,rfl,_,_,rfl,rfl,⟨by decide,by decide⟩,_,_,rfl,rfl,(by show(0:Int)<_;decide),_,_,rfl,rfl,_,rfl,_,_,rfl,rfl,a,b,ns,n+1,m,(by show [V.ref a,V.ref b,V.int (1+r / 10 % 3),V.int (((d+1:Nat):Int) - 1)]=_;rw[hm,e2]),by omega,g1,by omega,λt xs fs n' H2 s2 h2 w1 w2 ht ai aj hl ak hW hO=>?_⟩;refine⟨gx,λv hv=>?_⟩;have tu:Tu H2 (upd H2 v (.tup [.str "either",.ref t])):=λc ys h=>by rw[cQ (c6 h hv)];exact h
   refine q (.ref v) (.e8 fs) n' _ (s1.trans (s2.trans (SB.new hv))) (by rw[cQ (c6 h2 hv)];exact h2) (by omega) (by rw[ah];omega) ?_ (by simp only[Kd.dep];omega) (by unfold Kd.W;exact⟨aj,by omega,by omega,hW⟩) ⟨by unfold Kd.bc;rfl,by unfold Kd.sz;exact mB _⟩;unfold KA;exact⟨v,t,xs,rfl,cV,tu _ _ ht,FA.mono tu fs ai⟩
theorem kind_all (T:Tb mg)(Z:cW es K mg):∀d:Nat,Ok P w K mg base cH "_law_kind" XS (2 * d+4) (nM K d)
 |0=>GG T Z (q_ (pG T Z)) (zu T Z (q_ (pG T Z)))
 |d+1=>by
  have N:=q_ (pG (P:=P) (w:=w) (base:=base) T Z);have Pl:=zu T Z N;have Nm:=zw T Z N;have ih:=kind_all T Z d;have Fd:=zx d T Z Nm ih;have Rw:=GF d T Z (namesW Nm) N Pl ih;exact GH d T Z N Pl (Gz Fd) Rw ih
theorem zB (ns:List Int)(x:Str)(k:Kd)(room:Nat):∀(fs:Fs) (n:Int),dw ns (fs.snoc x k) room n=((dw ns fs room n).1.snoc x (val ns k room (dw ns fs room n).2).1,(val ns k room (dw ns fs room n).2).2)
 | .nil,n=>by
   show dw ns (.cons x k .nil) room n=_;simp only[dw,Ds.snoc]
 | .cons y q r,n=>by
   show dw ns (.cons y q (r.snoc x k)) room n=_;simp only[dw,Ds.snoc];rw[zB ns x k room r]
theorem zC (g:Int->D × Int):∀(m:Nat) (n:Int),times g (m+1) n=((times g m n).1.snoc "" (g (times g m n).2).1,(g (times g m n).2).2)
 |0,n=>by simp only[times,Ds.snoc]
 |m+1,n=>by
  have ih:=zC g m (g n).2;show(Ds.cons "" (g n).1 (times g (m+1) (g n).2).1,(times g (m+1) (g n).2).2)=_;rw[ih];simp only[times,Ds.snoc]
theorem uz(e:∀n,g n=h n):∀(m:Nat) (n:Int),times g m n=times h m n
 |0,n=>rfl
 |m+1,n=>by
  simp only[times];rw[e n,uz e m]
theorem lB:∀(fu room:Nat) (n:Int),room<2 ^ fu->ff ns f (fu+1) room n=ff ns f (fu+2) room n
 |0,room,n,h=>by
  have e:room=0:=by simpa using h
  subst e
  have e0:(nx ns ((f (0 / 2) n).2+1) % (((0:Nat):Int)+1)).toNat=0:=by
   have:nx ns ((f (0 / 2) n).2+1) % (((0:Nat):Int)+1)=0:=by
    show _ % (1:Int)=0;exact Int.emod_one _
   rw[this];rfl
  unfold ff;rw[e0];rfl
 |fu+1,room,n,h=>by
  have ih:=λm=>lB (ns:=ns) (f:=f) fu (room / 2) m (by rw[Nat.pow_succ] at h;omega);show(pairD (f (room / 2) n).1 (.lst (times (ff ns f (fu+1) (room / 2)) _ _).1),(times (ff ns f (fu+1) (room / 2)) _ _).2)=(pairD (f (room / 2) n).1 (.lst (times (ff ns f (fu+2) (room / 2)) _ _).1),(times (ff ns f (fu+2) (room / 2)) _ _).2);rw[uz ih]
theorem GI (ns:List Int)(k:Kd)(room:Nat)(n:Int)(h:room<8):val ns (.tree k) room n=
 (pairD (val ns k (room / 2) n).1 (.lst (times (val ns (.tree k) (room / 2)) (nx ns ((val ns k (room / 2) n).2+1) % ((room:Int)+1)).toNat ((val ns k (room / 2) n).2+1)).1),
   (times (val ns (.tree k) (room / 2)) (nx ns ((val ns k (room / 2) n).2+1) % ((room:Int)+1)).toNat ((val ns k (room / 2) n).2+1)).2):=by
 have e:∀m,val ns (.tree k) (room / 2) m=ff ns (val ns k) 3 (room / 2) m:=λm=>by
  show ff ns (val ns k) 4 (room / 2) m=_;exact(lB 2 (room / 2) m (by show _<4;omega)).symm
 rw[uz e];simp only[val,ff]
theorem uA:∀(m:Nat) (acc:List Ds) (n:Int),dY g key (m+1) acc n=
 (if lu key (dY g key m acc n).1 (keyOf (g (dY g key m acc n).2).1 key)=true then((dY g key m acc n).1,(g (dY g key m acc n).2).2) else((dY g key m acc n).1++[(g (dY g key m acc n).2).1],(g (dY g key m acc n).2).2))
 |0,acc,n=>by
  simp only[dY]
  first
   |rfl
   |(by_cases c:lu key acc (keyOf (g n).1 key)=true <;> simp[c])
 |m+1,acc,n=>by
  rw[dY];split
  . rename_i c;rw[uA m acc]
    conv=>rhs;rw[dY]
    simp only[c,if_true]
  . rename_i c;rw[uA m (acc++[(g n).1])]
    conv=>rhs;rw[dY]
    simp only[c,if_false];rfl
noncomputable def mu:Kd->Nat->Nat
 | .rows key aa fs,room=>(2 * (fs.dep+1)+1) * 8+room
 |k,room=>(2 * k.dep) * 8+room
theorem GJ (k:Kd)(room:Nat):mu k room<=(2 * k.dep+1) * 8+room:=by
 cases k <;> simp only[mu,Kd.dep] <;> omega
theorem uB(h:k.dep<k'.dep)(h8:room<8):mu k room<mu k' aa:=by
 have:=GJ k room
 cases k' <;> simp only[mu,Kd.dep] at * <;> omega
noncomputable def gr (room:Nat):Nat:=if room=0 then 1 else if room=1 then 9 else if room<4 then 73 else 585
noncomputable def kc:Kd->Nat->Nat
 | .tree k,room=>(k.cB+1) * gr room
 |k,_=>k.cB
theorem uC (room:Nat):1<=gr room/\gr room<=585:=by
 unfold gr;by_cases h0:room=0
 . rw[if_pos h0];omega
 . rw[if_neg h0];by_cases h1:room=1
   . rw[if_pos h1];omega
   . rw[if_neg h1];by_cases h2:room<4
     . rw[if_pos h2];omega
     . rw[if_neg h2];omega
theorem GK (room:Nat):gr room<=585:=(uC room).2
theorem uD (k:Kd)(room:Nat):kc k room<=k.cB:=by
 cases k with
 |tree k=>exact Q39 _ (GK room)
 |_=>exact Q0 _
theorem GL(h1:1<=room)(h8:room<8):1+room * gr (room / 2)<=gr room:=by
 have h:room=1\/room=2\/room=3\/room=4\/room=5\/room=6\/room=7:=by omega
 rcases h with h|h|h|h|h|h|h <;> subst h <;> decide
theorem GN (ns:List Int)(k:Kd)(room:Nat)(n:Int)(h:room<8):n<=(val ns (.tree k) room n).2/\(val ns (.tree k) room n).2<=n+((k.cB+1) * gr room:Nat):=by
 have hf:=λ(room:Nat) (n:Int) (h:room<8)=>mz ns k room n h;have e:val ns (.tree k) room n=ff ns (val ns k) 4 room n:=by simp only[val]
 rw[e];unfold gr;by_cases h0:room=0
 . rw[if_pos h0,<-lB 2 room n (by omega),<-lB 1 room n (by omega),<-lB 0 room n (by omega)];exact nF (N:=k.cB) hf 1 room n h
 . rw[if_neg h0];by_cases h1:room=1
   . rw[if_pos h1,<-lB 2 room n (by omega),<-lB 1 room n (by omega)];exact nF (N:=k.cB) hf 2 room n h
   . rw[if_neg h1];by_cases h2:room<4
     . rw[if_pos h2,<-lB 2 room n (by omega)];exact nF (N:=k.cB) hf 3 room n h
     . rw[if_neg h2];exact nF (N:=k.cB) hf 4 room n h
theorem zD (ns:List Int):∀(fs:Fs) (i room:Nat) (n:Int) (x:Str) (k:Kd),fs.at i=some (x,k)->fZ ns fs i room n=(pairD (.str x) (val ns k room n).1,(val ns k room n).2)
 | .nil,i,_,_,_,_,h=>by cases h
 | .cons y q r,0,room,n,x,k,h=>by
   cases h;simp only[fZ]
 | .cons y q r,i+1,room,n,x,k,h=>by
   simp only[fZ];exact zD ns r i room n x k h
theorem Fs.zE:∀{fs:Fs}{i:Nat}{x:Str}{k:Kd},fs.at i=some (x,k)->k.cB<=fs.cB
 | .nil,_,_,_,h=>by cases h
 | .cons y q r,0,x,k,h=>by
   cases h;simp only[Fs.cB];omega
 | .cons y q r,i+1,x,k,h=>by
   have:=Fs.zE (fs:=r) (i:=i) h;simp only[Fs.cB];omega
theorem Fs.zF:∀{fs:Fs}{i:Nat}{x:Str}{k:Kd},fs.at i=some (x,k)->(fs.take i).cB+k.cB<=fs.cB
 | .nil,_,_,_,h=>by cases h
 | .cons y q r,0,x,k,h=>by
   cases h;simp only[Fs.take,Fs.cB];omega
 | .cons y q r,i+1,x,k,h=>by
   have:=Fs.zF (fs:=r) (i:=i) h;simp only[Fs.take,Fs.cB];omega
theorem Fs.uE:∀(fs:Fs) (i:Nat),(fs.take i).names=fs.names.take i
 | .nil,i=>by simp[Fs.take,Fs.names]
 | .cons x k r,0=>by simp[Fs.take,Fs.names]
 | .cons x k r,i+1=>by
   show x::(r.take i).names=x::r.names.take i;rw[Fs.uE r i]
theorem Fs.GO {fs:Fs}(nd:fs.names.Nodup)(h:fs.at i=some (x,k)):x ∉ (fs.take i).names:=by
 rw[Fs.uE];intro hm;obtain⟨j,hj,e⟩:=Q0z hm;have hx:fs.names[i]? =some x:=by rw[Fs.lh,h];rfl
 obtain⟨hi,ei⟩:=List.getElem?_eq_some_iff.mp hx;rw[Q0n] at hj;rw[Q22] at e;have:=(Q26 nd).mp (e.trans ei.symm);omega
theorem rb (ns:List Int)(room:Nat):∀(fs:Fs) (n:Int),(dw ns fs room n).1.names=fs.names
 | .nil,n=>by simp[dw,Ds.names,Fs.names]
 | .cons x k r,n=>by
   simp only[dw,Ds.names,Fs.names];rw[rb ns room r]
theorem dk.key(h:dk H kvs m fp)(f:fk fs m)(hp:fs.pl x):e6 kvs (Sum.inr x)=some (kV (keyOf m x)):=by
 rcases(f.plain hp).2 with⟨z,e1,e2,_⟩|⟨s,e1,e2,_⟩
 . obtain⟨v,g,h1,h2,_⟩:=dk.val m h e1;unfold Own at h2;rw[h1,e2,h2.1];rfl
 . obtain⟨v,g,h1,h2,_⟩:=dk.val m h e1;unfold Own at h2;rw[h1,e2,h2.1];rfl
mutual
def D.Sm:D->Prop
 | .int _=>True
 | .str _=>True
 | .tup xs=>xs.len<=100/\xs.Sm
 | .lst xs=>xs.len<=100/\xs.Sm
 | .dct m=>m.len<=100/\m.Sm
def Ds.Sm:Ds->Prop
 | .nil=>True
 | .cons _ d r=>d.Sm/\r.Sm
end
theorem Ds.rd:∀{xs:Ds}{i:Nat}{d:D},xs.Sm->xs.at i=some d->d.Sm
 | .nil,_,_,_,h=>by cases h
 | .cons _ d r,0,_,w,h=>by unfold Ds.Sm at w;cases h;exact w.1
 | .cons _ d r,i+1,_,w,h=>by unfold Ds.Sm at w;exact Ds.rd (xs:=r) (i:=i) w.2 h
theorem Ds.uF:∀{xs:Ds}{x:Str}{d:D},xs.Sm->xs.get x=some d->d.Sm
 | .nil,_,_,_,h=>by cases h
 | .cons y e r,x,d,w,h=>by
   unfold Ds.Sm at w;have h:(if x=y then some e else r.get x)=some d:=h;by_cases c:x=y
   . rw[if_pos c] at h;cases h;exact w.1
   . rw[if_neg c] at h;exact Ds.uF w.2 h
theorem zG:∀(m:Ds),m.names.length=m.len
 | .nil=>rfl
 | .cons _ _ r=>by show r.names.length+1=r.len+1;rw[zG r]
theorem uG:∀l:List Ds,(fM l).len=l.length
 |[]=>rfl
 |m::r=>by show(fM r).len+1=r.length+1;rw[uG r]
theorem zH:∀{l:List Ds},(∀m∈l,(D.dct m).Sm)->(fM l).Sm
 |[],_=>by unfold fM Ds.Sm;trivial
 |m::r,h=>by
  unfold fM Ds.Sm;exact⟨h m Q04,zH λx hx=>h x (Q09 _ hx)⟩
theorem zI:∀{l:List Ds},(fM l).Sm->∀m∈l,(D.dct m).Sm
 |[],_,m,hm=>absurd hm (by simp)
 |x::r,h,m,hm=>by
  unfold fM Ds.Sm at h;rcases List.mem_cons.mp hm with e|e
  . rw[e];exact h.1
  . exact zI h.2 m e
theorem zJ:∀{l:List Ds},∀m∈l,m.dep+1<=(fM l).dep
 |[],m,hm=>absurd hm (by simp)
 |x::r,m,hm=>by
  simp only[fM,Ds.dep,D.dep];rcases List.mem_cons.mp hm with e|e
  . rw[e];omega
  . have:=zJ (l:=r) m e;omega
theorem zK (g:Int->D × Int):∀(m:Nat) (n:Int),(times g m n).1.len=m
 |0,_=>rfl
 |m+1,n=>by show(times g m (g n).2).1.len+1=m+1;rw[zK g m]
theorem zL(hg:∀n,(g n).1.Sm):∀(m:Nat) (n:Int),(times g m n).1.Sm
 |0,_=>by unfold times Ds.Sm;trivial
 |m+1,n=>by
  unfold times Ds.Sm;exact⟨hg n,zL hg m _⟩
theorem zM(h1:a.Sm)(h2:b.Sm):(pairD a b).Sm:=by
 unfold D.Sm;exact⟨by show 2<=100;decide,by unfold Ds.Sm;exact⟨h1,by unfold Ds.Sm;exact⟨h2,by unfold Ds.Sm;trivial⟩⟩⟩
theorem zN(hf:∀room n,room<8->(f room n).1.Sm):∀(fu room:Nat) (n:Int),room<8->(ff ns f fu room n).1.Sm
 |0,_,_,_=>by unfold ff D.Sm;trivial
 |fu+1,room,n,h=>by
  unfold ff;refine zM (hf _ _ (by omega)) ?_;unfold D.Sm;refine⟨?_,zL (λn=>zN hf fu (room / 2) n (by omega)) _ _⟩;rw[zK];have:=mod_le (a:=nx ns ((f (room / 2) n).2+1)) h;omega
theorem uH:∀(m:Nat) (acc:List Ds) (n:Int),(dY g key m acc n).1.length<=acc.length+m
 |0,acc,n=>by simp[dY]
 |m+1,acc,n=>by
  unfold dY;split
  . have:=uH (g:=g) (key:=key) m acc (g n).2;omega
  . have:=uH (g:=g) (key:=key) m (acc++[(g n).1]) (g n).2;rw[Q0d] at this;have e:[(g n).1].length=1:=rfl;omega
mutual
theorem pH (ns:List Int):∀(k:Kd),k.W->∀(room:Nat) (n:Int),room<8->(val ns k room n).1.Sm
 | .num,_,_,_,_=>by unfold val D.Sm;trivial
 | .eu,_,_,_,_=>by unfold val D.Sm;trivial
 | .c8 fs,w,room,n,h=>by
   unfold Kd.W at w;unfold val;exact uI ns fs w.2.2 room n h w.2.1
 | .rows key aa fs,w,room,n,h=>by
   unfold Kd.W at w;unfold val D.Sm;refine⟨?_,zH λm hm=>?_⟩
   . rw[uG,(kB key aa _).length_eq];have:=uH (g:=dw ns fs (room / 2)) (key:=key) (nx ns (n+1) % ((room:Int)+1)).toNat [] (n+1);have e:=mod_le (a:=nx ns (n+1)) h;have e2:([]:List Ds).length=0:=rfl;omega
   . exact nE (R:=λm=>(D.dct m).Sm) (λn=>uI ns fs w.2.2.1 (room / 2) n (by omega) w.2.1) _ _ _ (λr hr=>absurd hr (by simp)) m ((kB key aa _).mem_iff.mp hm)
 | .tree k,w,room,n,h=>by
   unfold Kd.W at w;unfold val;exact zN (λroom n h=>pH ns k w room n h) 4 room n h
 | .e8 fs,w,room,n,h=>by
   unfold Kd.W at w;unfold val;exact zO ns fs w.2.2.2 _ room _ h
theorem uI (ns:List Int):∀(fs:Fs),fs.W->∀(room:Nat) (n:Int),room<8->fs.names.length<=60->(D.dct (dw ns fs room n).1).Sm
 | .nil,_,_,_,_,_=>by
   unfold dw D.Sm;exact⟨by show 0<=100;omega,by unfold Ds.Sm;trivial⟩
 | .cons x k r,w,room,n,h,hl=>by
   unfold Fs.W at w;have hl:r.names.length+1<=60:=hl;have a:=pH ns k w.1 room n h;have b:=uI ns r w.2 room (val ns k room n).2 h (by omega);unfold D.Sm at b;unfold dw D.Sm;refine⟨?_,by unfold Ds.Sm;exact⟨a,b.2⟩⟩;show(dw ns r room (val ns k room n).2).1.len+1<=100;rw[<-zG,rb];omega
theorem zO (ns:List Int):∀(fs:Fs),fs.W->∀(i room:Nat) (n:Int),room<8->(fZ ns fs i room n).1.Sm
 | .nil,_,_,_,_,_=>by unfold fZ D.Sm;trivial
 | .cons x k r,w,0,room,n,h=>by
   unfold Fs.W at w;unfold fZ;exact zM (by unfold D.Sm;trivial) (pH ns k w.1 room n h)
 | .cons x k r,w,i+1,room,n,h=>by
   unfold Fs.W at w;unfold fZ;exact zO ns r w.2 i room n h
end
theorem gh.at {P:D->Prop}:∀{xs:Ds}{i:Nat}{d:D},gh P xs->xs.at i=some d->Tree P d
 | .nil,_,_,_,h=>by cases h
 | .cons _ d r,0,_,w,h=>by unfold gh at w;cases h;exact w.1
 | .cons _ d r,i+1,_,w,h=>by unfold gh at w;exact gh.at (xs:=r) (i:=i) w.2 h
theorem Own.pair(h:Own H v (.tup (.cons x a (.cons y b .nil))) fp):∃c v1 v2 f1 f2,v=.ref c/\H c=some (.tup [v1,v2])/\fp=f1++f2/\Own H v1 a f1/\Own H v2 b f2:=by
 unfold Own at h;obtain⟨c,vs,rfl,hc,h⟩:=h;unfold dj at h;obtain⟨v1,q,f1,f2,rfl,rfl,g1,h⟩:=h;unfold dj at h;obtain⟨v2,q2,g,f3,rfl,rfl,g2,h⟩:=h;unfold dj at h;obtain⟨rfl,rfl⟩:=h;exact⟨c,v1,v2,f1,g,rfl,hc,by simp,g1,g2⟩
def kF (fs:Fs) (m:Ds):Prop:=∀x k,fs.get x=some k->∃e,m.get x=some e/\d8 k e
def kG (fs:Fs) (m:Ds):Prop:=m.names.length=fs.names.length/\kF fs m
theorem fk.p(f:fk fs m):kF fs m:=λ_ _ h=>f.get h
theorem fk.u(f:fk fs m):kG fs m:=⟨by rw[f.names],f.p⟩
theorem kF.plain(f:kF fs m)(h:fs.pl x):(∃z,m.get x=some (.int z)/\keyOf m x=.inl z/\fs.get x=some .num)\/∃s,m.get x=some (.str s)/\keyOf m x=.inr s/\fs.get x=some .eu:=by
 obtain⟨k,h1,h2⟩:=h;obtain⟨d,g1,g2⟩:=f _ _ h1
 cases k with
 |num=>
  unfold d8 at g2;obtain⟨z,rfl⟩:=g2;exact .inl ⟨z,g1,by unfold keyOf;rw[g1],h1⟩
 |eu=>
  unfold d8 at g2;obtain⟨s,rfl⟩:=g2;exact .inr ⟨s,g1,by unfold keyOf;rw[g1],h1⟩
 |_=>exact h2.elim
theorem kF.tag(f:kF fs m)(h:fs.pl x):eJ (keyOf m x)=jn (fs.get x):=by
 rcases f.plain h with⟨z,_,e,g⟩|⟨s,_,e,g⟩ <;> rw[e,g] <;> rfl
theorem zP {fs:Fs}{key aa:Str}(f:kF fs m)(h1:fs.pl key)(h2:aa=""\/fs.pl aa):(rankOf key aa m).map eJ=if aa="" then [jn (fs.get key)] else [jn (fs.get aa),jn (fs.get key)]:=by
 unfold rankOf;split
 . show [eJ (keyOf m key)]=_;rw[f.tag h1]
 . rename_i e;show [eJ (keyOf m aa),eJ (keyOf m key)]=_;rw[f.tag h1,f.tag (h2.resolve_left e)]
theorem dk.pI(h:dk H kvs m fp)(f:kF fs m)(hp:fs.pl x):e6 kvs (Sum.inr x)=some (kV (keyOf m x)):=by
 rcases f.plain hp with⟨z,e1,e2,_⟩|⟨s,e1,e2,_⟩
 . obtain⟨v,g,h1,h2,_⟩:=dk.val m h e1;unfold Own at h2;rw[h1,e2,h2.1];rfl
 . obtain⟨v,g,h1,h2,_⟩:=dk.val m h e1;unfold Own at h2;rw[h1,e2,h2.1];rfl
def jQ (k:Kd) (d:D):Prop:=match k with
 | .c8 fs=>∃m,d=.dct m/\kG fs m
 | .rows key aa fs=>∃rs:List Ds,d=.lst (fM rs)/\(∀m∈rs,kG fs m)/\rs.Pairwise (nA key aa)/\(rs.map λm=>keyOf m key).Nodup
 |k=>d8 k d
theorem jQ.of(h:d8 k d):jQ k d:=by
 cases k with
 |c8 fs=>
  unfold d8 at h;obtain⟨m,e,hF⟩:=h;exact⟨m,e,hF.u⟩
 |rows key aa fs=>
  unfold d8 at h;obtain⟨rs,e,hF,h1,h2⟩:=h;exact⟨rs,e,λm hm=>(hF m hm).u,h1,h2⟩
 |_=>exact h
theorem Tree.ind {P M:D->Prop}(h:∀x y t as,P t->(∀i d,Ds.at as i=some d->Tree P d/\M d)->M (.tup (.cons x t (.cons y (.lst as) .nil)))):∀(n:Nat) (d:D),d.dep<=n->Tree P d->M d
 |0,d,hd,_=>absurd hd (by have:=d.jm;omega)
 |n+1,d,hd,hT=>by
  obtain⟨x,y,t,as,rfl,h1,h2⟩:=hT.shape;simp only[D.dep,Ds.dep] at hd;exact h x y t as h1 λi d aa=>⟨gh.at h2 aa,Tree.ind h n d (by have:=Ds.jN aa;omega) (gh.at h2 aa)⟩
theorem gh.of {P:D->Prop}:∀{as:Ds},(∀i d,as.at i=some d->Tree P d)->gh P as
 | .nil,_=>by unfold gh;trivial
 | .cons _ d r,h=>by
   unfold gh;exact⟨h 0 d rfl,gh.of λi d' hd=>h (i+1) d' hd⟩
theorem Tree.mk {P:D->Prop}(h1:P t)(h2:∀i d,as.at i=some d->Tree P d):Tree P (.tup (.cons x t (.cons y (.lst as) .nil))):=by
 unfold Tree iV;exact⟨h1,gh.of h2⟩
theorem Tree.imp {P Q:D->Prop}(hp:∀t,P t->Q t)(h:Tree P d):Tree Q d:=
 Tree.ind (M:=Tree Q) (λ_ _ _ _ h1 h2=>Tree.mk (hp _ h1) λi d hd=>(h2 i d hd).2) _ d (Q0 _) h
def jR (k:Kd) (d:D):Prop:=match k with
 | .tree k=>Tree (jQ k) d
 |k=>jQ k d
theorem jR.of(h:d8 k d):jR k d:=by
 cases k with
 |tree k=>
  unfold d8 at h;exact Tree.imp (λt ht=>jQ.of ht) h
 |_=>exact jQ.of h
theorem jR.of0(h:jQ k d):jR k d:=by
 cases k with
 |tree k=>exact jR.of (k:=.tree k) h
 |_=>exact h
abbrev dZ (b P:Addr):Hp->Hp->Prop:=Kp (λc=>c=b\/c=P)
theorem _root_.L2.dc.tab {P:Addr}(h:dc P lp ql H):∃ps,H P=some (.eX ps):=by
 rcases h with e|⟨c,e,_⟩ <;> exact⟨_,e⟩
theorem _root_.L2.dc.keep {P:Addr}(h:dc P lp ql H)(k:∀c o,(∀xs,o≠ .lst xs)->H c=some o->H' c=some o):dc P lp ql H':=by
 rcases h with e|⟨c,e,f⟩
 . exact .inl (k _ _ (by intro xs z;cases z) e)
 . exact .inr ⟨c,k _ _ (by intro xs z;cases z) e,k _ _ (by intro xs z;cases z) f⟩
theorem _root_.L2.dc.same {P:Addr}(h:dc P lp ql H)(s:Same H H'):dc P lp ql H':=h.keep λc o _ e=>s c o e
theorem _root_.L2.dc.sb {P b:Addr}(h:dc P lp ql H)(hb:H b=some (.lst l))(s:SB b H H'):dc P lp ql H':=
 h.keep λc o ho e=>s c o (eK e hb (ho l)) e
theorem _root_.L2.dc.wr {P p:Addr}(h:dc P lp ql H)(hp:Mu H p):dc P lp ql (upd H p o):=by
 have key:∀c u,(∀xs,u≠ .lst xs)->(∀kv,u≠ .dK kv)->H c=some u->upd H p o c=some u:=λc u h1 h2 e=>by
  rw[cQ];· exact e
  intro z;subst z;rcases hp with⟨xs,q⟩|⟨kv,q⟩
  . rw[e] at q;exact h1 xs (Option.some.inj q)
  . rw[e] at q;exact h2 kv (Option.some.inj q)
 rcases h with e|⟨c,e,f⟩
 . exact .inl (key _ _ (by intro xs z;cases z) (by intro xs z;cases z) e)
 . exact .inr ⟨c,key _ _ (by intro xs z;cases z) (by intro xs z;cases z) e,key _ _ (by intro xs z;cases z) (by intro xs z;cases z) f⟩
theorem SB.dQ {b P:Addr}(s:SB b H H'):dZ b P H H':=λc o n e=>s c o (λz=>n (.inl z)) e
theorem dZ.at {b P c:Addr}(x:dZ b P H H')(hb:H b=some (.lst [.int n]))(hT:dc P lp ql H)(h1:o≠ .lst [.int n])(h2:∀ps,o≠ .eX ps)(e:H c=some o):H' c=some o:=by
 obtain⟨ps,hP⟩:=hT.tab;refine x c o (λz=>?_) e;rcases z with z|z
 . exact eK e hb h1 z
 . exact eK e hP (h2 ps) z
theorem dZ.tu {b P:Addr}(x:dZ b P H H')(hb:H b=some (.lst [.int n]))(hT:dc P lp ql H):Tu H H':=λa xs e=>x.at hb hT (by intro z;cases z) (by intro ps z;cases z) e
theorem dZ.g0 {K:W.Frag}{a b P:Addr}(x:dZ b P H H')(g:G0 K H a b ns n)(hT:dc P lp ql H)(h:H' b=some (.lst [.int n']))(hn:n<=n'):G0 K H' a b ns n':=by
 refine⟨?_,g.len,h,by have:=g.pos;omega⟩;rcases g.iw with⟨o,e⟩|e
 . exact .inl ⟨o,x.at g.at_ hT (by intro z;cases z) (by intro ps z;cases z) e⟩
 . exact .inr e
theorem Own.dQ {b P:Addr}{H₀ H H':Hp}(h:Own H v d fp)(x:dZ b P H H')(hb:H b=some (.lst [.int n]))(hT:dc P lp ql H)(aa:∃o,H₀ b=some o)(fr:∀c∈fp,H₀ c=none):Own H' v d fp:=by
 refine h.keep (x.tu hb hT) d λc hc o e=>x c o (λz=>?_) e;rcases z with z|z
 . obtain⟨o',e'⟩:=aa;have:=fr c hc;rw[z,e'] at this;cases this
 . obtain⟨ps,hP⟩:=hT.tab;rcases Own.alive d h c hc with⟨xs,q⟩|⟨xs,q⟩ <;> rw[z,hP] at q <;> cases q
inductive zQ (vs:List V) (H:Hp) (Q:V->Hp->Prop):Prop
 |mk (p:_) (r:_) (b:_) (key:_) (by_:_) (fs:_) (kvs:_) (m:_) (fp:_) (h0:vs=[.ref p,.ref r]) (h1:H p=some (.tup [.str "rows",.str key,.str by_,.ref b])) (h2:H r=some (.dK kvs)) (h3:dk H kvs m fp) (h4:kF fs m) (h5:fs.pl key) (h6:(by_=""\/fs.pl by_)) (h7:∀q,H q=none->Q (.ref q) (upd H q (.tup ((rankOf key by_ m).map kV)))):zQ vs H Q
def rf:Sp:=λvs H Q _=>zQ vs H Q
noncomputable def GP (st:Stmt):Pos:=match(k5 st).getLast? with
 |some (.Return (some (.Call _ _ [⟨_,.Lambda _ _ _ lp,_⟩] _)) _)=>lp
 |_=>⟨0,0,0,0⟩
noncomputable abbrev i4:Pos:=GP (top 55)
noncomputable abbrev i5:Str:=("_law_rows":Str)++".<locals>."++"<lambda>"
inductive zR (K:W.Frag) (P:Addr) (N:Nat) (vs:List V) (H:Hp) (Q:V->Hp->Prop):Prop
 |mk (a:_) (b:_) (ns:_) (n:_) (kv:_) (k:_) (room:Nat) (h0:vs=[.ref a,.ref b,kv,.int room]) (h1:G0 K H a b ns n) (h2:dc P i4 i5 H) (h3:KA H kv k) (h4:k.W) (h5:room<8) (h6:mu k room<=N) (h7:n+kc k room<=1000000000000) (h8:∀(v:V) (H':Hp) (fp:List Addr),dZ b P H H'->H' b=some (.lst [.int (val ns k room n).2])->dc P i4 i5 H'->Own H' v (val ns k room n).1 fp->fp.Nodup->(∀c∈fp,H c=none)->Q v H'):zR K P N vs H Q
def nO (K:W.Frag) (P:Addr) (N:Nat):Sp:=λvs H Q _=>zR K P N vs H Q
inductive zS (K:W.Frag) (P:Addr) (N:Nat) (vs:List V) (H:Hp) (Q:V->Hp->Prop):Prop
 |mk (a:_) (b:_) (ns:_) (n:_) (kv:_) (key:_) (by_:_) (fs:_) (room:Nat) (h0:vs=[.ref a,.ref b,kv,.int room]) (h1:G0 K H a b ns n) (h2:dc P i4 i5 H) (h3:KA H kv (.rows key by_ fs)) (h4:(Kd.rows key by_ fs).W) (h5:room<8) (h6:mu (.rows key by_ fs) room<=N+1) (h7:n+(Kd.rows key by_ fs).cB<=1000000000000) (h8:∀(v:V) (H':Hp) (fp:List Addr),dZ b P H H'->H' b=some (.lst [.int (val ns (.rows key by_ fs) room n).2])->dc P i4 i5 H'->Own H' v (val ns (.rows key by_ fs) room n).1 fp->fp.Nodup->(∀c∈fp,H c=none)->Q v H'):zS K P N vs H Q
def zT (K:W.Frag) (P:Addr) (N:Nat):Sp:=λvs H Q _=>zS K P N vs H Q
theorem GQ (T:Tb mg)(Z:cW es K mg):Ok P w K mg base cH "_law_rank" Xq (1) (rf):=by
 refine Z.ok Xq (top 54) λvs H Q E h=>?_;obtain⟨p,r,b,key,aa,fs,kvs,m,fp,rfl,hp,hR,hO,hF,hk,ab,q⟩:=h;refine⟨rfl,λql f af A outer s _ nd hr hu=>?_⟩
 refine⟨_,(cK (dq (di dO (cX (pv 0) cI) d0 (c9 _)) (cO (cS (gc (a_ (fL hu (pv 1) (cX (pv 0) cI) (λ_ _=>rfl)) cG)))) dt)
  (cO (cS (gc (a_ (fL hu (pv 1) (cX (pv 0) cI) (λ_ _=>rfl)) (a_ (fL hu (pv 1) (cX (pv 0) cI) (λ_ _=>rfl)) cG)))))),?_⟩
 ac_rfl
 have gk:d5 H r (.str key) (some (kV (keyOf m key))):=by have:=d5.k (k:=Sum.inr key) hR;rw[hO.pI hF hk] at this;exact this
 refine⟨_,rfl,p,_,_,_,rfl,rfl,cJ.of hp,rfl,rfl,_,rfl,dz (λc=>?_) (λc=>?_)⟩
 . have c':aa="":=by
    have:=of_decide_eq_true c;injection this
   refine⟨_,rfl,_,rfl,p,_,_,_,rfl,rfl,cJ.of hp,rfl,r,_,rfl,gk,gw,λt ht=>?_⟩;have:=q t ht;unfold rankOf at this;rw[if_pos c'] at this;exact this
 . have c':¬aa="":=λz=>c (decide_eq_true (show V.str aa=V.str "" by rw[z]));have ae:fs.pl aa:=ab.resolve_left c';have gb:d5 H r (.str aa) (some (kV (keyOf m aa))):=by have:=d5.k (k:=Sum.inr aa) hR;rw[hO.pI hF ae] at this;exact this
   refine⟨_,rfl,_,rfl,p,_,_,_,rfl,rfl,cJ.of hp,rfl,r,_,rfl,gb,_,rfl,_,rfl,p,_,_,_,rfl,rfl,cJ.of hp,rfl,r,_,rfl,gk,gx,λt ht=>?_⟩;have:=q t ht;unfold rankOf at this;rw[if_neg c'] at this;exact this
theorem GR (T:Tb mg)(Z:cW es K mg):Ok P w K mg base cH "rank" ["kind","row"] (1) (rf):=by
 refine Z.ok ["kind","row","key","by"] (top 18) λvs H Q E h=>?_;obtain⟨p,r,b,key,aa,fs,kvs,m,fp,rfl,hp,hR,hO,hF,hk,ab,q⟩:=h;refine⟨rfl,λql f af A outer s _ nd hr hu=>?_⟩
 refine⟨_,(cK (c_ 2 nd (cX (pv 0) cI))
  (cK (c_ 3 nd (cX (pv 0) cI))
  (cK (dq (di dO (pv 3) d0 (c9 _)) (cO (cS (gc (a_ (fL hu (pv 1) (pv 2) (λ_ _=>rfl)) cG)))) dt)
  (cO (cS (gc (a_ (fL hu (pv 1) (pv 3) (λ_ _=>rfl)) (a_ (fL hu (pv 1) (pv 2) (λ_ _=>rfl)) cG)))))))),?_⟩
 ac_rfl
 have gk:d5 H r (.str key) (some (kV (keyOf m key))):=by have:=d5.k (k:=Sum.inr key) hR;rw[hO.pI hF hk] at this;exact this
 refine⟨_,rfl,p,_,_,_,rfl,rfl,cJ.of hp,rfl,?_⟩;refine⟨_,rfl,p,_,_,_,rfl,rfl,cJ.of hp,rfl,?_⟩;refine⟨_,rfl,rfl,_,rfl,dz (λc=>?_) (λc=>?_)⟩
 . have c':aa="":=by
    have:=of_decide_eq_true c;injection this
   refine⟨_,rfl,_,rfl,r,_,rfl,gk,gw,λt ht=>?_⟩;have:=q t ht;unfold rankOf at this;rw[if_pos c'] at this;exact this
 . have c':¬aa="":=λz=>c (decide_eq_true (show V.str aa=V.str "" by rw[z]));have ae:fs.pl aa:=ab.resolve_left c';have gb:d5 H r (.str aa) (some (kV (keyOf m aa))):=by have:=d5.k (k:=Sum.inr aa) hR;rw[hO.pI hF ae] at this;exact this
   refine⟨_,rfl,_,rfl,r,_,rfl,gb,_,rfl,_,rfl,r,_,rfl,gk,gx,λt ht=>?_⟩;have:=q t ht;unfold rankOf at this;rw[if_neg c'] at this;exact this
noncomputable def σV (a b pk:Addr) (room:Nat) (pr ps:Addr) (x y:Option V):St:=[some (.ref a),some (.ref b),some (.ref pk),some (.int room),some (.ref pr),some (.ref ps),x,y]
theorem zU {α β:Type}{F:α->β->Prop}{a:α}{b:β}:∀{as:List α}{bs:List β},Paired F as bs->F a b->Paired F (as++[a]) (bs++[b])
 |_,_,.nil,h=>.cons h .nil
 |_,_,.cons x r,h=>.cons x (zU r h)
theorem zV(h:sk.map (·.1)=acc.map λr=>keyOf r key)(k:Key):(e6 sk k).isSome=lu key acc k:=by
 rw[<-nh];unfold lu;have e:∀(l:List Ds),(l.any λr=>decide (keyOf r key=k))=((l.map λr=>keyOf r key).any λx=>decide (x=k)):=λl=>by rw[Q2l];rfl
 rw[e,<-h,Q2l];rfl
theorem fg.dQ {b P:Addr}{H₀ H H':Hp}(x:dZ b P H H')(hb:H b=some (.lst [.int n]))(hT:dc P lp ql H)(aa:∃o,H₀ b=some o):
 ∀{vs:List V} {rs:List Ds} {fl:List (List Addr)},fg H vs rs fl->(∀c∈fl.flatten,H₀ c=none)->fg H' vs rs fl
 |_,_,_,.nil,_=>.nil
 |_,_,_,.cons h r,fr=>.cons (h.dQ x hb hT aa λc hc=>fr c (Q0o _ hc)) (fg.dQ x hb hT aa r λc hc=>fr c (Q07 _ hc))
theorem fg.keep(t:Tu H H'):∀{vs:List V}{rs:List Ds}{fl:List (List Addr)},fg H vs rs fl->(∀c∈fl.flatten,∀o,H c=some o->H' c=some o)->fg H' vs rs fl
 |_,_,_,.nil,_=>.nil
 |_,_,_,.cons h r,k=>.cons (h.keep t _ λc hc=>k c (Q0o _ hc)) (fg.keep t r λc hc=>k c (Q07 _ hc))
theorem fg.mu(h:fg H vs rs fl):∀c∈fl.flatten,Mu H c:=dj.alive _ h.own
theorem GU(N:Nat)(T:Tb mg)(Z:cW es K mg)(bC:W.CodeHd base (codeN "_law_rows") Pt)(bD:BM mg base)(ai:Ok P w K mg base cH "_law_next" XD (1) (nL K))(aj:Ok P w K mg base cH "_law_rank" Xq (1) (rf))(ag:Ok P w K mg base cH "_law_value" XG (2 * N+5) (nO K Pt N)):
 Ok P w K mg base cH "_law_rows" XG (2 * N+6) (zT K Pt N):=by
 refine Z.qS XQ (top 55) (codeN "_law_rows") λvs H Q E h=>?_;obtain⟨a,b,ns,n,kv,key,aa,fs,room,rfl,g,hT,hk,hW,b7,bE,hn,q⟩:=h;refine⟨rfl,λql f b8 A outer s bF nd hr hu=>?_⟩;obtain⟨rfl,rfl⟩:=bF;unfold KA at hk;obtain⟨pk,pb,xs,rfl,aR,bG,bH⟩:=hk;have b9:=hW;unfold Kd.W at hW;obtain⟨bI,bJ,aS,aC,a9⟩:=hW
 refine⟨_,(cK (c_ 4 nd (eR cG))
  (cK (c_ 5 nd qK)
  (cK (fR PassesOwn.never rfl (k_ rfl T.jP (a_ (cU dH (cT ai hr (a_ (pv 0) (a_ (pv 1) cG))) (cU gT (pv 3) cI)) cG)) (dy (i:=6) nd rfl d9) (cK (c_ 7 nd (cT ag hr (a_ (pv 0) (a_ (pv 1) (a_ (gc (a_ d0 (a_ (cX (pv 2) cI) cG))) (a_ (cU eZ (pv 3) cI) cG))))))
  (cO (dq (sh (xy hu (fL hu (pv 7) (cX (pv 2) cI) (λ_ _=>rfl)) (pv 5)) (by with_unfolding_all rfl)) (cK (oZ hu (pv 5) (fL hu (pv 7) (cX (pv 2) cI) (λ_ _=>rfl)) f9 rfl)
  (cO (ft (jI PySem.F.plainAttrs_list PySem.F.slot_list_append PySem.F.type_list_append mj (pv 4) (a_ (pv 7) cG))))) dt))))
  (cO (cS (Fy (x:="_law_row") (N':=["","","_law_kind_here","","","","",""]) rfl T.um boot_sorted hr rfl rfl bC bD (lg.of (N:=XQ) (sc:=eP (top 55)) rfl rfl rfl rfl rfl (by decide +kernel)) rfl (λ_ _ _ _ _=>rfl) (pv 4) (λ_ _ _ _ _=>(yZ aj (d4.deeper (k:=1) (d4.in1 (k:=2) (d4.in1 (k:=3) (hr.mono (by omega)))) _) rfl fG (a_ (pv 3) (a_ (pv 0) cG)))))))))),?_⟩
 ac_rfl
 have bK:(Kd.rows key aa fs).cB=8 * fs.cB+1:=rfl;rw[bK] at hn;have hb:=g.at_;obtain⟨cb,hP⟩:=hT.tab;refine⟨nK,λpr aI=>?_⟩;intro ps aw
 have aD:H ps=none:=by
  by_cases e:ps=pr
  . rw[e,cV] at aw;cases aw
  . rwa [cQ e] at aw
 have aU:ps≠pr:=λe=>by rw[e,cV] at aw;cases aw
 have s0:Same H (upd (upd H pr (.lst [])) ps (.dK [])):=(Same.new aI).trans (Same.new aw);have bL:=hT.same s0;have g0:G0 K (upd (upd H pr (.lst [])) ps (.dK [])) a b ns n:=⟨(SB.of s0).iw hb g.iw,g.len,s0 _ _ hb,g.pos⟩;refine⟨_,rfl,_,rfl,a,b,ns,n,rfl,g0,by omega,λH1 s1 h1=>?_⟩;refine⟨_,rfl,_,_,rfl,rfl,_,_,rfl,rfl,by omega,?_⟩;have cf:=Q0k (nx ns (n+1)) (show((room:Int)+1)≠0 by omega);have cg:=Q0l (nx ns (n+1)) (show(0:Int)<(room:Int)+1 by omega);have aV:b≠pr:=c6 hb aI;have aW:b≠ps:=c6 hb aD;have bM:Pt≠pr:=c6 hP aI;have bN:Pt≠ps:=c6 hP aD;have bO:H1 pr=some (.lst []):=s1 pr _ (Ne.symm aV) (by rw[cQ (Ne.symm aU)];exact cV);have bP:H1 ps=some (.dK []):=s1 ps _ (Ne.symm aW) cV;have bQ:dc Pt i4 i5 H1:=bL.sb (s0 _ _ hb) s1;have k1:dZ b Pt H H1:=λc o nc e=>s1 c o (λz=>nc (.inl z)) (s0 c o e);have cnt:=λm=>px ns fs (room / 2) m (by omega)
 refine⟨_,rfl,by omega,by omega,ka (n:=Int.toNat (nx ns (n+1) % ((room:Int)+1))) (λi σ H'=>∃x y vs fl sk,σ=σV a b pk room pr ps x y/\dZ b Pt H H'/\H' b=some (.lst [.int (dY (dw ns fs (room / 2)) key i [] (n+1)).2])/\dc Pt i4 i5 H'/\
  H' pr=some (.lst vs)/\H' ps=some (.dK sk)/\fg H' vs (dY (dw ns fs (room / 2)) key i [] (n+1)).1 fl/\fl.flatten.Nodup/\(∀c∈fl.flatten,H c=none/\c≠pr/\c≠ps)/\sk.map (·.1)=((dY (dw ns fs (room / 2)) key i [] (n+1)).1.map λr=>keyOf r key)/\vs.length<=i) ?_ ?_ ?_⟩
 . exact⟨_,_,[],[],[],rfl,k1,h1,bQ,bO,bP,.nil,Q0s,λc hc=>absurd hc (by simp),rfl,Q0 _⟩
 . intro i σ H' hi zq;obtain⟨x,y,vs,fl,sk,rfl,kp,az,ax,aJ,aX,ae,aK,ao,aA,bR⟩:=zq;have cj:i<8:=by omega
   obtain⟨c1,c2⟩:=qV (key:=key) cnt i [] (n+1);have c3:i * fs.cB<=7 * fs.cB:=Q1 _ (by omega);have aB:Tu H H':=kp.tu hb hT;refine⟨_,rfl,_,rfl,_,rfl,pk,_,_,_,rfl,rfl,cJ.of (aB _ _ aR),rfl,gx,λt ht=>?_⟩;have st:Same H' (upd H' t (.tup [.str "record",.ref pb])):=Same.new ht;have e2:((room / 2:Nat):Int)=(room:Int) / 2:=by omega
   have bS:KA (upd H' t (.tup [.str "record",.ref pb])) (.ref t) (.c8 fs):=by
    unfold KA;exact⟨t,pb,xs,rfl,cV,st _ _ (aB _ _ bG),FA.mono (aB.trans (Tu.of st)) fs bH⟩
   have cm:=g.pos;refine⟨_,rfl,_,_,rfl,rfl,⟨by decide,by decide⟩,a,b,ns,(dY (dw ns fs (room / 2)) key i [] (n+1)).2,.ref t,.c8 fs,room / 2,(by rw[e2];rfl),dZ.g0 (kp.trans (Kp.of st)) g hT (st _ _ az) (by omega),ax.same st,bS,(by unfold Kd.W;exact⟨bI,bJ,aS⟩),by omega,(by simp only[mu,Kd.dep] at bE ⊢;omega),(by simp only[kc,Kd.cB];omega),?_⟩;intro v H2 fp dQ ay ba ar bw aO;have ev:val ns (.c8 fs) (room / 2) (dY (dw ns fs (room / 2)) key i [] (n+1)).2=(.dct (dw ns fs (room / 2) (dY (dw ns fs (room / 2)) key i [] (n+1)).2).1,(dw ns fs (room / 2) (dY (dw ns fs (room / 2)) key i [] (n+1)).2).2):=by simp only[val]
   rw[ev] at ay ar;have bx:=pj ns fs aS (room / 2) (dY (dw ns fs (room / 2)) key i [] (n+1)).2 (by omega);have succ:=uA (g:=dw ns fs (room / 2)) (key:=key) i [] (n+1);generalize dY (dw ns fs (room / 2)) key (i+1) [] (n+1)=cn at succ ⊢;generalize dY (dw ns fs (room / 2)) key i [] (n+1)=cur at *;generalize dw ns fs (room / 2) cur.2=af at *;have ak:dZ b Pt H' H2:=(Kp.of st).trans dQ;have bT:∃o,H b=some o:=⟨_,hb⟩;have bb:H2 pr=some (.lst vs):=ak pr _ (λz=>z.elim (Ne.symm aV) (Ne.symm bM)) aJ;have aL:H2 ps=some (.dK sk):=ak ps _ (λz=>z.elim (Ne.symm aW) (Ne.symm bN)) aX;have ab:fg H2 vs cur.1 fl:=fg.dQ ak az ax bT ae λc hc=>(ao c hc).1;have a7:=ar;unfold Own at ar;obtain⟨rr,kvs,fq,rfl,aY,cp,aZ⟩:=ar;have au:H2 pk=some (.tup [.str "rows",.str key,.str aa,.ref pb]):=dZ.at (kp.trans ak) hb hT (by intro z;cases z) (by intro ps z;cases z) aR;have gk:d5 H2 rr (.str key) (some (kV (keyOf af.1 key))):=by have:=d5.k (k:=Sum.inr key) aY;rw[aZ.key bx aC] at this;exact this
   have gs:d5 H2 ps (kV (keyOf af.1 key)) (e6 sk (keyOf af.1 key)):=d5.k aL;have sv:=zV aA (keyOf af.1 key);have aF:dZ b Pt H H2:=kp.trans ak;refine⟨_,rfl,_,rfl,pk,_,_,_,rfl,rfl,cJ.of au,rfl,rr,_,rfl,gk,_,rfl,ps,_,rfl,gs,_,rfl,?_⟩
   cases ec:lu key cur.1 (keyOf af.1 key) with
   |true=>
    rw[ec] at sv;rw[ec,if_pos rfl] at succ;rw[sv];subst succ;exact dX ⟨_,_,vs,fl,sk,rfl,aF,ay,ba,bb,aL,ab,aK,ao,aA,by omega⟩
   |false=>
    rw[ec] at sv;rw[ec,if_neg (by simp)] at succ;rw[sv];subst succ;refine fo ?_
    have bU:e6 sk (keyOf af.1 key)=none:=by
     cases z:e6 sk (keyOf af.1 key) with
     |none=>rfl
     |some o=>rw[z] at sv;cases sv
    have bz:sk.length<sizeLine:=by
     have e1:sk.length=(cur.1.map λr=>keyOf r key).length:=by rw[<-aA,Q01]
     rw[Q01] at e1;have cq:=(A3.len ab).1;exact eE (by omega)
    refine⟨_,rfl,_,rfl,_,rfl,pk,_,_,_,rfl,rfl,cJ.of au,rfl,rr,_,rfl,gk,ps,_,rfl,jJ.k aL bz,?_⟩;rw[qX bU];have be:Mu H2 ps:=.inr ⟨_,aL⟩;have bV:Tu H2 (upd H2 ps (.dK (sk++[(keyOf af.1 key,.bl true)]))):=Tu.wr λys z=>be.ud ys z;have a3:upd H2 ps (.dK (sk++[(keyOf af.1 key,.bl true)])) pr=some (.lst vs):=by rw[cQ (Ne.symm aU)];exact bb
    refine⟨_,rfl,.inl ⟨rfl,_,cM.of a3⟩,_,rfl,pr,_,_,rfl,rfl,a3,eE (by omega),?_⟩;have bf:Mu (upd H2 ps (.dK (sk++[(keyOf af.1 key,.bl true)]))) pr:=.inl ⟨_,a3⟩;have bg:Tu H2 (upd (upd H2 ps (.dK (sk++[(keyOf af.1 key,.bl true)]))) pr (.lst (vs++[.ref rr]))):=bV.trans (Tu.wr λys z=>bf.ud ys z)
    have aE:∀c∈fp,H c=none/\c≠pr/\c≠ps:=λc hc=>by
     have z:=aO c hc;have z':H' c=none:=st.free z;have nb:c≠b:=λe=>by rw[e,az] at z';cases z'
     obtain⟨bj,a4⟩:=ax.tab;have nP:c≠Pt:=λe=>by rw[e,a4] at z';cases z'
     refine⟨kp.uf (λe=>e.elim nb nP) z',λe=>?_,λe=>?_⟩
     . rw[e,aJ] at z';cases z'
     . rw[e,aX] at z';cases z'
    have ah:∀c,c≠pr->c≠ps->upd (upd H2 ps (.dK (sk++[(keyOf af.1 key,.bl true)]))) pr (.lst (vs++[.ref rr])) c=H2 c:=λc n1 n2=>by rw[cQ n1,cQ n2]
    refine⟨_,_,vs++[.ref rr],fl++[fp],_,rfl,λc o nc e=>?_,by rw[ah b aV aW];exact ay,(ba.wr be).wr bf,cV,by rw[cQ aU];exact cV,?_,?_,?_,?_,by rw[Q0d];show vs.length+1<=i+1;omega⟩
    . rw[ah c (c6 e aI) (c6 e aD)];exact aF c o nc e
    . refine A3.snoc ?_ (fg.keep bg ab λc hc o e=>by rw[ah c (ao c hc).2.1 (ao c hc).2.2];exact e);exact a7.keep bg _ λc hc o e=>by rw[ah c (aE c hc).2.1 (aE c hc).2.2];exact e
    . rw[Q3a];refine List.nodup_append.mpr ⟨aK,by simpa using bw,λc hc d hd=>?_⟩;have bW:d∈fp:=by simpa using hd
      intro e;subst e;obtain⟨o,eo⟩:=(fg.mu ae c hc).ex;have:=st.free (aO c bW);rw[eo] at this;cases this
    . intro c hc;rw[Q3a] at hc;rcases List.mem_append.mp hc with z|z
      . exact ao c z
      . exact aE c (by simpa using z)
    . rw[Q0h,Q0h,aA];rfl
 . intro σ H' zq;obtain⟨x,y,vs,fl,sk,rfl,kp,az,ax,aJ,aX,ae,aK,ao,aA,bR⟩:=zq;have bX:val ns (.rows key aa fs) room n=(.lst (fM (lq key aa (dY (dw ns fs (room / 2)) key (nx ns (n+1) % ((room:Int)+1)).toNat [] (n+1)).1)),(dY (dw ns fs (room / 2)) key (nx ns (n+1) % ((room:Int)+1)).toNat [] (n+1)).2):=by simp only[val]
   rw[bX] at q;have aG:∀m∈(dY (dw ns fs (room / 2)) key (nx ns (n+1) % ((room:Int)+1)).toNat [] (n+1)).1,fk fs m:=nE (R:=fk fs) (λn=>pj ns fs aS (room / 2) n (by omega)) _ _ _ (λr hr=>absurd hr (by simp));have bY:=qU (g:=dw ns fs (room / 2)) (key:=key) (nx ns (n+1) % ((room:Int)+1)).toNat [] (n+1) Q0s;generalize dY (dw ns fs (room / 2)) key (nx ns (n+1) % ((room:Int)+1)).toNat [] (n+1)=cur at *;obtain⟨aP,bA⟩:=A3.len ae;refine⟨_,rfl,pr,vs,rfl,cM.of aJ,by omega,ax,λc' H2 a5 mono=>?_⟩;have aB:Tu H H':=kp.tu hb hT
   have np:∀cc o,(∀ps,o≠ .eX ps)->H' cc=some o->H2 cc=some o:=λcc o ho e=>by
    obtain⟨bj,a4⟩:=ax.tab;exact mono cc o (eK e a4 (ho bj)) e
   have bo:Tu H' H2:=λcc ys e=>np cc _ (by intro ps z;cases z) e
   have ab:fg H2 vs cur.1 fl:=fg.keep bo ae λcc hc o e=>np cc o (by
    intro ps z;rcases fg.mu ae cc hc with⟨_,q⟩|⟨_,q⟩ <;> rw[e] at q <;> rw[z] at q <;> cases q) e
   have au:H2 pk=some (.tup [.str "rows",.str key,.str aa,.ref pb]):=bo _ _ (aB _ _ aR);refine⟨λks H3=>Same H2 H3/\ks.length<=vs.length/\ny H3 ks ((cur.1.map (rankOf key aa)).take ks.length),⟨Same.refl _,Q0c _,.nil⟩,λks H3 hw=>a5.mono λcc o _ e=>hw.1 _ _ e,?_,?_⟩
   . rintro ks H3 yv ⟨s3,hle,aM⟩ hy;have bp:ks.length<vs.length:=(List.getElem?_eq_some_iff.mp hy).1;have aQ:=A3.at (a0:=V.non) (b0:=Ds.nil) (c0:=[]) ab ks.length bp;have ey:vs.getD ks.length .non=yv:=by rw[Q0f,hy];rfl
     rw[ey] at aQ
     have bB:cur.1.getD ks.length .nil∈cur.1:=by
      rw[Q0f,Q03 (by omega)];exact Q17 _
     have aH:=Own.same s3 aQ;unfold Own at aH;obtain⟨rr,kvs,fq,rfl,aY,_,aZ⟩:=aH;refine⟨_,rfl,_,rfl,pk,rr,pb,key,aa,fs,kvs,_,fq,rfl,s3 _ _ au,aY,aZ,(aG _ bB).p,aC,a9,λt ht=>⟨s3.trans (Same.new ht),by rw[Q0d];exact bp,?_⟩⟩
     have et:(cur.1.map (rankOf key aa)).take (ks++[V.ref t]).length=(cur.1.map (rankOf key aa)).take ks.length++[rankOf key aa (cur.1.getD ks.length .nil)]:=by
      rw[Q0d];show List.take (ks.length+1) _=_;rw[Q0p,Q0g,Q0f,Q03 (by omega)];rfl
     rw[et];refine zU (Paired.qh aM λk kl z=>?_) ⟨t,rfl,cV⟩;obtain⟨pp,e,hh⟩:=z;exact⟨pp,e,by rw[cQ (c6 hh ht)];exact hh⟩
   . rintro ks H3 ⟨s3,hle,aM⟩ hlen
     have bZ:(cur.1.map (rankOf key aa)).take ks.length=cur.1.map (rankOf key aa):=by
      rw[hlen,aP,Q0x (by rw[Q01];exact Q0 _)]
     rw[bZ] at aM;refine⟨_,aM,⟨if aa="" then [jn (fs.get key)] else [jn (fs.get aa),jn (fs.get key)],by split <;> simp,λkl b1=>?_⟩,λp hp hs D hD=>?_⟩
     . obtain⟨m,hm,rfl⟩:=List.mem_map.mp b1;exact F4 (aG m hm) aC a9
     have a6:∀i∈p,i<vs.length:=λi hi=>by
      have:=hp.mem_iff.mp hi;simpa using this
     have b2:p.Perm (List.range cur.1.length):=by rw[<-aP];exact hp
     have hz:(p.map λi=>cur.1.getD i .nil)=lq key aa cur.1:=by
      refine F3 (yL _ b2) ?_ bY;rw[Q1g] at hs ⊢;refine List.Pairwise.imp_of_mem (λ{i j} hi hj h=>?_) hs;have b3:=a6 i hi;have b4:=a6 j hj
      have ge:∀i,i<vs.length->(cur.1.map (rankOf key aa)).getD i []=rankOf key aa (cur.1.getD i .nil):=λi hi=>by
       rw[Q0f,Q0f,Q0g,Q03 (by omega)];rfl
      rw[ge i b3,ge j b4] at h;exact h
     have av:fg H3 vs cur.1 fl:=fg.keep (Tu.of s3) ab λcc _ o e=>s3 cc o e;have sD:Same H3 (upd H3 D (.lst (p.map λi=>vs.getD i .non))):=Same.new hD;have aN:fg (upd H3 D (.lst (p.map λi=>vs.getD i .non))) vs cur.1 fl:=fg.keep (Tu.of sD) av λcc _ o e=>sD cc o e;have a8:=A3.pick (a0:=V.non) (b0:=Ds.nil) (c0:=[]) aN p a6;have b5:(p.map λi=>fl.getD i []).Perm fl:=yL _ (by rw[<-bA];exact hp);have aq:=F8 b5;have ay:H2 b=some (.lst [.int cur.2]):=np b _ (by intro ps z;cases z) az;have bq:D≠b:=λe=>by rw[e,s3 _ _ ay] at hD;cases hD
     have br:D≠Pt:=λe=>by rw[e,s3 _ _ a5.1] at hD;cases hD
     have bu:=s3.free hD
     have b6:H' D=none:=by
      cases e:H' D with
      |none=>rfl
      |some o=>rw[mono D o br e] at bu;cases bu
     refine q (.ref D) _ (D::(p.map λi=>fl.getD i []).flatten) (λcc o nc e=>?_) (by rw[cQ (Ne.symm bq)];exact s3 _ _ ay) (.inr ⟨c',a5.mono λcc o _ e=>sD _ _ (s3 _ _ e)⟩) ?_ ?_ ?_
     . have e1:=kp cc o nc e;exact sD _ _ (s3 _ _ (mono cc o (λz=>nc (.inr z)) e1))
     . unfold Own;exact⟨D,_,_,rfl,cV,rfl,by rw[<-hz];exact fg.own a8⟩
     . refine List.nodup_cons.mpr ⟨λhm=>?_,aq.nodup_iff.mpr aK⟩;obtain⟨o,eo⟩:=(fg.mu av D (aq.mem_iff.mp hm)).ex;rw[hD] at eo;cases eo
     . intro cc hc;rcases List.mem_cons.mp hc with z|z
       . rw[z];exact kp.uf (λe=>e.elim bq br) b6
       . exact(ao cc (aq.mem_iff.mp z)).1
theorem GV (k:Kd)(room:Nat):16<=mu k room:=by
 have:=k.jm
 cases k <;> simp only[mu,Kd.dep] at * <;> omega
noncomputable def σU (a b:Addr) (kv:V) (room:Nat) (x1 x2 x3 x4 x5:Option V):St:=[some (.ref a),some (.ref b),some kv,some (.int room),x1,x2,x3,x4,x5]
theorem dk.dQ {b P:Addr}{H₀ H H':Hp}(h:dk H v d fp)(x:dZ b P H H')(hb:H b=some (.lst [.int n]))(hT:dc P lp ql H)(aa:∃o,H₀ b=some o)(fr:∀c∈fp,H₀ c=none):dk H' v d fp:=by
 refine h.keep (dZ.tu x hb hT) d λc hc o e=>x c o (λz=>?_) e;rcases z with z|z
 . obtain⟨o',e'⟩:=aa;have:=fr c hc;rw[z,e'] at this;cases this
 . obtain⟨ps,hP⟩:=hT.tab;rcases dk.alive d h c hc with⟨xs,q⟩|⟨xs,q⟩ <;> rw[z,hP] at q <;> cases q
theorem dj.dQ {b P:Addr}{H₀ H H':Hp}(h:dj H v d fp)(x:dZ b P H H')(hb:H b=some (.lst [.int n]))(hT:dc P lp ql H)(aa:∃o,H₀ b=some o)(fr:∀c∈fp,H₀ c=none):dj H' v d fp:=by
 refine h.keep (dZ.tu x hb hT) d λc hc o e=>x c o (λz=>?_) e;rcases z with z|z
 . obtain⟨o',e'⟩:=aa;have:=fr c hc;rw[z,e'] at this;cases this
 . obtain⟨ps,hP⟩:=hT.tab;rcases dj.alive d h c hc with⟨xs,q⟩|⟨xs,q⟩ <;> rw[z,hP] at q <;> cases q
theorem dZ.fresh {b P c:Addr}(x:dZ b P H H')(hb:H' b=some (.lst [.int n]))(hT:dc P lp ql H')(h:H' c=none):H c=none:=by
 obtain⟨ps,hP⟩:=hT.tab;exact x.uf (λe=>e.elim (λz=>by rw[z,hb] at h;cases h) λz=>by rw[z,hP] at h;cases h) h
theorem GW(T:Tb mg)(Z:cW es K mg):Ok P w K mg base cH "_law_value" XG (2 * 0+5) (nO K Pt 0):=by
 refine Z.ok XI (top 56) λvs H Q E h=>?_;obtain⟨a,b,ns,n,kv,k,room,rfl,g,hT,hk,hW,ab,aa,_⟩:=h;refine⟨rfl,λql f ae A outer s _ nd hr hu=>?_⟩;exact absurd aa (by have:=GV k room;omega)
theorem GX(N:Nat)(T:Tb mg)(Z:cW es K mg)(ab:Ok P w K mg base cH "_law_value" XG (2 * N+5) (nO K Pt N))(ar:Ok P w K mg base cH "_law_rows" XG (2 * N+6) (zT K Pt N))(ag:Ok P w K mg base cH "_law_next" XD (1) (nL K))(aq:Ok P w K mg base cH "_law_number" XD (2) (zo K))(au:Ok P w K mg base cH "_law_word" XD (2) (zq K)):
 Ok P w K mg base cH "_law_value" XG (2 * (N+1)+5) (nO K Pt (N+1)):=by
 refine Z.ok XI (top 56) λvs H Q E h=>?_;obtain⟨a,b,ns,n,kv,k,room,rfl,g,hT,hk,hW,af,aQ,hn,q⟩:=h;refine⟨rfl,λql f bD A outer s _ nd hr hu=>?_⟩
 refine⟨_,(cK (dq (di dO (cX (pv 2) cI) d0 (c9 _)) (cO (cS (cT aq hr (a_ (pv 0) (a_ (pv 1) cG))))) dt)
  (cK (dq (di dO (cX (pv 2) cI) d0 (c9 _)) (cO (cS (cT au hr (a_ (pv 0) (a_ (pv 1) cG))))) dt)
  (cK (dq (di dO (cX (pv 2) cI) d0 (c9 _)) (cK (c_ 4 nd qK)
  (cK (fR PassesOwn.never rfl (gR (cX (pv 2) cI)) (hZ rfl (eY (dy (i:=5) nd rfl d9) (eY (dy (i:=6) nd rfl d9) hX))) (cO (oZ hu (pv 4) (pv 5) (cT ab hr (a_ (pv 0) (a_ (pv 1) (a_ (pv 6) (a_ (pv 3) cG))))) rfl)))
  (cO (cS (pv 4))))) dt)
  (cK (dq (di dO (cX (pv 2) cI) d0 (c9 _)) (cO (cS (cT ar hr (a_ (pv 0) (a_ (pv 1) (a_ (pv 2) (a_ (pv 3) cG))))))) dt)
  (cK (dq (di dO (cX (pv 2) cI) d0 (c9 _)) (cK (c_ 7 nd (cT ab hr (a_ (pv 0) (a_ (pv 1) (a_ (cX (pv 2) cI) (a_ (cU eZ (pv 3) cI) cG))))))
  (cK (c_ 8 nd (cU dH (cT ag hr (a_ (pv 0) (a_ (pv 1) cG))) (cU gT (pv 3) cI)))
  (cO (cS (gc (a_ (pv 7) (a_ (ib (g:=(eG 0)) (tt:=jk) (te:=(kg _ _ _ (fA (dF 1) (fA (dF 2) (fA (dF 3) (fA (d6 _ (dF 4) (tC (.int 2))) gU)))))) (own:=["_law_k"]) rfl (gD (N:=XI) (sc:=eP (top 56))) (k_ rfl T.jP (a_ (pv 8) cG)) (λ_ _ _ _ _=>(dy (i:=0) (show(["_law_k","_law_script","_law_at","_law_kind_here","_law_room","_law_made","_law_name","_law_inner_here","_law_top","_law_many"]:List Str).Nodup by decide +kernel) rfl (Or.inl rfl) (.inr rfl))) (λ_ _ _ _ _=>kr) (λ_ _ _ _ _=>(cT ab hr (a_ (pv 1) (a_ (pv 2) (a_ (pv 3) (a_ (cU eZ (pv 4) cI) cG))))))) cG))))))) dt)
  (cK (sC (cX (cX (pv 2) cI) (cU dH (cT ag hr (a_ (pv 0) (a_ (pv 1) cG))) (dG fC (by rfl) T.eT PySem.boot_len (a_ (cX (pv 2) cI) cG)))) (hZ rfl (eY (dy (i:=5) nd rfl d9) (eY (dy (i:=6) nd rfl d9) hX))))
  (cO (cS (gc (a_ (pv 5) (a_ (cT ab hr (a_ (pv 0) (a_ (pv 1) (a_ (pv 6) (a_ (pv 3) cG))))) cG))))))))))),?_⟩
 ac_rfl
 have hb:=g.at_;have bE:=g.pos;have aK:∃o,H b=some o:=⟨_,hb⟩;obtain⟨bF,hP⟩:=hT.tab;have e2:((room / 2:Nat):Int)=(room:Int) / 2:=by omega
 cases k with
 |num=>
  unfold KA at hk;obtain⟨c,rfl,hc⟩:=hk;simp only[kc,Kd.cB] at hn;refine jL rfl hc rfl (by decide +kernel) ?_;refine⟨_,rfl,_,rfl,a,b,ns,n,rfl,g,by omega,λH1 s1 h1=>?_⟩;have ev:val ns .num room n=(.int (num ns (n+1)),n+1):=by simp only[val]
  rw[ev] at q;exact q _ H1 [] (SB.dQ s1) h1 (hT.sb hb s1) (by unfold Own;exact⟨rfl,rfl⟩) Q0s λc hc=>absurd hc (by simp)
 |eu=>
  unfold KA at hk;obtain⟨c,rfl,hc⟩:=hk;simp only[kc,Kd.cB] at hn;refine e7 rfl hc rfl (by decide +kernel) ?_;refine jL rfl hc rfl (by decide +kernel) ?_;refine⟨_,rfl,_,rfl,a,b,ns,n,rfl,g,by omega,λH1 s1 h1=>?_⟩;have ev:val ns .eu room n=(.str (eu ns (n+1)),n+1):=by simp only[val]
  rw[ev] at q;exact q _ H1 [] (SB.dQ s1) h1 (hT.sb hb s1) (by unfold Own;exact⟨rfl,rfl⟩) Q0s λc hc=>absurd hc (by simp)
 |c8 fs=>
  unfold KA at hk;obtain⟨pk,pb,xs,rfl,ae,ax,ay⟩:=hk;unfold Kd.W at hW;obtain⟨aR,a7,aL⟩:=hW;refine e7 rfl ae rfl (by decide +kernel) ?_;refine e7 rfl ae rfl (by decide +kernel) ?_;refine jL rfl ae rfl (by decide +kernel) ?_;intro p hp;have aS:b≠p:=c6 hb hp;have a8:Pt≠p:=c6 hP hp;have s0:Same H (upd H p (.dK [])):=Same.new hp;have a9:val ns (.c8 fs) room n=(.dct (dw ns fs room n).1,(dw ns fs room n).2):=by simp only[val]
  rw[a9] at q;simp only[kc,Kd.cB] at hn
  refine⟨_,rfl,pk,_,_,_,rfl,rfl,cJ.of (s0 _ _ ae),rfl,pb,rfl,⟨_,cJ.of (s0 _ _ ax)⟩,lY (xs:=xs) (λi σ H'=>∃x2 x3 x4 x5 kvs fq,σ=σU a b (.ref pk) room (some (.ref p)) x2 x3 x4 x5/\dZ b Pt H H'/\H' b=some (.lst [.int (dw ns (fs.take i) room n).2])/\dc Pt i4 i5 H'/\
   H' p=some (.dK kvs)/\dk H' kvs (dw ns (fs.take i) room n).1 fq/\fq.Nodup/\∀c∈fq,H c=none/\c≠p) ?_ ?_ ?_ ?_⟩
  . rw[Fs.take_zero];refine⟨_,_,_,_,[],[],rfl,Kp.of s0,by simp only[dw];exact s0 _ _ hb,hT.same s0,cV,?_,Q0s,λc hc=>absurd hc (by simp)⟩;simp only[dw];unfold dk;exact⟨rfl,rfl⟩
  . intro i σ H' _ zq;obtain⟨x2,x3,x4,x5,kvs,fq,rfl,kp,_⟩:=zq;exact cJ.of (dZ.tu kp hb hT _ _ ax)
  . intro i v σ H' hv zq;obtain⟨x2,x3,x4,x5,kvs,fq,rfl,kp,ah,ai,aD,hO,az,aj⟩:=zq;have aU:=dZ.tu kp hb hT;obtain⟨c,u,nm,k,rfl,ak,hc,hk⟩:=FA.get fs ay hv;have cn:=px ns (fs.take i) room n af;have cb:=Fs.zF ak;refine⟨c,_,rfl,cJ.of (aU _ _ hc),rfl,_,_,rfl,_,_,rfl,rfl,?_⟩;refine⟨_,rfl,_,rfl,_,rfl,_,rfl,a,b,ns,(dw ns (fs.take i) room n).2,u,k,room,rfl,dZ.g0 kp g hT ah cn.1,ai,KA.mono aU k hk,Fs.pd aL ak,af,?_,by have:=uD k room;omega,?_⟩
    . have:mu k room<mu (.c8 fs) room:=uB (by have:=Fs.jN ak;simp only[Kd.dep];omega) af;omega
    intro v2 H2 fp dQ aA aB av aw ao;have aV:H2 p=some (.dK kvs):=dQ p _ (λz=>z.elim (Ne.symm aS) (Ne.symm a8)) aD;have ba:=dk.dQ hO dQ ah ai aK λc hc=>(aj c hc).1;have bb:nm ∉ (dw ns (fs.take i) room n).1.names:=by rw[rb];exact Fs.GO aR ak
    have be:kvs.length<sizeLine:=by
     rw[dk.len hO,rb];have:(fs.take i).names.length<=fs.names.length:=by rw[Fs.uE,Q0n];omega
     exact eE (by omega)
    refine⟨_,rfl,_,rfl,p,_,rfl,jJ.k (k:=Sum.inr nm) aV be,?_⟩;rw[qX (dk.F6 hO bb)];have aW:Mu H2 p:=.inr ⟨_,aV⟩;have aX:Tu H2 (upd H2 p (.dK (kvs++[(Sum.inr nm,v2)]))):=Tu.wr λys z=>aW.ud ys z
    have aH:∀c∈fp,H c=none/\c≠p:=λc hc=>by
     have z:=ao c hc;exact⟨dZ.fresh kp ah ai z,λe=>by rw[e,aD] at z;cases z⟩
    have sn:=zB ns nm k room (fs.take i) n;rw[Fs.take_succ ak,sn];refine⟨_,_,_,_,_,fq++fp,rfl,λc o nc e=>?_,by rw[cQ aS];exact aA,aB.wr aW,cV,?_,?_,?_⟩
    . rw[cQ (c6 e hp)];exact dQ c o nc (kp c o nc e)
    . exact dk.snoc (av.keep aX _ λc hc o e=>by rw[cQ (aH c hc).2];exact e) _ (ba.keep aX _ λc hc o e=>by rw[cQ (aj c hc).2];exact e)
    . refine List.nodup_append.mpr ⟨az,aw,λc hc d hd=>?_⟩;intro e;subst e;obtain⟨o,eo⟩:=(dk.alive _ hO c hc).ex;rw[ao c hd] at eo;cases eo
    . intro c hc;rcases List.mem_append.mp hc with z|z
      . exact aj c z
      . exact aH c z
  . intro σ H' zq;obtain⟨x2,x3,x4,x5,kvs,fq,rfl,kp,ah,ai,aD,hO,az,aj⟩:=zq;rw[FA.len fs ay,Fs.take_all] at ah hO;refine⟨_,rfl,q (.ref p) H' (p::fq) kp ah ai ?_ ?_ ?_⟩
    . unfold Own;exact⟨p,kvs,fq,rfl,aD,rfl,hO⟩
    . exact List.nodup_cons.mpr ⟨λhm=>(aj p hm).2 rfl,az⟩
    . intro c hc;rcases List.mem_cons.mp hc with z|z
      . rw[z];exact hp
      . exact(aj c z).1
 |rows key bf fs=>
  have aM:=hk;unfold KA at hk;obtain⟨pk,pb,xs,rfl,ae,ax,ay⟩:=hk;simp only[kc] at hn;refine e7 rfl ae rfl (by decide +kernel) ?_;refine e7 rfl ae rfl (by decide +kernel) ?_;refine e7 rfl ae rfl (by decide +kernel) ?_;refine jL rfl ae rfl (by decide +kernel) ?_;exact⟨_,rfl,_,rfl,_,rfl,_,rfl,a,b,ns,n,_,key,bf,fs,room,rfl,g,hT,aM,hW,af,aQ,hn,q⟩
 |tree k=>
  have aM:=hk;unfold KA at hk;obtain⟨pk,u,rfl,ae,bg⟩:=hk;unfold Kd.W at hW;refine e7 rfl ae rfl (by decide +kernel) ?_;refine e7 rfl ae rfl (by decide +kernel) ?_;refine e7 rfl ae rfl (by decide +kernel) ?_;refine e7 rfl ae rfl (by decide +kernel) ?_;refine jL rfl ae rfl (by decide +kernel) ?_;have ev:=GI ns k room n af;rw[ev] at q;simp only[kc,Kd.cB] at hn;have bG:k.cB+1<=(k.cB+1) * gr room:=Q3b _ (uC room).1
  have m1:mu k (room / 2)<=N:=by
   have:mu k (room / 2)<mu (.tree k) room:=uB (by simp only[Kd.dep];omega) (by omega);omega
  refine⟨_,rfl,_,rfl,_,rfl,pk,_,_,_,rfl,rfl,cJ.of ae,rfl,_,rfl,_,_,rfl,rfl,⟨by decide,by decide⟩,a,b,ns,n,u,k,room / 2,(by rw[e2];rfl),g,hT,bg,hW,by omega,m1,by have:=uD k (room / 2);have:k.cB+1<=(k.cB+1) * gr room:=Q3b _ (uC room).1;omega,?_⟩;intro vt Ht aE aN aF aY bj bo aO;have ct:=mz ns k (room / 2) n (by omega);generalize bH:val ns k (room / 2) n=aa at *;refine⟨_,rfl,_,rfl,a,b,ns,aa.2,rfl,dZ.g0 aN g hT aF ct.1,by omega,λH1 s1 h1=>?_⟩;have g1:G0 K H1 a b ns (aa.2+1):=(dZ.g0 aN g hT aF ct.1).go s1 h1 (by omega);have aP:=aY.sb aF s1;have k1:dZ b Pt H H1:=aN.trans (SB.dQ s1);have aI:Own H1 vt aa.1 aE:=bj.dQ (SB.dQ s1) aF aY aK aO;refine⟨_,rfl,_,_,rfl,rfl,_,_,rfl,rfl,by omega,?_⟩;have bp:=Q0k (nx ns (aa.2+1)) (show((room:Int)+1)≠0 by omega);have bq:=Q0l (nx ns (aa.2+1)) (show(0:Int)<(room:Int)+1 by omega);have br:=λm=>GN ns k (room / 2) m (by omega);have a5:=λi=>ua (g:=val ns (.tree k) (room / 2)) (N:=(k.cB+1) * gr (room / 2)) br i (aa.2+1)
  refine⟨_,rfl,_,rfl,_,rfl,by omega,by omega,λi m ys H'=>m=(nx ns (aa.2+1) % ((room:Int)+1)).toNat - i/\i<=(nx ns (aa.2+1) % ((room:Int)+1)).toNat/\ys.length=i/\∃fq,dZ b Pt H1 H'/\H' b=some (.lst [.int (times (val ns (.tree k) (room / 2)) i (aa.2+1)).2])/\dc Pt i4 i5 H'/\
   dj H' ys (times (val ns (.tree k) (room / 2)) i (aa.2+1)).1 fq/\fq.Nodup/\∀c∈fq,H1 c=none,⟨(nx ns (aa.2+1) % ((room:Int)+1)).toNat,rfl,Q0c _,rfl,[],Kp.refl _ _,h1,aP,?_,Q0s,λc hc=>absurd hc (by simp)⟩,?_⟩
  . simp only[times];unfold dj;exact⟨rfl,rfl⟩
  intro i m ys H' zq;obtain⟨rfl,bC,bu,fq,kp,ah,ai,hO,az,aj⟩:=zq;by_cases hi:i<(nx ns (aa.2+1) % ((room:Int)+1)).toNat
  . refine .inr ⟨hi,eE (by omega),λx bw y=>?_⟩;obtain⟨rfl,rfl⟩:=y;refine⟨rfl,yes (fo ?_)⟩;have bx:1<=room:=by omega
    have bI:=a5 i
    have bz:(times (val ns (.tree k) (room / 2)) i (aa.2+1)).2+((k.cB+1) * gr (room / 2):Nat)<=1000000000000:=by
     have a1:=Q39 (k.cB+1) (GL bx af);have a2:(k.cB+1) * (1+room * gr (room / 2))=(k.cB+1)+room * ((k.cB+1) * gr (room / 2)):=by rw[Nat.mul_add,Nat.mul_one,Q33]
     have a3:(i+1) * ((k.cB+1) * gr (room / 2))<=room * ((k.cB+1) * gr (room / 2)):=Q1 _ (by omega);have a4:(i+1) * ((k.cB+1) * gr (room / 2))=i * ((k.cB+1) * gr (room / 2))+(k.cB+1) * gr (room / 2):=Q12 _ _;omega
    have kA:dZ b Pt H bw:=k1.trans kp;refine⟨_,rfl,_,rfl,_,rfl,_,rfl,_,_,rfl,rfl,⟨by decide,by decide⟩,a,b,ns,(times (val ns (.tree k) (room / 2)) i (aa.2+1)).2,.ref pk,.tree k,room / 2,(by rw[e2];rfl),dZ.g0 kA g hT ah (by omega),ai,KA.mono (dZ.tu kA hb hT) _ aM,(by unfold Kd.W;exact hW),by omega,(by simp only[mu] at aQ ⊢;omega),bz,?_⟩;intro v2 H2 fp dQ aA aB av aw ao;have sn:=zC (val ns (.tree k) (room / 2)) i (aa.2+1);refine⟨(nx ns (aa.2+1) % ((room:Int)+1)).toNat - (i+1),by omega,rfl,hi,by rw[Q0d,bu];rfl,fq++fp,kp.trans dQ,by rw[sn];exact aA,aB,?_,?_,?_⟩
    . rw[sn];exact dj.snoc av _ (dj.dQ hO dQ ah ai ⟨_,h1⟩ aj)
    . refine List.nodup_append.mpr ⟨az,aw,λc hc d hd=>?_⟩;intro e;subst e;obtain⟨o,eo⟩:=(dj.alive _ hO c hc).ex;rw[ao c hd] at eo;cases eo
    . intro c hc;rcases List.mem_append.mp hc with z|z
      . exact aj c z
      . exact dZ.fresh kp ah ai (ao c z)
  . have ei:i=(nx ns (aa.2+1) % ((room:Int)+1)).toNat:=by omega
    subst ei;refine .inl ⟨Q0 _,λpl aG=>⟨gx,λt ht=>?_⟩⟩;have sl:Same H' (upd H' pl (.lst ys)):=Same.new aG;have st:Same (upd H' pl (.lst ys)) (upd (upd H' pl (.lst ys)) t (.tup [vt,.ref pl])):=Same.new ht;have sa:=sl.trans st;have aJ:Own H' vt aa.1 aE:=aI.dQ kp h1 aP aK aO;have kA:dZ b Pt H H':=k1.trans kp;refine q (.ref t) _ (aE++(pl::fq)) (kA.trans (Kp.of sa)) (sa _ _ ah) (ai.same sa) ?_ ?_ ?_
    . unfold Own;refine⟨t,_,rfl,cV,?_⟩;unfold dj;refine⟨vt,[.ref pl],aE,pl::fq,rfl,rfl,Own.same sa aJ,?_⟩;unfold dj;refine⟨.ref pl,[],pl::fq,[],rfl,by simp,?_,by unfold dj;exact⟨rfl,rfl⟩⟩;unfold Own;exact⟨pl,ys,fq,rfl,st _ _ cV,rfl,dj.same sa hO⟩
    . refine List.nodup_append.mpr ⟨bo,List.nodup_cons.mpr ⟨λhm=>?_,az⟩,λc hc d hd=>?_⟩
      . obtain⟨o,eo⟩:=(dj.alive _ hO pl hm).ex;rw[aG] at eo;cases eo
      . intro e;subst e;rcases List.mem_cons.mp hd with z|z
        . obtain⟨o,eo⟩:=(Own.alive _ aJ c hc).ex;rw[z,aG] at eo;cases eo
        . obtain⟨o,eo⟩:=(Own.alive _ aI c hc).ex;rw[aj c z] at eo;cases eo
    . intro c hc;rcases List.mem_append.mp hc with z|z
      . exact aO c z
      . rcases List.mem_cons.mp z with y|y
        . rw[y];exact dZ.fresh kA ah ai aG
        . exact dZ.fresh k1 h1 aP (aj c y)
 |e8 fs=>
  unfold KA at hk;obtain⟨pk,pb,xs,rfl,ae,ax,ay⟩:=hk;unfold Kd.W at hW;obtain⟨aR,a7,bJ,aL⟩:=hW;refine e7 rfl ae rfl (by decide +kernel) ?_;refine e7 rfl ae rfl (by decide +kernel) ?_;refine e7 rfl ae rfl (by decide +kernel) ?_;refine e7 rfl ae rfl (by decide +kernel) ?_;refine e7 rfl ae rfl (by decide +kernel) ?_;simp only[kc,Kd.cB] at hn;refine⟨_,rfl,pk,_,_,_,rfl,rfl,cJ.of ae,rfl,_,rfl,_,rfl,a,b,ns,n,rfl,g,by omega,λH1 s1 h1=>?_⟩;have aC:=s1.tu hb;have aZ:(xs.length:Int)=(fs.names.length:Int):=by rw[FA.len fs ay]
  have bp:=Q0k (nx ns (n+1)) (show((fs.names.length:Int))≠0 by omega);have bq:=Q0l (nx ns (n+1)) (show(0:Int)<(fs.names.length:Int) by omega);obtain⟨nm,k,ak⟩:=Fs.yy (fs:=fs) (i:=(nx ns (n+1) % (fs.names.length:Int)).toNat) (by omega);obtain⟨c,u,bA,hc,hk⟩:=FA.at ay ak
  have bB:fS xs (nx ns (n+1) % ((xs.length:Nat):Int))=some (.ref c):=by
   have e:nx ns (n+1) % ((xs.length:Nat):Int)=(((nx ns (n+1) % (fs.names.length:Int)).toNat:Nat):Int):=by rw[aZ];omega
   rw[e];exact fe bA
  refine⟨_,rfl,pk,_,_,_,rfl,rfl,cJ.of (aC _ _ ae),rfl,pb,_,rfl,.inr (cJ.of (aC _ _ ax)),_,_,rfl,rfl,by rw[aZ];omega,pb,_,_,_,rfl,rfl,cJ.of (aC _ _ ax),bB,?_⟩;refine⟨c,_,rfl,cJ.of (aC _ _ hc),rfl,_,_,rfl,_,_,rfl,rfl,?_⟩
  have ev:val ns (.e8 fs) room n=(pairD (.str nm) (val ns k room (n+1)).1,(val ns k room (n+1)).2):=by
   show fZ ns fs (nx ns (n+1) % (fs.names.length:Int)).toNat room (n+1)=_;exact zD ns fs _ room (n+1) nm k ak
  rw[ev] at q;have cb:=Fs.zE ak;refine⟨_,rfl,_,rfl,_,rfl,_,rfl,_,rfl,a,b,ns,n+1,u,k,room,rfl,g.go s1 h1 (by omega),hT.sb hb s1,KA.mono aC k hk,Fs.pd aL ak,af,?_,by have:=uD k room;omega,?_⟩
  . have:mu k room<mu (.e8 fs) room:=uB (by have:=Fs.jN ak;simp only[Kd.dep];omega) af;omega
  intro v2 H2 fp dQ aA aB av aw ao;have a6:dZ b Pt H H2:=(SB.dQ s1).trans dQ;refine⟨gx,λt ht=>?_⟩;have st:Same H2 (upd H2 t (.tup [.str nm,v2])):=Same.new ht;refine q (.ref t) _ fp (a6.trans (Kp.of st)) (st _ _ aA) (aB.same st) ?_ aw λc hc=>dZ.fresh (SB.dQ s1) h1 (hT.sb hb s1) (ao c hc);unfold Own;refine⟨t,_,rfl,cV,?_⟩;unfold dj;refine⟨.str nm,[v2],[],fp,rfl,rfl,by unfold Own;exact⟨rfl,rfl⟩,?_⟩;unfold dj;exact⟨v2,[],fp,[],rfl,by simp,Own.same st av,by unfold dj;exact⟨rfl,rfl⟩⟩
theorem zW(T:Tb mg)(Z:cW es K mg)(aa:W.CodeHd base (codeN "_law_rows") Pt)(ab:BM mg base):∀N:Nat,Ok P w K mg base cH "_law_value" XG (2 * N+5) (nO K Pt N)
 |0=>GW T Z
 |N+1=>by
  have ih:=zW T Z aa ab N;have Nx:=pG (P:=P) (w:=w) (base:=base) T Z;have R:=GU N T Z aa ab Nx (GQ T Z) ih;exact GX N T Z ih R Nx (GA T Z Nx) (GB T Z Nx)
inductive dm:Kd->D->Prop
 |c8 {fs:Fs} {m:Ds} (hl:m.names.length=fs.names.length) (hp:∀x k,fs.get x=some k->∃e,m.get x=some e) (h:∀x k e,fs.get x=some k->m.get x=some e->dm k e):dm (.c8 fs) (.dct m)
 |oth {k:Kd} {d:D} (h:jR k d):dm k d
def lC (fs:Fs) (m:Ds):Prop:=m.names.length=fs.names.length/\∀x k,fs.get x=some k->∃e,m.get x=some e/\dm k e
theorem dm.of(h:d8 k d):dm k d:=.oth (jR.of h)
theorem kG.r(h:kG fs m):lC fs m:=⟨h.1,λx k g=>let⟨e,h1,h2⟩:=h.2 x k g;⟨e,h1,.of h2⟩⟩
theorem lC.n(h:lC fs m):dm (.c8 fs) (.dct m):=.c8 h.1 (λx k g=>let⟨e,h1,_⟩:=h.2 x k g;⟨e,h1⟩) λx k e g he=>by
 obtain⟨e',h1,h2⟩:=h.2 x k g;rw[he] at h1
 cases h1;exact h2
theorem dm.r(h:dm (.c8 fs) d):∃m,d=.dct m/\lC fs m:=by
 cases h with
 |c8 hl hp h=>exact⟨_,rfl,hl,λx k g=>let⟨e,he⟩:=hp x k g;⟨e,he,h x k e g he⟩⟩
 |oth h=>
  obtain⟨m,e,h'⟩:=(show ∃m,d=.dct m/\kG fs m from h);exact⟨m,e,h'.r⟩
theorem dm.l(h:dm k d)(hn:∀fs,k≠ .c8 fs):jR k d:=by
 cases h with
 |c8 _ _ _=>exact absurd rfl (hn _)
 |oth h=>exact h
noncomputable def js {α:Type}(nm:α->Str) (a:α):List α->List α
 |[]=>[a]
 |b::r=>if eA (eS (nm b)) (eS (nm a)) then b::js nm a r else a::b::r
theorem uJ {α:Type}(nm:α->Str)(a:α):∀l:List α,(js nm a l).Perm (a::l)
 |[]=>.refl _
 |b::r=>by
  unfold js;split
  . exact((uJ nm a r).cons b).trans (List.Perm.swap a b r)
  . exact .refl _
theorem zX {α β:Type}{nm:α->Str}{nm':β->Str}{g:α->β}(h:∀a,nm' (g a)=nm a)(a:α):∀l:List α,(js nm a l).map g=js nm' (g a) (l.map g)
 |[]=>rfl
 |b::r=>by
  show(if _ then _ else _:List α).map g=(if eA (eS (nm' (g b))) (eS (nm' (g a))) then g b::js nm' (g a) (r.map g) else g a::g b::r.map g);rw[h,h];split
  . rw[Q0m,zX h a r]
  . rfl
theorem zY (x:Str):∀{l:List Str},l.Pairwise sle->(js id x l).Pairwise sle
 |[],_=>Q2 _ _
 |b::r,h=>by
  obtain⟨h1,h2⟩:=List.pairwise_cons.mp h;unfold js;split
  . rename_i e;refine .cons (λz hz=>?_) (zY x h2);rcases List.mem_cons.mp ((uJ id x r).mem_iff.mp hz) with q|q
    . rw[q];exact yP e
    . exact h1 z q
  . rename_i e
    have hx:sle x b:=by
     unfold sle iS;exact Bool.eq_false_iff.mpr e
    refine .cons (λz hz=>?_) h;rcases List.mem_cons.mp hz with q|q
    . rw[q];exact hx
    . exact yQ hx (h1 z q)
noncomputable def gE {α:Type}(nm:α->Str):List α->List α
 |[]=>[]
 |a::r=>js nm a (gE nm r)
theorem kH {α:Type}(nm:α->Str):∀l:List α,(gE nm l).Perm l
 |[]=>.refl _
 |a::r=>(uJ nm a _).trans ((kH nm r).cons a)
theorem uK {α β:Type}{nm:α->Str}{nm':β->Str}{g:α->β}(h:∀a,nm' (g a)=nm a):∀l:List α,(gE nm l).map g=gE nm' (l.map g)
 |[]=>rfl
 |a::r=>by
  show(js nm a (gE nm r)).map g=js nm' (g a) (gE nm' (r.map g));rw[zX h,uK h r]
theorem zZ:∀l:List Str,(gE id l).Pairwise sle
 |[]=>List.Pairwise.nil
 |a::r=>zY a (zZ r)
noncomputable abbrev NK:=Str × Kd
noncomputable def Fs.toL:Fs->List NK
 | .nil=>[]
 | .cons x k r=>(x,k)::r.toL
noncomputable def Fs.fT:List NK->Fs
 |[]=>.nil
 |p::r=>.cons p.1 p.2 (Fs.fT r)
theorem pJ:∀l:List NK,(Fs.fT l).toL=l
 |[]=>rfl
 |p::r=>by show(p.1,p.2)::(Fs.fT r).toL=p::r;rw[pJ r]
theorem pK:∀fs:Fs,Fs.fT fs.toL=fs
 | .nil=>rfl
 | .cons x k r=>by show Fs.cons x k (Fs.fT r.toL)=_;rw[pK r]
theorem mD:∀fs:Fs,fs.toL.map (·.1)=fs.names
 | .nil=>rfl
 | .cons x k r=>by show x::r.toL.map (·.1)=x::r.names;rw[mD r]
theorem uL (l:List NK):(Fs.fT l).names=l.map (·.1):=by rw[<-mD,pJ]
noncomputable def cZ (l:List NK) (x:Str):Option Kd:=(l.find? λp=>decide (p.1=x)).map (·.2)
theorem lD {p:NK}:cZ (p::l) x=if p.1=x then some p.2 else cZ l x:=by
 unfold cZ;rw[Q1b];by_cases e:p.1=x
 . rw[if_pos e];simp[e]
 . rw[if_neg e];simp[e]
theorem nQ(h:cZ l x=some k):(x,k)∈l:=by
 induction l with
 |nil=>cases h
 |cons p r ih=>
  rw[lD] at h;by_cases e:p.1=x
  . rw[if_pos e] at h;cases h;rw[<-e];exact Q04
  . rw[if_neg e] at h;exact Q09 _ (ih h)
theorem mE:cZ l x=none↔x ∉ l.map (·.1):=by
 induction l with
 |nil=>exact⟨λ_ z=>(nomatch z),λ_=>rfl⟩
 |cons p r ih=>
  rw[lD,Q0m,Q1i];by_cases e:p.1=x
  . rw[if_pos e];exact⟨λz=>(nomatch z),λz=>absurd (Or.inl e.symm) z⟩
  . rw[if_neg e,ih];exact⟨λz q=>q.elim (λq=>e q.symm) z,λz q=>z (.inr q)⟩
theorem i6(h:x∈l.map (·.1)):∃k,cZ l x=some k:=by
 cases e:cZ l x with
 |some k=>exact⟨k,rfl⟩
 |none=>exact absurd h (mE.mp e)
theorem rg:(cZ l x).isSome=decide (x∈l.map (·.1)):=by
 cases e:cZ l x with
 |some k=>exact(decide_eq_true (List.mem_map.mpr ⟨_,nQ e,rfl⟩)).symm
 |none=>exact(decide_eq_false (mE.mp e)).symm
noncomputable def dW (ss:List Str) (l:List NK):List NK:=l.filter λp=>decide (p.1∈ss)
noncomputable def bt (ss:List Str) (l:List NK):List NK:=l.filter λp=>decide (p.1 ∉ ss)
noncomputable def cR (l:List NK):List Str:=l.map (·.1)
theorem fN (ss:List Str)(l:List NK):(dW ss l).Sublist l:=Q3c
theorem eF (ss:List Str)(l:List NK):(bt ss l).Sublist l:=Q3c
theorem f7:x∈cR (bt ss l)↔x∈cR l/\x ∉ ss:=by
 unfold cR bt;simp only[List.mem_map,Q1s,decide_eq_true_eq];constructor
 . rintro⟨p,⟨h1,h2⟩,rfl⟩;exact⟨⟨p,h1,rfl⟩,h2⟩
 . rintro⟨⟨p,h1,rfl⟩,h2⟩;exact⟨p,⟨h1,h2⟩,rfl⟩
theorem lE:x∈cR (dW ss l)↔x∈cR l/\x∈ss:=by
 unfold cR dW;simp only[List.mem_map,Q1s,decide_eq_true_eq];constructor
 . rintro⟨p,⟨h1,h2⟩,rfl⟩;exact⟨⟨p,h1,rfl⟩,h2⟩
 . rintro⟨⟨p,h1,rfl⟩,h2⟩;exact⟨p,⟨h1,h2⟩,rfl⟩
mutual
inductive Vw where
 |vw
 |tk (ss:List Str)
 |rn (o n:Str)
 |ne (ss:List Str) (y:Str)
 |un (f:Str)
 |wi (f:Str) (v:Vw)
 |aT (n:Str)
 |ch (vs:Vs)
inductive Vs where
 |nil
 |cons (v:Vw) (r:Vs)
end
noncomputable abbrev Res:=List Key ⊕ Kd
noncomputable def du:Kd->Option (List NK)
 | .c8 fs=>some fs.toL
 |_=>none
noncomputable def once (ss:List Str) (l:List NK):Bool:=decide ss.Nodup && ss.all λx=>(cZ l x).isSome
noncomputable def dP (l:List NK):Kd:=.c8 (Fs.fT (gE (·.1) l))
mutual
noncomputable def bh:Vw->Kd->Res
 | .vw,k=>.inr k
 | .tk ss,k=>match du k with
   |some l=>if once ss l=true then .inr (dP (dW ss l)) else .inl []
   |none=>.inl []
 | .rn o n,k=>match du k with
   |some l=>match cZ l o with
    |some q=>if(cZ l n).isSome=true then .inl [] else .inr (dP (bt [o] l++[(n,q)]))
    |none=>.inl []
   |none=>.inl []
 | .ne ss y,k=>match du k with
   |some l=>if once ss l=true then(if(cZ (bt ss l) y).isSome=true then .inl [] else .inr (dP (bt ss l++[(y,dP (dW ss l))]))) else .inl []
   |none=>.inl []
 | .un f,k=>match du k with
   |some l=>match(cZ l f).bind du with
    |some g=>if(dW (cR g) (bt [f] l)).length=0 then .inr (dP (bt [f] l++g)) else .inl []
    |none=>.inl []
   |none=>.inl []
 | .wi f v,k=>match du k with
   |some l=>match cZ l f with
    |some q=>match bh v q with
     | .inl w=>.inl (.inr f::w)
     | .inr s=>.inr (dP (bt [f] l++[(f,s)]))
    |none=>.inl []
   |none=>.inl []
 | .aT n,k=>match du k with
   |some l=>match cZ l n with
    |some q=>.inr q
    |none=>.inl []
   |none=>.inl []
 | .ch vs,k=>fh vs 0 k
noncomputable def fh:Vs->Nat->Kd->Res
 | .nil,_,k=>.inr k
 | .cons v r,i,k=>match bh v k with
   | .inl w=>.inl (.inl i::w)
   | .inr k'=>fh r (i+1) k'
end
noncomputable def dh (f:NK->Nat):List NK->Nat
 |[]=>0
 |p::r=>f p+dh f r
theorem z0(h:a.Perm b):dh f a=dh f b:=by
 induction h with
 |nil=>rfl
 |cons x _ ih=>show _+_=_+_;rw[ih]
 |swap x y l=>show _+(_+_)=_+(_+_);omega
 |trans _ _ i1 i2=>exact i1.trans i2
theorem rh(h:a.Sublist b):dh f a<=dh f b:=by
 induction h with
 |slnil=>exact Q0 _
 |cons x _ ih=>show _<=_+_;omega
 |cons_cons x _ ih=>show _+_<=_+_;omega
theorem kI:∀(a b:List NK),dh f (a++b)=dh f a+dh f b
 |[],b=>by show dh f b=0+dh f b;omega
 |p::r,b=>by show f p+dh f (r++b)=f p+dh f r+dh f b;rw[kI r b];omega
theorem gy(h:cZ l x=some k):dh f (bt [x] l)+f (x,k)<=dh f l:=by
 induction l with
 |nil=>cases h
 |cons p r ih=>
  rw[lD] at h;by_cases e:p.1=x
  . rw[if_pos e] at h
    cases h;have:(bt [x] (p::r))=bt [x] r:=by unfold bt;rw[Q0u,if_neg (by simp[e])]
    rw[this];have:=rh (f:=f) (eF [x] r);subst e;show _<=f p+dh f r;have e2:f (p.1,p.2)=f p:=rfl;omega
  . rw[if_neg e] at h;have:(bt [x] (p::r))=p::bt [x] r:=by unfold bt;rw[Q0u,if_pos (by simp[e])]
    rw[this];have:=ih h;show f p+dh f (bt [x] r)+f (x,k)<=f p+dh f r;omega
theorem uM(ss:List Str):∀l:List NK,dh f (dW ss l)+dh f (bt ss l)=dh f l
 |[]=>rfl
 |p::r=>by
  have ih:=uM (f:=f) ss r;unfold dW bt at ih ⊢;by_cases e:p.1∈ss
  . rw[Q0u,if_pos (by simp[e]),Q0u,if_neg (by simp[e])];show f p+_+_=f p+_;omega
  . rw[Q0u,if_neg (by simp[e]),Q0u,if_pos (by simp[e])];show _+(f p+_)=f p+_;omega
noncomputable abbrev dA:NK->Nat:=λp=>p.2.sz
noncomputable abbrev e9:NK->Nat:=λp=>wt p.1+p.2.bc
theorem pL:∀fs:Fs,dh dA fs.toL=fs.sz
 | .nil=>by unfold Fs.sz;rfl
 | .cons x k r=>by unfold Fs.sz;show k.sz+dh dA r.toL=_;rw[pL r]
theorem uN:∀fs:Fs,dh e9 fs.toL=fs.bc
 | .nil=>by unfold Fs.bc;rfl
 | .cons x k r=>by unfold Fs.bc;show wt x+k.bc+dh e9 r.toL=_;rw[uN r]
theorem jt:∀l:List NK,l.length<=dh dA l
 |[]=>Q0 _
 |p::r=>by have:=jt r;have:=p.2.Gu;show r.length+1<=p.2.sz+dh dA r;omega
theorem mF (l:List NK):(dP l).sz=max 1 (dh dA l):=by
 unfold dP Kd.sz;rw[<-pL,pJ,z0 (kH _ l)]
theorem nR (l:List NK):(dP l).bc=dh e9 l:=by
 unfold dP Kd.bc;rw[<-uN,pJ];exact z0 (kH _ l)
def LO (l:List NK):Prop:=(cR l).Nodup/\∀p∈l,p.2.O
theorem uO:∀{l:List NK},(Fs.fT l).O↔∀p∈l,p.2.O
 |[]=>⟨λ_ p h=>(nomatch h),λ_=>by show Fs.O .nil;unfold Fs.O;trivial⟩
 |p::r=>by
  show Fs.O (.cons p.1 p.2 (Fs.fT r))↔_;unfold Fs.O;rw[uO (l:=r)];constructor
  . rintro⟨h1,h3⟩ q hq;rcases List.mem_cons.mp hq with rfl|z
    . exact h1
    . exact h3 q z
  . intro h;exact⟨h p Q04,λq hq=>h q (Q09 _ hq)⟩
theorem mG(h:LO l):(dP l).O:=by
 have pm:=kH (λp:NK=>p.1) l;unfold dP Kd.O;exact⟨by rw[uL];exact(pm.map _).nodup_iff.mpr h.1,uO.mpr λp hp=>h.2 p (pm.mem_iff.mp hp)⟩
theorem dD(h:du k=some l)(hO:k.O):LO l/\k.sz=max 1 (dh dA l)/\k.bc=dh e9 l:=by
 cases k with
 |c8 fs=>
  cases h;unfold Kd.O at hO;refine⟨⟨by unfold cR;rw[mD];exact hO.1,?_⟩,by unfold Kd.sz;rw[pL],by unfold Kd.bc;rw[uN]⟩;have:=hO.2;rw[<-pK fs] at this;exact uO.mp this
 |_=>cases h
theorem LO.sub(h:LO b)(s:a.Sublist b):LO a:=⟨h.1.sublist (s.map _),λp hp=>h.2 p (s.subset hp)⟩
theorem LO.app(ha:LO a)(hb:LO b)(d:∀x∈cR b,x ∉ cR a):LO (a++b):=by
 refine⟨?_,λp hp=>(List.mem_append.mp hp).elim (ha.2 p) (hb.2 p)⟩;unfold cR;rw[Q0h];exact List.nodup_append.mpr ⟨ha.1,hb.1,λx hx y hy e=>d y hy (e ▸ hx)⟩
theorem LO.one(hk:k.O):LO [(x,k)]:=⟨List.nodup_cons.mpr ⟨λz=>(nomatch z),Q0s⟩,λp hp=>by rw[List.mem_singleton.mp hp];exact hk⟩
theorem LO.get(h:LO l)(e:cZ l x=some k):k.O:=h.2 _ (nQ e)
mutual
noncomputable def Vw.nn:Vw->Nat
 | .vw=>0
 | .tk _=>0
 | .wi _ v=>v.nn
 | .ch vs=>vs.nn
 |_=>1
noncomputable def Vs.nn:Vs->Nat
 | .nil=>0
 | .cons v r=>v.nn+r.nn
end
theorem kJ(h:bh (.tk ss) k=.inr k'):∃l,du k=some l/\once ss l=true/\k'=dP (dW ss l):=by
 unfold bh at h;split at h
 . rename_i l e;split at h
   . rename_i ho;cases h;exact⟨l,e,ho,rfl⟩
   . cases h
 . cases h
theorem kK(h:bh (.rn o n) k=.inr k'):∃l q,du k=some l/\cZ l o=some q/\n ∉ cR l/\k'=dP (bt [o] l++[(n,q)]):=by
 unfold bh at h;split at h
 . rename_i l e;split at h
   . rename_i q eq;split at h
     . cases h
     . rename_i hs;cases h;exact⟨l,q,e,eq,λz=>hs (by rw[rg];exact decide_eq_true z),rfl⟩
   . cases h
 . cases h
theorem kL(h:bh (.ne ss y) k=.inr k'):∃l,du k=some l/\once ss l=true/\y ∉ cR (bt ss l)/\k'=dP (bt ss l++[(y,dP (dW ss l))]):=by
 unfold bh at h;split at h
 . rename_i l e;split at h
   . rename_i ho;split at h
     . cases h
     . rename_i hs;cases h;exact⟨l,e,ho,λz=>hs (by rw[rg];exact decide_eq_true z),rfl⟩
   . cases h
 . cases h
theorem kM(h:bh (.un f) k=.inr k'):∃l q g,du k=some l/\cZ l f=some q/\du q=some g/\(∀x∈cR g,x ∉ cR (bt [f] l))/\k'=dP (bt [f] l++g):=by
 unfold bh at h;split at h
 . rename_i l e;split at h
   . rename_i g eg;split at h
     . rename_i hz
       cases h;obtain⟨q,eq,er⟩:=Option.bind_eq_some_iff.mp eg;refine⟨l,q,g,e,eq,er,λx hx z=>?_,rfl⟩;have:=lE.mpr ⟨z,hx⟩;rw[Q3d hz] at this;exact(nomatch this)
     . cases h
   . cases h
 . cases h
theorem kN(h:bh (.wi f v) k=.inr k'):∃l q s,du k=some l/\cZ l f=some q/\bh v q=.inr s/\k'=dP (bt [f] l++[(f,s)]):=by
 unfold bh at h;split at h
 . rename_i l e;split at h
   . rename_i q eq;split at h
     . cases h
     . rename_i s es;cases h;exact⟨l,q,s,e,eq,es,rfl⟩
   . cases h
 . cases h
theorem lF(h:bh (.aT f) k=.inr k'):∃l,du k=some l/\cZ l f=some k':=by
 unfold bh at h;split at h
 . rename_i l e;split at h
   . rename_i q eq;cases h;exact⟨l,e,eq⟩
   . cases h
 . cases h
theorem i7(h:fh (.cons v r) i k=.inr k'):∃k1,bh v k=.inr k1/\fh r (i+1) k1=.inr k':=by
 unfold fh at h;split at h
 . cases h
 . rename_i k1 e1;exact⟨k1,e1,h⟩
theorem jS(h:bh (.ch vs) k=.inr k'):fh vs 0 k=.inr k':=by unfold bh at h;exact h
theorem kP:f ∉ cR (bt [f] l):=λz=>(f7.mp z).2 Q04
mutual
theorem gK:∀(v:Vw) (k k':Kd),k.O->bh v k=.inr k'->k'.O/\k'.sz<=k.sz+v.nn/\k'.bc<=k.bc+v.nn
 | .vw,k,k',hO,h=>by
   unfold bh at h
   cases h;exact⟨hO,Q11 _ _,Q11 _ _⟩
 | .tk ss,k,k',hO,h=>by
   obtain⟨l,e,_,rfl⟩:=kJ h;obtain⟨h1,h2,h3⟩:=dD e hO;refine⟨mG (h1.sub (fN _ _)),?_,?_⟩
   . rw[mF];have:=rh (f:=dA) (fN ss l);omega
   . rw[nR];have:=rh (f:=e9) (fN ss l);omega
 | .rn o n,k,k',hO,h=>by
   obtain⟨l,q,e,eq,aa,rfl⟩:=kK h;obtain⟨h1,h2,h3⟩:=dD e hO;have a1:=gy (f:=dA) eq;have a2:=gy (f:=e9) eq;have a3:=yU n;refine⟨mG ((h1.sub (eF _ _)).app (.one (h1.get eq)) λx hx z=>?_),?_,?_⟩
   . rw[List.mem_singleton.mp hx] at z;exact aa (f7.mp z).1
   . rw[mF];show max 1 (dh dA _)<=_;rw[kI];show max 1 (dh dA _+(q.sz+0))<=_+1;have a1:dh dA (bt [o] l)+q.sz<=dh dA l:=a1;omega
   . rw[nR];show dh e9 _<=_;rw[kI];show dh e9 _+(wt n+q.bc+0)<=_+1;have a2:dh e9 (bt [o] l)+(wt o+q.bc)<=dh e9 l:=a2;omega
 | .ne ss y,k,k',hO,h=>by
   obtain⟨l,e,_,aa,rfl⟩:=kL h;obtain⟨h1,h2,h3⟩:=dD e hO;have a1:=uM (f:=dA) ss l;have a2:=uM (f:=e9) ss l;have a3:=yU y;refine⟨mG ((h1.sub (eF _ _)).app (.one (mG (h1.sub (fN _ _)))) λx hx z=>?_),?_,?_⟩
   . rw[List.mem_singleton.mp hx] at z;exact aa z
   . rw[mF];show max 1 (dh dA _)<=_;rw[kI];show max 1 (dh dA _+((dP (dW ss l)).sz+0))<=_+1;rw[mF];omega
   . rw[nR];show dh e9 _<=_;rw[kI];show dh e9 _+(wt y+(dP (dW ss l)).bc+0)<=_+1;rw[nR];omega
 | .un f,k,k',hO,h=>by
   obtain⟨l,q,g,e,eq,er,hd,rfl⟩:=kM h;obtain⟨h1,h2,h3⟩:=dD e hO;obtain⟨g1,g2,g3⟩:=dD er (h1.get eq);have a1:dh dA (bt [f] l)+q.sz<=dh dA l:=gy (f:=dA) eq;have a2:dh e9 (bt [f] l)+(wt f+q.bc)<=dh e9 l:=gy (f:=e9) eq;refine⟨mG ((h1.sub (eF _ _)).app g1 hd),?_,?_⟩
   . rw[mF];show max 1 (dh dA _)<=_;rw[kI];omega
   . rw[nR];show dh e9 _<=_;rw[kI];omega
 | .wi f v,k,k',hO,h=>by
   obtain⟨l,q,s,e,eq,es,rfl⟩:=kN h;obtain⟨h1,h2,h3⟩:=dD e hO;obtain⟨i1,i2,i3⟩:=gK v q s (h1.get eq) es;have a1:dh dA (bt [f] l)+q.sz<=dh dA l:=gy (f:=dA) eq;have a2:dh e9 (bt [f] l)+(wt f+q.bc)<=dh e9 l:=gy (f:=e9) eq;refine⟨mG ((h1.sub (eF _ _)).app (.one i1) λx hx z=>?_),?_,?_⟩
   . rw[List.mem_singleton.mp hx] at z;exact kP z
   . rw[mF];show max 1 (dh dA _)<=_;rw[kI];show max 1 (dh dA _+(s.sz+0))<=_;unfold Vw.nn;omega
   . rw[nR];show dh e9 _<=_;rw[kI];show dh e9 _+(wt f+s.bc+0)<=_;unfold Vw.nn;omega
 | .aT n,k,k',hO,h=>by
   obtain⟨l,e,eq⟩:=lF h;obtain⟨h1,h2,h3⟩:=dD e hO;have a1:dh dA (bt [n] l)+k'.sz<=dh dA l:=gy (f:=dA) eq;have a2:dh e9 (bt [n] l)+(wt n+k'.bc)<=dh e9 l:=gy (f:=e9) eq;exact⟨h1.get eq,by omega,by omega⟩
 | .ch vs,k,k',hO,h=>by
   unfold Vw.nn;exact uP vs 0 k k' hO (jS h)
theorem uP:∀(vs:Vs) (i:Nat) (k k':Kd),k.O->fh vs i k=.inr k'->k'.O/\k'.sz<=k.sz+vs.nn/\k'.bc<=k.bc+vs.nn
 | .nil,_,k,k',hO,h=>by
   unfold fh at h
   cases h;exact⟨hO,Q11 _ _,Q11 _ _⟩
 | .cons v r,i,k,k',hO,h=>by
   obtain⟨k1,e1,h⟩:=i7 h;obtain⟨a1,a2,a3⟩:=gK v k k1 hO e1;obtain⟨b1,b2,b3⟩:=uP r (i+1) k1 k' a1 h;exact⟨b1,by unfold Vs.nn;omega,by unfold Vs.nn;omega⟩
end
mutual
theorem Kd.nS:∀{k:Kd},k.O->k.sz<=60->k.W
 | .c8 fs,h,hs=>by
   unfold Kd.O at h;unfold Kd.sz at hs;unfold Kd.W;have h1:=jt fs.toL;rw[pL] at h1;have h2:fs.names.length=fs.toL.length:=by rw[<-mD,Q01]
   exact⟨h.1,by omega,Fs.nS h.2 (by omega)⟩
 | .num,h,_=>by unfold Kd.O at h;exact h
 | .eu,h,_=>by unfold Kd.O at h;exact h
 | .rows _ _ _,h,_=>by unfold Kd.O at h;exact h
 | .tree _,h,_=>by unfold Kd.O at h;exact h
 | .e8 _,h,_=>by unfold Kd.O at h;exact h
theorem Fs.nS:∀{fs:Fs},fs.O->fs.sz<=60->fs.W
 | .nil,_,_=>by unfold Fs.W;trivial
 | .cons _ k r,h,hs=>by unfold Fs.O at h;unfold Fs.sz at hs;unfold Fs.W;exact⟨Kd.nS h.1 (by omega),Fs.nS h.2 (by omega)⟩
end
end Pb
namespace L2
open Spec PyProof.Rows
section
variable {prog:Program}{w:World}{A:Around}{E:Value->Shared->Prop}{hp:Heap}{g:Array GenState}{dr:Drawn}{tk:Nat}{os:OsState}{C fI:Addr}{J7:List Value}{B nid J8:String}
end
end L2
namespace L2
open Spec Calls PyProof.Rows W Builtin Builtin.ObjectAttr
section
variable {prog:Program}{w:World}{A:Around}{E:Value->Shared->Prop}{s:Shared}{K:Frag}{x C:Addr}{ox:Obj}{name:Str}{v:Value}
end
end L2
namespace L2
open Spec Calls PyProof.Rows W Builtin Builtin.ObjectAttr Builtin.Getset_descriptor
section
variable {prog:Program}{w:World}{A:Around}{E:Value->Shared->Prop}{K:Frag}{h:Heap}{g:Array GenState}{d:Drawn}{t:Nat}{os:OsState}{a C dx:Addr}{o:Obj}{vs:Array Value}{mA:Str->Option Value}{name:Str}{v:Value}
end
end L2
namespace L2
open Spec PyProof.Rows
section
variable {M:Model}{A:Around}{E:Value->Shared->Prop}{s:Shared}
structure lG (h:Heap) (e T:Addr) (cls:Value) (dd:Option Addr) (fl:Value):Prop where
 ex:∃oe vs,h.get? e=some oe/\oe.cls=cls/\oe.dict=dd/\oe.data=.fields vs/\vs[1]? =some (.ref T)
 tb:∃oT ts,h.get? T=some oT/\oT.data=.fields ts/\ts[3]? =some fl
 ne:T≠e
theorem z6(t:lG s.heap e T cls dd fl)(h:∀h',lG h' e T cls dd .none->(∀b o,b≠T->s.heap.get? b=some o->h'.get? b=some o)->(∃o',h'.get? T=some o')->Q () { s with heap:=h' }):wpAny M A (setFlight (.ref e) none) Q E s:=by
 obtain⟨⟨oe,vs,he,hc,ab,hd,h1⟩,⟨oT,ts,hT,aa,h3⟩,ne⟩:=t;have em:Obj.mapFields (·.setIfInBounds 3 ((none:Option Addr).elim Value.none λf=>rawInt f)) oT={ oT with data:=.fields (ts.setIfInBounds 3 .none) }:=tP aa;have hsz:=(Array.getElem?_eq_some_iff.mp h3).1;unfold setFlight;refine Q00 (wpAny_field he hd h1 ?_);rw[if_pos (show(Value.ref T != Value.none)=true by simp)];have self:=Q1x (Obj.mapFields (·.setIfInBounds 3 ((none:Option Addr).elim Value.none λf=>rawInt f))) hT (by rw[em];exact Obj.isFreed_of_fields rfl);rw[em] at self
 have oth:∀b o,b≠T->s.heap.get? b=some o->(s.heap.update T (Obj.mapFields (·.setIfInBounds 3 ((none:Option Addr).elim Value.none λf=>rawInt f)))).get? b=some o:=λb o hb ho=>by
  rw[Q1a _ _ (Ne.symm hb)];exact ho
 exact wpAny_setField hT aa hsz (h _ ⟨⟨oe,vs,oth e oe (Ne.symm ne) he,hc,ab,hd,h1⟩,⟨_,_,self,rfl,by simp[hsz]⟩,ne⟩ oth ⟨_,self⟩)
theorem GY{env:Env}(ag:A.frames=some (env::outer))(hl:s.heap.FunFrames base (env::outer))(hf:env.frame=some L)(t:lG s.heap e T cls dd .none)
 (h:∀(h':Heap) (T':Addr),s.heap.objs.size<=T'->(∀b o,b ∉ frs (env::outer)->b≠e->b≠T->s.heap.get? b=some o->h'.get? b=some o)->(∀b o,b≠e->b≠T->s.heap.get? b=some o->∃sl,h'.get? b=some { o with slots:=sl })->(∃o,h'.get? T=some o)->lG h' e T' cls dd (rawInt L)->Q () { s with heap:=h' }):
 wpAny M A (noteFrame (.ref e) env) Q E s:=by
 obtain⟨⟨oe,vs,he,hc,ah,hd,h1⟩,⟨oT,ts,hT,aa,h3⟩,ne⟩:=t;have hsz:=(Array.getElem?_eq_some_iff.mp h3).1;have em:Obj.mapFields (·.setIfInBounds 3 Value.none) oT={ oT with data:=.fields (ts.setIfInBounds 3 .none) }:=tP aa;unfold noteFrame;simp only[hf];refine Q00 (wpAny_field he hd h1 ?_);rw[if_pos (show(Value.ref T != Value.none)=true by simp)];refine Q00 (wpAny_field hT aa h3 ?_);rw[if_neg (show ¬(Value.none == rawInt L)=true by simp[rawInt])];refine Q00 (wpAny_setField hT aa hsz ?_);have self:=Q1x (Obj.mapFields (·.setIfInBounds 3 Value.none)) hT (by rw[em];exact Obj.isFreed_of_fields rfl);rw[em] at self
 have oth:∀b o,b≠T->s.heap.get? b=some o->(s.heap.update T (Obj.mapFields (·.setIfInBounds 3 Value.none))).get? b=some o:=λb o hb ho=>by
  rw[Q1a _ _ (Ne.symm hb)];exact ho
 have nT:∀b o,s.heap.get? b=some o->(∀vs,o.data≠ .fields vs)->b≠T:=λb o ho hn z=>by
  rw[z,hT] at ho
  cases ho;exact hn ts aa
 have af:(s.heap.update T (Obj.mapFields (·.setIfInBounds 3 Value.none))).objs.size=s.heap.objs.size:=Q2e _ _ _;refine FT (s:={ s with heap:=s.heap.update T (Obj.mapFields (·.setIfInBounds 3 Value.none)) }) ag (hl.of_keeps λb o ho hn=>⟨o,oth b o (nT b o ho hn) ho,rfl⟩) hf (oth e oe (Ne.symm ne) he) hd (Array.getElem?_eq_some_iff.mp h1).1 λh' T' ai hP aj ak=>?_;have hle:s.heap.objs.size<=T':=by rw[<-af];exact ai
 refine h h' T' hle (λb o hb ab ae ho=>hP.1 b o hb ab (oth b o ae ho)) (λb o ab ae ho=>hP.2 b o ab (oth b o ae ho)) ?_ ⟨⟨_,_,aj,hc,ah,rfl,by simp[(Array.getElem?_eq_some_iff.mp h1).1]⟩,ak,?_⟩
 . obtain⟨sl,hs⟩:=hP.2 T _ ne self;exact⟨_,hs⟩
 . have h1:e<s.heap.objs.size:=Q02 he;exact λz=>Q0w e (Q0e h1 (by rw[<-z];exact hle))
end
section
variable {X:Cx}{pins:List (Addr × Obj)}{σ:St}{H:Hp}{s:Shared}
end
def GZ (P:Program) (w:World):gf:=λouter H s E e s'=>∃(a T C:Addr) (dd:Option Addr) (H':Hp),e=.ref a/\lG s'.heap a T (.ref C) dd .none/\s.heap.get? a=none/\s.heap.get? T=none/\H' a=none/\H' T=none/\s'.os=s.os/\AllBare s'.gens/\Un (frs outer) [] H H' s.heap s'.heap/\eL P w H' s'.heap/\E (.ref C) dd H'
section
variable {M:Model}{A:Around}{E:Value->Shared->Prop}{s:Shared}
end
section
variable {X:Cx}{pins:List (Addr × Obj)}{σ:St}{H:Hp}{s:Shared}
end
noncomputable def mH (a C:Addr) (dd:Option Addr):HO:=.ext λh=>∃o,h.get? a=some o/\o.cls=.ref C/\o.dict=dd/\∃vs,o.data=.fields vs
theorem mH.ok(e:∃o,h.get? a=some o/\o.cls=.ref C/\o.dict=dd/\∃vs,o.data=.fields vs):fc P w H h a (mH a C dd):=
 ⟨e,let⟨o,h1,_⟩:=e;⟨o,h1⟩,λ_ _ ⟨o,h1,h2⟩ k=>⟨o,k o h1,h2⟩⟩
def uQ (X:Cx) (pins:List (Addr × Obj)) (σ:St) (Ek:XK) (e:Value) (s':Shared):Prop:=∃H s,Inv X pins σ H s/\GZ X.prog X.w X.stack H s Ek e s'
def z7 (X:Cx) (Ek:XK) (e:Expr) (t:TE):Prop:=
 ∀(pins:List (Addr × Obj)) (s:Shared) (σ:St) (H:Hp) (Q:VK),Inv X pins σ H s->t σ H Q->wpAny (model X.prog X.w) X.A (eval e X.env) (EP X pins σ Q) (uQ X pins σ Ek) s
def z8 (X:Cx) (Ek:XK) (st:List Stmt) (t:TS):Prop:=
 ∀(pins:List (Addr × Obj)) (s:Shared) (σ:St) (H:Hp) (D:Ends),Inv X pins σ H s->t D σ H->wpAny (model X.prog X.w) X.A (execs st X.env) (SP X pins D) (uQ X pins σ Ek) s
section
variable {X:Cx}{k:Nat}{f:Addr}{fd:FuncData}{ps:List Str}{sp:Sp}{fB:List V}{ds:List Value}{Ek:XK}{x:Str}{p pos:Pos}{e:Expr}{es:List Expr}{t:TA}{te:TE}
theorem z9 (he:z7 X Ek e te):z8 X Ek [.Return (some e) pos] (sr te):=by
 intro pins s σ H D I h;exact wpAny_execs_cons (wpAny_Return_some (Q0r (he pins s σ H _ I h) (λv s1 ⟨x,H1,I1,r1,q1⟩=>⟨x,σ,H1,I1,r1,q1⟩) λ_ _ z=>z))
end
theorem G5(ab:X.stack=X.env::X.outer)(ag:X.env.frame=some X.env.locals)(h:uQ X pins σ Ek e s')
 (q:∀(a C T:Addr) (dd:Option Addr) (H':Hp) (h2:Heap),e=.ref a->H' a=none->Ek (.ref C) dd H'->lG h2 a T (.ref C) dd .none->Inv X pins σ (upd H' a (mH a C dd)) { s' with heap:=h2 }->
   (∀h3:Heap,lG h3 a T (.ref C) dd .none->(∀b o,b≠T->h2.get? b=some o->h3.get? b=some o)->Inv X pins σ (upd H' a (mH a C dd)) { s' with heap:=h3 })->Q () { s' with heap:=h2 }):
 wpAny (model X.prog X.w) X.A (noteFrame e X.env) (λ_ s2=>wpAny (model X.prog X.w) X.A (setFlight e none) Q E s2) E s':=by
 obtain⟨H,s,I,a,T,C,dd,H',rfl,t,la,lT,na,nT,os,bare,un,ae,hE⟩:=h;have I':=I.call' (s':=s') (ch:=[]) os un ae bare (λb z=>absurd z (by simp));have ah:X.A.frames=some (X.env::X.outer):=by rw[<-ab];exact I.ok.frames
 have hl:s'.heap.FunFrames X.base (X.env::X.outer):=by rw[<-ab];exact I'.stack
 refine GY ah hl ag t λh1 T1 ai k1 k2 aq t1=>?_;refine z6 (s:={ s' with heap:=h1 }) t1 λh2 t2 k3 ar=>?_
 have aa:∀b o,s'.heap.get? b=some o->b≠T1:=λb o e z=>by
  have h3:=Q02 e;rw[z] at h3;exact Q0w _ (Q0e h3 ai)
 have key:∀h3:Heap,lG h3 a T1 (.ref C) dd .none->(∀b o,b≠T1->h2.get? b=some o->h3.get? b=some o)->Inv X pins σ (upd H' a (mH a C dd)) { s' with heap:=h3 }:=λh3 t3 k4=>by
  have m1:∀b o,b ∉ frs X.stack->b≠a->b≠T->s'.heap.get? b=some o->h3.get? b=some o:=λb o hb n1 n2 e=>
   k4 b o (aa b o e) (k3 b o (aa b o e) (k1 b o (by rw[<-ab];exact hb) n1 n2 e))
  have m2:∀b o,b≠a->b≠T->s'.heap.get? b=some o->∃sl,h3.get? b=some { o with slots:=sl }:=λb o n1 n2 e=>by
   obtain⟨sl,e1⟩:=k2 b o n1 n2 e;exact⟨sl,k4 b _ (aa b o e) (k3 b _ (aa b o e) e1)⟩
  have old:∀b o,s.heap.get? b=some o->b≠a/\b≠T:=λb o e=>⟨(λz=>by rw[z,la] at e;cases e),λz=>by rw[z,lT] at e;cases e⟩;refine I.call' (s':={ s' with heap:=h3 }) (ch:=[]) os ⟨λb o e n hb _=>?_,λb o e n hb hx=>?_,λb o e n hx=>?_,λb o e hx=>?_,λb xs e=>?_,λb o u e=>?_,λb ps e=>?_⟩ (λb o e=>?_) bare (λb z=>absurd z (by simp))
  . exact m1 b o hb (old b o e).1 (old b o e).2 (un.keep b o e n hb (by simp))
  . obtain⟨sl,e1⟩:=un.slot b o e n hb hx;obtain⟨af,e2⟩:=m2 b _ (old b o e).1 (old b o e).2 e1;exact⟨af,e2⟩
  . rw[cQ (old b o e).1];exact un.free b o e n hx
  . obtain⟨o',e1⟩:=un.there b o e hx;obtain⟨af,e2⟩:=m2 b _ (old b o e).1 (old b o e).2 e1;exact⟨_,e2⟩
  . have:=un.tups b xs e;rw[cQ (c6 this na)];exact this
  . have:=un.ip b o u e;rw[cQ (c6 this na)];exact this
  . obtain⟨more,this⟩:=un.iE b ps e;exact⟨more,by rw[cQ (c6 this na)];exact this⟩
  . by_cases hb:b=a
    . subst hb;rw[cV] at e
      cases e;obtain⟨oe,vs,he,hc,aj,ak,_⟩:=t3.ex;exact mH.ok ⟨oe,he,hc,aj,vs,ak⟩
    . rw[cQ hb] at e;refine(ae b o e).stay (λc u hc r=>?_) (λc r=>by rw[cQ (c6 r na)];exact r) λc xs r=>by rw[cQ (c6 r na)];exact r
      have ao:∃v,H' c=some v:=by
       rcases hc with z|z
       . exact⟨o,by rw[z];exact e⟩
       . exact⟨_,z⟩
      obtain⟨v,hv⟩:=ao;refine m1 c u (λz=>?_) (c6 hv na) (c6 hv nT) r;rw[I'.qj c z] at hv;cases hv
 exact q a C T1 dd H' h2 rfl na hE t2 (key h2 t2 λ_ _ _ e=>e) key
def G6 (Ek:XK) (i:Nat) (tb ts:TS):TS:=λD σ H=>tb D σ H/\∀(a C:Addr) (dd:Option Addr) (H':Hp),H' a=none->Ek (.ref C) dd H'->ts (D.un i) (σ.set i (some (.ref a))) (upd H' a (mH a C dd))
theorem z_{ae:Stmt}(ah:X.stack=X.env::X.outer)(ai:X.env.frame=some X.env.locals)
 (hb:z8 X Ek body tb) (hg:Gl X x) (hm:X.mg x=some (.ref Dc)) (h1:W.typeIn X.K (.ref Dc)=some (.type "type")) (h2:(W.clsIn X.K Dc).isSome=true) (h3:W.subIn X.K (.ref Dc) (.type "BaseException")=some true)
 (h4:∀C dd H,Ek (.ref C) dd H->W.subIn X.K (.ref C) (.ref Dc)=some true) (hN:X.N.Nodup) (hi:X.N[i]? =some n) (aa:X.env.kindOf n=some .local) (hs:∀a,g9 (X.marked a) (ae::ab) ts) (hd:(x == ("__debug__":Str))=false:=by decide):
 PS X (.Try body [.ExceptHandler (some (.Name x np)) (some n) (ae::ab) ag] [] [] pos) (G6 Ek i tb ts):=by
 intro pins s σ H D I h;obtain⟨hq,hk⟩:=h;refine wpAny_Try_except (Q0r (hb pins s σ H D I hq) (λf s1 q=>?_) λe s1 z=>?_)
 . cases f with
   |next=>exact wpAny_execs_nil q
   |ret v=>exact q
   |brk=>exact q
   |cont=>exact q
 . refine G5 ah ai z λa C T dd H' ak e1 na hE t2 I2 key=>?_;subst e1;have ok:=I2.ok;refine wpAny_handleBy_cons (codeAny_handlers_test ?_) (by intro q;cases q);refine qo (X:=X.marked a) (I2.marked a) hg hm ?_ hd;obtain⟨oe,vs,he,hc,_⟩:=id t2.ex;refine FU I2.fm h1 h2 h3 (h4 C dd H' hE) he hc ?_;simp only[if_true];refine codeAny_handlers_suite_as ?_;refine z6 t2 λaj t3 k3 _=>?_;have I3:=key aj t3 k3;refine qm I3 hN hi (.inl aa) (show RelV (.ref a) (.ref a) from rfl) (λs4 I4=>?_) (.inr aa);refine Q0r (hs a pins s4 _ _ (D.un i) (I4.marked a) (hk a C dd H' na hE)) (λf s5 q=>?_) λ_ _ z=>False.elim z;show wpAny _ _ _ _ _ _
   cases f with
   |next=>
    obtain⟨af,H5,I5,q⟩:=q;exact(I5.unmarked ok).unbind hN hi aa λs6 I6=>⟨_,_,I6,q⟩
   |ret v=>
    obtain⟨y,af,H5,I5,r,q⟩:=q;exact(I5.unmarked ok).unbind hN hi aa λs6 I6=>⟨y,_,_,I6,r,q⟩
   |brk=>
    obtain⟨af,H5,I5,q⟩:=q;exact(I5.unmarked ok).unbind hN hi aa λs6 I6=>⟨_,_,I6,q⟩
   |cont=>
    obtain⟨af,H5,I5,q⟩:=q;exact(I5.unmarked ok).unbind hN hi aa λs6 I6=>⟨_,_,I6,q⟩
section
variable {X:Cx}{pins:List (Addr × Obj)}{σ:St}{H:Hp}{s:Shared}
end
section
variable {X:Cx}
end
section
variable {X:Cx}{k:Nat}{f C:Addr}{fd:FuncData}{ps:List Str}{sp:Sp}{Ek:XK}{m:Str}{p pos apos:Pos}{e o:Expr}{es:List Expr}{t:TA}{te ta:TE}
theorem Aa (he:PE X.c7 e te):z7 X Ek e te:=λpins s σ H Q I h=>
 Q0r (he pins s σ H Q (I.wish _) h) (λ_ _ ⟨v,H',I',r,q⟩=>⟨v,H',I'.j5,r,q⟩) λ_ _ z=>False.elim z
end
noncomputable def hk (l:List Key) (q:Key):Bool:=l.any λx=>decide (x=q)
noncomputable def stepK (l:List Key) (k:Key):List Key:=if hk l k=true then l else l++[k]
theorem Ab{h:Heap}{S S':Key->Bool}(hS:h.SetOf (eQ prog w) a S n)(e:∀k,S k=S' k)(en:n=n'):h.SetOf (eQ prog w) a S' n':=by
 obtain rfl:S=S':=funext e;subst en;exact hS
noncomputable def fO (v:Nat->Key):Nat->List Key
 |0=>[]
 |i+1=>stepK (fO v i) (v i)
theorem uR (v:Nat->Key):∀i,(fO v i).length<=i
 |0=>Q0 _
 |i+1=>by
  have:=uR v i;show(stepK (fO v i) (v i)).length<=i+1;unfold stepK;split
  . omega
  . rw[Q0d];exact Q3e this
theorem G7 (l m:List Key)(q:Key):hk (l++m) q=(hk l q || hk m q):=List.any_append
theorem G8 (l:List Key)(k q:Key):hk (stepK l k) q=(hk l q || decide (q=k)):=by
 unfold stepK;split
 . rename_i h;by_cases e:q=k
   . subst e;rw[h];rfl
   . rw[decide_eq_false e,Bool.or_false]
 . rw[G7]
   have:hk [k] q=decide (q=k):=by
    show(decide (k=q) || false)=_;rw[Bool.or_false];by_cases e:q=k
    . subst e;rfl
    . rw[decide_eq_false e,decide_eq_false λz=>e z.symm]
   rw[this]
theorem Ac (l:List Key)(k:Key):(stepK l k).length=if hk l k=true then l.length else l.length+1:=by
 unfold stepK;split
 . rfl
 . rw[Q0d];rfl
theorem Ad:hk l q=true↔q∈l:=by
 unfold hk;rw[Q3f];constructor
 . rintro⟨x,h1,h2⟩;rw[<-of_decide_eq_true h2];exact h1
 . intro h;exact⟨q,h,decide_eq_true rfl⟩
theorem uS:∀{i:Nat},((List.range i).map v).Nodup->fO v i=(List.range i).map v
 |0,_=>rfl
 |i+1,h=>by
  rw[Q2j,Q0h] at h ⊢;obtain⟨h1,h2,h3⟩:=List.nodup_append.mp h;show stepK (fO v i) (v i)=_;rw[uS h1];unfold stepK;rw[if_neg]
  . rfl
  . intro z;exact h3 _ (Ad.mp z) (v i) (List.mem_singleton.mpr rfl) rfl
section
variable {prog:Program}{w:World}{A:Around}{R:Result->Shared->Prop}{I:Addr}{fp wr:List Addr}{G:Array GenState->Array GenState->Prop}{n:Nat}{Pp:Nat->Value->Prop}{St':Nat->Shared->Prop}
theorem G9 (W:WalksS prog w A.in1 I fp wr G n Pp St')(S:Addr)(sf:S ∉ fp)(v:Nat->Key)(hv:∀i u,Pp i u->(eQ prog w).is (v i) u=true/\u.scannable=true)(bd:n+1<scanBound):
 ∀(k i:Nat) (s:Shared),n - i=k->i<=n->St' i s->s.heap.SetOf (eQ prog w) S (λq=>hk (fO v i) q) (fO v i).length->
  (∀s',Moved (S::wr) G s s'->s'.heap.SetOf (eQ prog w) S (λq=>hk (fO v n) q) (fO v n).length->R (.ok (.ret .none)) s')->
  codeAny (model prog w) A (.builtin "set.update.loop" ⟨[.ref S,.ref I],[]⟩) R s:=by
 have sw:S ∉ wr:=λz=>sf (W.sub _ z);have up:∀b∈wr,b∈S::wr:=λb z=>Q09 _ z;intro k
 induction k with
 |zero=>
  intro i s e1 e2 st so fin;obtain rfl:i=n:=by omega
  refine codeAny_builtin PyProof.Rows.F.entry_set_update_loop ?_;rw[Around.under_plainId PyProof.Rows.F.plain_set_update_loop _];show wpAny _ A.in1 (pyNext (.ref I) >>= _) _ _ s;refine Q00 (W.done s _ _ st λs' mv=>?_);show wpAny _ A.in1 (ret Value.none) _ _ s';obtain⟨o,es,ep,t,ho,more⟩:=so;exact Q0a (fin s' (mv.mono up) ⟨o,es,ep,t,mv.heap S _ sw ho,more⟩)
 |succ k ih=>
  intro i s e1 e2 st so fin;have lt:i<n:=by omega
  refine codeAny_builtin PyProof.Rows.F.entry_set_update_loop ?_;rw[Around.under_plainId PyProof.Rows.F.plain_set_update_loop _];show wpAny _ A.in1 (pyNext (.ref I) >>= _) _ _ s;refine Q00 (W.item i s _ _ lt st λu s' hP aa mv=>?_);obtain⟨is,sc⟩:=hv i u hP
  have ab:s'.heap.SetOf (eQ prog w) S (λq=>hk (fO v i) q) (fO v i).length:=by
   obtain⟨o,es,ep,tb,ho,more⟩:=so;exact⟨o,es,ep,tb,mv.heap S _ sw ho,more⟩
  show wpAny _ A.in1 (holding [u] (setAdd S u) >>= _) _ _ s';refine Q00 (wpAny_holding ?_);unfold setAdd;refine wpAny_holding (Q00 ((eQ prog w).pyHash (k:=v i) is ?_));have room:(fO v i).length+1<scanBound:=by have:=uR v i;omega
  refine wpAny_setAddHashed_of (knd:=eQ prog w) (s:={ s' with toks:=s'.toks+1 }) is sc ab room λh' sb ae=>?_
  have af:h'.SetOf (eQ prog w) S (λq=>hk (fO v (i+1)) q) (fO v (i+1)).length:=
   Ab ae (λq=>(G8 _ _ _).symm) (Ac _ _).symm
  refine Q0a ⟨plainId_quiet PyProof.Rows.F.plain_set_update_loop _,ih (i+1) _ (by omega) lt (W.frame _ s' _ _ aa (Q15 _) λb hb o e=>?_) af λag ah ai=>?_⟩
  . rw[sb.2 b (λz:b=S=>sf (by rw[<-z];exact hb))];exact e
  . refine fin ag (Moved.trans W.gtrans ((mv.mono up).then_heap (Q15 _) λb o hb e=>?_) ah) ai;rw[sb.2 b (λz:b=S=>hb (by rw[z];exact Q04))];exact e
end
theorem G_:LawfulBEq Key where
 eq_of_beq:=by
  intro a b h
  cases a <;> cases b
  . exact congrArg Sum.inl (eq_of_beq (α:=Int) h)
  . cases h
  . cases h
  . exact congrArg Sum.inr (eq_of_beq (α:=Str) h)
 rfl:=by
  intro a
  cases a
  . exact BEq.rfl (α:=Int)
  . exact BEq.rfl (α:=Str)
theorem Ha(ah:A.handled=none)(il:s.heap.IsList l aa)
 (hv:∀(i:Nat) (u:Value),aa[i]? =some u->(eQ prog w).is (v i) u=true/\u.scannable=true) (bd:aa.size+1<scanBound)
 (q:∀(h':Heap) (tk:Nat),h'.SetOf (eQ prog w) s.heap.objs.size (λk=>hk (fO v aa.size) k) (fO v aa.size).length->(∀b o,b<s.heap.objs.size->s.heap.get? b=some o->h'.get? b=some o)->Q (.ref s.heap.objs.size) { s with heap:=h',toks:=tk }):
 wpAny (model prog w) A (call (.type "set") [.ref l]) Q E s:=by
 obtain⟨c,tl,mro⟩:=PySem.F.called_set.mro;have made:=PySem.F.called_set.made;have sub:=PySem.F.called_set.sub;refine wpAny_call (codeAny_of_tree ?_);show wpAny _ _ (callAny (.type "set") _) _ _ _;refine Q0a ⟨Code.quiet_builtin _ (by decide +kernel),codeAny_builtin PySem.F.entry_type_call ?_⟩;rw[Around.under_plain (weight_type_call_type "set" [.ref l] []) rfl];have n1:=PySem.F.called_set.notType;have n2:=PySem.F.called_set.canCreate;have ct:=PySem.F.typeCall_set_1 (.ref l)
 repeat (any_goals (first|assumption|wp_step))
 refine codeAny_mono (code_set_new_1 (.ref l) (E:=E) (Q₁:=λob s1=>∃ld:Bool,ob=.ref s.heap.objs.size/\s1={ s with heap:=s.heap.push { cls:=.type "set",dict:=none,data:=.set #[] 0 (.fresh 0 0 ld) } }) λld=>⟨ld,rfl,rfl⟩) λr s1 hr=>?_
 cases r with
 |error e=>exact hr
 |ok fl=>
  cases fl with
  |ret ob=>
   obtain⟨ld,rfl,rfl⟩:=hr;have gS:(s.heap.push { cls:=.type "set",dict:=none,data:=.set #[] 0 (.fresh 0 0 ld) }).get? s.heap.objs.size=some { cls:=.type "set",dict:=none,data:=.set #[] 0 (.fresh 0 0 ld) }:=Q0i _ rfl;have ty:Shared.TypeIs { s with heap:=s.heap.push { cls:=.type "set",dict:=none,data:=.set #[] 0 (.fresh 0 0 ld) } } (.ref s.heap.objs.size) "set":=⟨_,gS,rfl⟩;have li:=PySem.F.called_set.init.lookup;have bi:=PySem.F.called_set.init.bind (.ref s.heap.objs.size)
   repeat (any_goals (first|assumption|wp_step))
   refine codeAny_mono (codeAny_call_builtin (R:=wants (λr s2=>r=.none/\∃h' tk,s2={ s with heap:=h',toks:=tk }/\h'.SetOf (eQ prog w) s.heap.objs.size (λk=>hk (fO v aa.size) k) (fO v aa.size).length/\
    (∀b o,b<s.heap.objs.size->s.heap.get? b=some o->h'.get? b=some o)) E) PySem.F.called_set.init.plain PySem.F.entry_set_init (check_set_init_1 ty ?_)) λr2 s2 ab=>?_
   . obtain⟨ol,af,ae,nl,dl⟩:=il;obtain⟨oc,od,ak,ao⟩:=ol;have ae:oc=.type "list":=ae;have dl:ak=.seq aa nl:=dl;subst ae;subst dl;have aj:(s.heap.push { cls:=.type "set",dict:=none,data:=.set #[] 0 (.fresh 0 0 ld) }).get? l=some { cls:=.type "list",dict:=od,data:=.seq aa nl,slots:=ao }:=Q06 _ af;have az:=PySem.F.sub_list_set;have aA:=PySem.F.sub_list_frozenset;have nd:(Value.type "list" == Value.type "dict")=false:=by decide
     have ag:(s.heap.push { cls:=.type "set",dict:=none,data:=.set #[] 0 (.fresh 0 0 ld) }).IsList l aa:=⟨_,aj,rfl,nl,rfl⟩;unfold Builtin.«set.__init__» noKeywords Builtin.Frozenset.updateFrom;generalize aq:pyIter=PI
     wp_walk
     subst aq;refine wpAny_pyIter_list ag ?_;refine Q00 (wpAny_runValue ?_);have ai:l<s.heap.objs.size:=Q02 af;have ar:A.in1.in1.in1.handled=none:=by simp[ah]
     have au:l≠(s.heap.push { cls:=.type "set",dict:=none,data:=.set #[] 0 (.fresh 0 0 ld) }).objs.size:=by rw[Q18];exact Q08 (Q2f ai)
     have av:s.heap.objs.size ∉ [(s.heap.push { cls:=.type "set",dict:=none,data:=.set #[] 0 (.fresh 0 0 ld) }).objs.size,l]:=by
      rw[Q18];simp only[Q1i,Q2m,Q23,or_false,not_or];exact⟨Q08 (Q14 _),Q0v ai⟩
     refine G9 ((Walks.list ar _ l au aa).toS) s.heap.objs.size av v hv bd (aa.size - 0) 0 _ (by omega) (Q0c _) ⟨⟨_,Q0i _ rfl,rfl,rfl⟩,(ag.push _)⟩ ?sA ?sB
     case sA=>
      have g2:((s.heap.push { cls:=.type "set",dict:=none,data:=.set #[] 0 (.fresh 0 0 ld) }).push { cls:=.type "list_iterator",data:=.fields #[.ref l,.int 0 0] }).get? s.heap.objs.size=some { cls:=.type "set",dict:=none,data:=.set #[] 0 (.fresh 0 0 ld) }:=Q06 _ gS;haveI:=G_;refine Ab (Obj.SetObjOf.setOf (knd:=eQ prog w) (setObjOf_fresh ld) g2 (by unfold scanBound;omega)) (λ_=>rfl) rfl
     case sB=>
      intro s' mv so;obtain⟨h',g',d',aw,ax⟩:=s';have eg:g'=s.gens:=mv.gens;have ed:d'=s.drawn:=mv.drawn;have eo:ax=s.os:=mv.os;subst eg;subst ed;subst eo;show wpAny _ _ _ _ _ _;refine Q0a ?_;show wpAny _ _ (ret Value.none) _ _ _;refine Q0a ⟨rfl,h',aw,rfl,so,λb o hb e=>?_⟩;have b1:b≠s.heap.objs.size:=Q08 hb;have b2:b≠(s.heap.push { cls:=.type "set",dict:=none,data:=.set #[] 0 (.fresh 0 0 ld) }).objs.size:=by rw[Q18];exact Q08 (Q2f hb)
      exact mv.heap b o (by simp only[Q1i,Q2m,Q23,or_false,not_or];exact⟨b1,b2⟩) (Q06 _ (Q06 _ e))
   . cases r2 with
     |error e=>exact ab
     |ok ay=>
      cases ay with
      |ret r=>
       obtain⟨rfl,h',tk,rfl,so,kp⟩:=ab
       repeat (any_goals (first|assumption|wp_step))
       exact q _ _ so kp
      |_=>exact ab.elim
  |_=>exact hr.elim
noncomputable def uT (P:Program) (w:World) (a:Addr) (n:Nat):HO:=.ext λh=>∃S,h.SetOf (eQ P w) a S n
section
variable {X:Cx}
inductive Ae (K:W.Frag) (prog:Program) (wd:World) (xs:List V) (H:Hp) (Q:V->Hp->Prop):Prop
 |mk (a:Addr) (ss:List Str) (h0:xs=[.ref a]) (h1:cM K H a (ss.map V.str)) (h2:ss.length<=60) (h3:∀p,H p=none->Q (.ref p) (upd H p (uT prog wd p (fO (λi=>Sum.inr (ss.getD i "")) ss.length).length))):Ae K prog wd xs H Q
theorem Hb (hc:X.calm=true):iq X (.type "set") (Ae X.K X.prog X.w):=by
 intro pins s σ H xs us Q I r h;obtain⟨a,ss,rfl,hq,ai,q⟩:=h;obtain⟨u,rfl,ru⟩:=vals1 r
 cases ru;obtain⟨aa,rv,pl,hz⟩:=I.list hq;have hl:aa.length=ss.length:=by rw[<-rv.length,Q01]
 have hsz:aa.toArray.size=ss.length:=by rw[Q05];exact hl
 refine Ha (v:=λi=>Sum.inr (ss.getD i "")) (I.ok.hd hc) pl.isList (λi u hu=>?_) (by rw[hsz];unfold scanBound;omega) λh' tk so kp=>?_
 . have hi:i<ss.length:=by
    have:=(Array.getElem?_eq_some_iff.mp hu).1;rw[hsz] at this;exact this
   have h1:(ss.map V.str)[i]? =some (V.str (ss.getD i "")):=by
    rw[Q0g,Q0f,Q03 hi];rfl
   obtain⟨u',e1,t,e2⟩:=rv.get h1
   have:u=u':=by
    have ae:aa.toArray[i]? =some u:=hu;rw[List.getElem?_toArray,e1] at ae;exact(Option.some.inj ae).symm
   subst this;subst e2;exact⟨vP _ t,rfl⟩
 . rw[hsz] at so;obtain⟨o,es,ep,t,ho,more⟩:=so;refine⟨.ref s.heap.objs.size,_,I.laid (h':=h') (t':=tk) (λb u e=>kp b u (Q02 e) e) (Q0 _) ?_,rfl,q _ (I.hok.fresh (Q0 _))⟩;exact⟨⟨_,o,es,ep,t,ho,more⟩,⟨o,ho⟩,λh1 h2 ⟨S,o',af,ag,t',ah,ab⟩ k=>⟨S,o',af,ag,t',k _ ah,ab⟩⟩
inductive Af (prog:Program) (wd:World) (xs:List V) (H:Hp) (Q:V->Hp->Prop):Prop
 |mk (a:_) (n:_) (h0:xs=[.ref a]) (h1:H a=some (uT prog wd a n)) (h2:Q (.int n) H):Af prog wd xs H Q
theorem Hc:iq X (.builtin "len") (Af X.prog X.w):=by
 intro pins s σ H xs us Q I r h;obtain⟨a,n,rfl,ha,q⟩:=h;obtain⟨u,rfl,ru⟩:=vals1 r
 cases ru;obtain⟨S,o,es,ep,t,ho,hex,hd,ab,aa,hb,hf,hn⟩:=(I.hok a _ ha).1;refine call_len_set ho hex hd hf (by unfold scanBound at hb;omega) ⟨.int n,H,I.tok _,⟨_,by rw[hn]⟩,q⟩
end
end L2
namespace Pb
open L2 PyProof.Rows
noncomputable def Hd (st:Stmt):Pos:=match k5 st with
 | .Assign _ (.Call _ [.Call _ _ [⟨_,.Lambda _ _ _ lp,_⟩] _] _ _) _::_=>lp
 |_=>⟨0,0,0,0⟩
noncomputable abbrev d_:Pos:=Hd (top 8)
noncomputable abbrev eh:Str:=("sorted_fields":Str)++".<locals>."++"<lambda>"
abbrev fj (Pt:Addr) (H H':Hp):Prop:=Kp (λc=>c=Pt) H H'
theorem fj.tu(x:fj Pt H H')(hT:dc Pt lp ql H):Tu H H':=λc xs h=>by
 obtain⟨ps,hP⟩:=hT.tab;exact x c _ (eK h hP (by intro z;cases z)) h
inductive Ag (K:W.Frag) (Pt:Addr) (vs:List V) (H:Hp) (Q:V->Hp->Prop):Prop
 |mk (l:_) (qs:_) (rs:_) (h0:vs=[.ref l]) (h1:cM K H l (eI qs)) (h2:ly H qs) (h3:qs.length<=60) (h4:dc Pt d_ eh H) (h5:rs.Perm qs) (h6:(nms rs).Nodup) (h7:(nms rs).Pairwise sle) (h8:(∀t H',fj Pt H H'->dc Pt d_ eh H'->H' t=some (.tup (eI rs))->Q (.ref t) H')):Ag K Pt vs H Q
def Ah (K:W.Frag) (Pt:Addr):Sp:=λvs H Q E=>Ag K Pt vs H Q
inductive Ai (K:W.Frag) (Pt:Addr) (vs:List V) (H:Hp) (Q:V->Hp->Prop):Prop
 |mk (l:_) (qs:_) (rs:_) (h0:vs=[.ref l]) (h1:cM K H l (eI qs)) (h2:ly H qs) (h3:qs.length<=60) (h4:dc Pt d_ eh H) (h5:rs.Perm qs) (h6:(nms rs).Nodup) (h7:(nms rs).Pairwise sle) (h8:(∀r t H',fj Pt H H'->dc Pt d_ eh H'->H' t=some (.tup (eI rs))->H' r=some (.tup [.str "record",.ref t])->Q (.ref r) H')):Ai K Pt vs H Q
def kQ (K:W.Frag) (Pt:Addr):Sp:=λvs H Q E=>Ai K Pt vs H Q
theorem He {qs:List Qd}{i:Nat}(h:(eI qs)[i]? =some v):∃q,qs[i]? =some q/\q.1=v:=by
 have h:(qs.map (·.1))[i]? =some v:=h;rw[Q0g] at h
 cases e:qs[i]? with
 |none=>rw[e] at h;cases h
 |some q=>rw[e] at h;exact⟨q,rfl,Option.some.inj h⟩
theorem pM (qs:List Qd):(eI qs).length=qs.length:=Q01 _
theorem uU (qs:List Qd):(nms qs).length=qs.length:=Q01 _
noncomputable def q0:Qd:=(.non,"",false)
theorem Hf (qs:List Qd)(p:List Nat):eI (p.map λi=>qs.getD i q0)=p.map λi=>(eI qs).getD i .non:=by
 unfold eI;rw[Q0q];refine Q1c λi _=>?_;show(qs.getD i q0).1=_;rw[Q0f,Q0f,Q0g]
 cases qs[i]? <;> rfl
theorem Hg (qs:List Qd){p:List Nat}(h:p.Perm (List.range qs.length)):(p.map λi=>qs.getD i q0).Perm qs:=by
 have:=h.map λi=>qs.getD i q0;rw[yg] at this;exact this
theorem iI {x:Str}{ss:List Str}:inV (.str x) (ss.map V.str)=decide (x∈ss):=by
 unfold inV;rw[Q2l];have:∀y:Str,((λy=>kq y (V.str x)) ∘ V.str) y=decide (y=x):=λy=>rfl
 induction ss with
 |nil=>rfl
 |cons y r ih=>
  rw[Q1f,ih,this];by_cases e:y=x
  . rw[decide_eq_true e,decide_eq_true (show x∈y::r by rw[e];exact Q04)];rfl
  . rw[decide_eq_false e];by_cases h:x∈r
    . rw[decide_eq_true h,decide_eq_true (Q09 _ h)];rfl
    . rw[decide_eq_false h,decide_eq_false λz=>(List.mem_cons.mp z).elim (λz=>e z.symm) h];rfl
theorem kR:∀{ss:List Str},(ss.map V.str).all ko=true
 |[]=>rfl
 |x::r=>by rw[Q0m,Q1y,kR];rfl
variable {P:Program}{w:World}{K:W.Frag}{mg:Str->Option Value}{base:Heap}
theorem Hh(T:Tb mg)(Z:cW es K mg)(az:W.CodeHd base (codeN "sorted_fields") Pt)(aA:BM mg base):Ok P w K mg base cH "sorted_fields" ["pairs"] (8) (Ah K Pt):=by
 refine Z.qS X4 (top 8) (codeN "sorted_fields") λvs H Q E h=>?_;obtain⟨l,qs,rs,rfl,hl,hp,ah,hT,ae,ai,aB,q1⟩:=h;refine⟨rfl,λql f aG A outer s aC nd hr hu=>?_⟩;obtain⟨rfl,rfl⟩:=aC
 refine⟨_,(cK (c_ 1 nd (jG s_ (by rfl) T.pF boot_tuple (a_ (FX (te:=(d6 (gm K) (dF 0) (tC (.int 0)))) (x:="pair") (N':=["","","",""]) rfl T.um boot_sorted hr rfl rfl az aA (lg.of (N:=X4) (sc:=eP (top 8)) rfl rfl rfl rfl rfl (by decide +kernel)) rfl (λ_ _ _ _ _=>rfl) (pv 0) (λ_ _ _ _ _=>(cX (pv 0) cI))) cG)))
  (cK (fR PassesOwn.never rfl (DE rfl T.jP (a_ cI (a_ (dG fC (by rfl) T.eT PySem.boot_len (a_ (pv 1) cG)) cG))) (dy (i:=2) nd rfl d9) (cK (c_ 3 nd (cX (cX (pv 1) (pv 2)) cI))
  (cO (dq (di dO (pv 3) (cX (cX (pv 1) (cU ji (pv 2) cI)) cI) (c9 _)) (cO su) dt))))
  (cO (cS (pv 1))))),?_⟩
 ac_rfl
 refine⟨_,rfl,l,eI qs,rfl,hl,by rw[pM];omega,hT,λc' H2 aj mono=>?_⟩;have dQ:fj Pt H H2:=λcc o hc e=>mono cc o hc e;have ak:ly H2 qs:=hp.mono (dQ.tu hT);refine⟨λks H3=>H3=H2/\ks.length<=qs.length/\ks=((nms qs).map V.str).take ks.length,⟨rfl,Q0c _,rfl⟩,λks H3 hw=>by rw[hw.1];exact aj,?_,?_⟩
 . rintro ks H3 yv ⟨rfl,hle,aa⟩ hy;obtain⟨qq,hq,rfl⟩:=He hy;obtain⟨cc,u,ec,hc,hk⟩:=ak qq (Q16 hq);obtain⟨qv,qn,qb⟩:=qq;have ec:qv=.ref cc:=ec;subst ec;have aD:ks.length<qs.length:=(List.getElem?_eq_some_iff.mp hq).1;refine⟨_,rfl,cc,_,_,_,rfl,rfl,cJ.of hc,rfl,rfl,by rw[Q0d];exact aD,?_⟩;rw[Q0d];show _=List.take (ks.length+1) _;rw[Q0p,<-aa,Q0g]
   have:(nms qs)[ks.length]? =some qn:=by
    show(qs.map (·.2.1))[ks.length]? =_;rw[Q0g,hq];rfl
   rw[this];rfl
 . rintro ks H3 ⟨rfl,_,aa⟩ hlen
   have aa:ks=(nms qs).map V.str:=by
    rw[aa,hlen,pM,Q0x (by rw[Q01,uU];exact Q0 _)]
   refine⟨nms qs,aa,λp af hs D hD=>?_⟩;rw[pM] at af;rw[<-Hf];have ag:=Hg qs af
   have ax:(nms (p.map λi=>qs.getD i q0)).Pairwise sle:=by
    show((p.map λi=>qs.getD i q0).map (·.2.1)).Pairwise sle;rw[Q0q,Q1g];rw[Q1g] at hs;refine List.Pairwise.imp_of_mem (λ{i j} hi hj h=>?_) hs
    have ge:∀i∈p,((nms qs).map eS).getD i []=eS (qs.getD i q0).2.1:=λi hi=>by
     have aE:i<qs.length:=by
      have:=af.mem_iff.mp hi;simpa using this
     unfold nms;rw[Q0f,Q0f,Q0g,Q0g,Q03 aE];rfl
    rw[ge i hi,ge j hj] at h;exact h
   have aF:(p.map λi=>qs.getD i q0)=rs:=Gk (ag.trans ae.symm) ax aB ai;have ay:ly H3 rs:=λq hq=>ak q (ae.mem_iff.mp hq);have ah:rs.length<=60:=by rw[ae.length_eq];exact ah
   rw[aF];refine⟨D,eI rs,rfl,.inl ⟨cM.of cV,λt ht=>?_⟩⟩;have sD:Same H3 (upd H3 D (.lst (eI rs))):=Same.new hD;have s5:Same H3 (upd (upd H3 D (.lst (eI rs))) t (.tup (eI rs))):=sD.trans (Same.new ht);have ao:fj Pt H (upd (upd H3 D (.lst (eI rs))) t (.tup (eI rs))):=dQ.trans (Kp.of s5);have aq:dc Pt d_ eh (upd (upd H3 D (.lst (eI rs))) t (.tup (eI rs))):=.inr ⟨c',aj.mono λb o _ e=>s5 _ _ e⟩;have ab:upd (upd H3 D (.lst (eI rs))) t (.tup (eI rs)) t=some (.tup (eI rs)):=cV;have ar:ly (upd (upd H3 D (.lst (eI rs))) t (.tup (eI rs))) rs:=ay.mono (Tu.of s5);generalize upd (upd H3 D (.lst (eI rs))) t (.tup (eI rs))=H5 at ao aq ab ar
   have au:∀j,j<rs.length->∃cc u,(eI rs)[j]? =some (.ref cc)/\H5 cc=some (.tup [.str ((nms rs).getD j ""),u]):=λj hj=>by
    obtain⟨cc,u,ec,hc,_⟩:=ar rs[j] (Q17 hj);refine⟨cc,u,?_,?_⟩
    . show(rs.map (·.1))[j]? =_;rw[Q0g,Q03 hj];exact congrArg some ec
    . have e:(nms rs).getD j ""=rs[j].2.1:=by
       unfold nms;rw[Q0f,Q0g,Q03 hj];rfl
      rw[e];exact hc
   refine⟨_,rfl,t,_,rfl,.inr (cJ.of ab),_,_,rfl,⟨by decide,by decide,by omega,by rw[pM];omega⟩,ka (lo:=1) (n:=(((eI rs).length:Int) - 1).toNat) (λk σ H'=>H'=H5/\∃y z,σ=[some (.ref l),some (.ref t),y,z]) ⟨rfl,_,_,rfl⟩ ?_ ?_⟩
   . rintro k σ H' hk ⟨rfl,y,z,rfl⟩;rw[pM] at hk;obtain⟨c1,u1,a1,b1⟩:=au (k+1) (by omega);obtain⟨c2,u2,a2,b2⟩:=au k (by omega)
     have e1:fS (eI rs) ((1:Int)+(k:Int))=some (.ref c1):=by
      have:=fe (j:=k+1) a1;rw[show((1:Int)+(k:Int))=((k+1:Nat):Int) by omega];exact this
     have e2:fS (eI rs) ((1:Int)+(k:Int) - 1)=some (.ref c2):=by
      have:=fe (j:=k) a2;rw[show((1:Int)+(k:Int) - 1)=((k:Nat):Int) by omega];exact this
     refine⟨_,rfl,_,rfl,t,_,_,_,rfl,rfl,cJ.of ab,e1,c1,_,_,_,rfl,rfl,cJ.of b1,rfl,?_⟩;refine⟨_,rfl,_,rfl,_,rfl,_,_,rfl,rfl,t,_,_,_,rfl,rfl,cJ.of ab,e2,c2,_,_,_,rfl,rfl,cJ.of b2,rfl,rfl,_,rfl,dz (λcc=>?_) λcc=>⟨rfl,_,_,rfl⟩⟩
     have e:(nms rs).getD (k+1) ""=(nms rs).getD k "":=by
      have:=of_decide_eq_true cc;injection this
     have av:k+1<(nms rs).length:=by rw[uU];omega
     have aw:k<(nms rs).length:=by rw[uU];omega
     rw[Q0f,Q0f,Q03 av,Q03 aw] at e;have e:(nms rs)[k+1]=(nms rs)[k]:=e;exact absurd e.symm (List.pairwise_iff_getElem.mp ai k (k+1) aw av (by omega))
   . rintro σ H' ⟨rfl,y,z,rfl⟩;exact⟨_,rfl,q1 t _ ao aq ab⟩
theorem Hi(T:Tb mg)(Z:cW es K mg)(aa:Ok P w K mg base cH "sorted_fields" ["pairs"] (8) (Ah K Pt)):Ok P w K mg base cH "record_of" ["pairs"] (9) (kQ K Pt):=by
 refine Z.ok ["pairs"] (top 9) λvs H Q E h=>?_;obtain⟨l,qs,rs,rfl,hl,hp,af,hT,ag,ah,ai,q1⟩:=h;refine⟨rfl,λql f ak A outer s _ nd hr hu=>?_⟩;refine⟨_,(cO (cS (gc (a_ d0 (a_ (cT aa hr (a_ (pv 0) cG)) cG))))),?_⟩
 ac_rfl
 refine⟨_,rfl,l,qs,rs,rfl,hl,hp,af,hT,ag,ah,ai,λt H' kp aj ae=>?_⟩;refine⟨gx,λr ab=>?_⟩;exact q1 r t _ (kp.trans (Kp.of (Same.new ab))) (aj.same (Same.new ab)) (by rw[cQ (c6 ae ab)];exact ae) cV
end Pb
namespace Pb
open L2
def ju (H:Hp) (v:V) (p:NK):Prop:=∃c u,v=.ref c/\H c=some (.tup [.str p.1,u])/\KA H u p.2
abbrev FL (H:Hp):List V->List NK->Prop:=Paired (ju H)
theorem ju.mono(t:Tu H H')(h:ju H v p):ju H' v p:=by
 obtain⟨c,u,e,h1,h2⟩:=h;exact⟨c,u,e,t _ _ h1,h2.mono t⟩
theorem FL.mono(t:Tu H H'):∀{xs:List V}{l:List NK},FL H xs l->FL H' xs l
 |_,_,.nil=>.nil
 |_,_,.cons h r=>.cons (h.mono t) (FL.mono t r)
theorem FL.of:∀{xs:List V}(fs:Fs),FA H xs fs->FL H xs fs.toL
 |xs,.nil,h=>by unfold FA at h;subst h;exact .nil
 |xs,.cons x k r,h=>by
  unfold FA at h;obtain⟨c,u,vr,rfl,h1,h2,h3⟩:=h;exact .cons ⟨c,u,rfl,h1,h2⟩ (FL.of r h3)
theorem FL.fa:∀{xs:List V}{l:List NK},FL H xs l->FA H xs (Fs.fT l)
 |_,_,.nil=>by show FA H [] .nil;unfold FA;rfl
 |_,_,.cons (a:=v) (b:=p) h r=>by
  obtain⟨c,u,e,h1,h2⟩:=h;show FA H _ (.cons p.1 p.2 _);unfold FA;exact⟨c,u,_,by rw[e],h1,h2,FL.fa r⟩
theorem FL.len:∀{xs:List V}{l:List NK},FL H xs l->xs.length=l.length
 |_,_,.nil=>rfl
 |_,_,.cons _ r=>congrArg (· +1) (FL.len r)
theorem FL.at:∀{xs:List V}{l:List NK}{i:Nat}{v:V},FL H xs l->xs[i]? =some v->∃p,l[i]? =some p/\ju H v p
 |_,_,i,v,.nil,e=>by simp at e
 |_,_,0,v,.cons h r,e=>by cases e;exact⟨_,rfl,h⟩
 |_,_,i+1,v,.cons h r,e=>FL.at (i:=i) r e
theorem FL.app:∀{xs ys:List V}{l m:List NK},FL H xs l->FL H ys m->FL H (xs++ys) (l++m)
 |_,_,_,_,.nil,h=>h
 |_,_,_,_,.cons x r,h=>.cons x (FL.app r h)
theorem FL.snoc(h:FL H xs l)(x:ju H v p):FL H (xs++[v]) (l++[p]):=h.app (.cons x .nil)
theorem FL.unzip:∀{zs:List (V × NK)},(∀q∈zs,ju H q.1 q.2)->FL H (zs.map (·.1)) (zs.map (·.2))
 |[],_=>.nil
 |q::r,h=>.cons (h q Q04) (FL.unzip λx hx=>h x (Q09 _ hx))
theorem KA.ig(h:KA H v k)(e:du k=some l):∃kk t xs,v=.ref kk/\H kk=some (.tup [.str "record",.ref t])/\H t=some (.tup xs)/\FL H xs l:=by
 cases k with
 |c8 fs=>
  cases e;unfold KA at h;obtain⟨kk,t,xs,rfl,h1,h2,h3⟩:=h;exact⟨kk,t,xs,rfl,h1,h2,FL.of fs h3⟩
 |_=>cases e
theorem KA.other(h:KA H v k)(e:du k=none):∃kk f rest,v=.ref kk/\H kk=some (.tup (.str f::rest))/\f≠"record":=by
 cases k with
 |c8 fs=>cases e
 |num=>unfold KA at h;obtain⟨a,rfl,h1⟩:=h;exact⟨a,_,_,rfl,h1,by decide +kernel⟩
 |eu=>unfold KA at h;obtain⟨a,rfl,h1⟩:=h;exact⟨a,_,_,rfl,h1,by decide +kernel⟩
 |rows _ _ _=>unfold KA at h;obtain⟨a,b,vs,rfl,h1,_⟩:=h;exact⟨a,_,_,rfl,h1,by decide +kernel⟩
 |tree _=>unfold KA at h;obtain⟨a,u,rfl,h1,_⟩:=h;exact⟨a,_,_,rfl,h1,by decide +kernel⟩
 |e8 _=>unfold KA at h;obtain⟨a,b,vs,rfl,h1,_⟩:=h;exact⟨a,_,_,rfl,h1,by decide +kernel⟩
theorem KA.nn(h:KA H u k):u≠ .non:=by
 cases e:du k with
 |some l=>obtain⟨kk,_,_,rfl,_⟩:=h.ig e;intro z;cases z
 |none=>obtain⟨kk,_,_,rfl,_⟩:=h.other e;intro z;cases z
theorem FL.qs:∀{xs:List V}{l:List NK},FL H xs l->∃zs:List (V × NK × Bool),zs.map (·.1)=xs/\zs.map (·.2.1)=l/\∀z∈zs,ju H z.1 z.2.1/\pA H (z.1,z.2.1.1,z.2.2)
 |_,_,.nil=>⟨[],rfl,rfl,λz h=>(nomatch h)⟩
 |_,_,.cons (a:=v) (b:=p) h r=>by
  obtain⟨zs,e1,e2,k⟩:=FL.qs r;obtain⟨c,u,e,h1,h2⟩:=id h;obtain⟨pl,hs⟩:=lx.of h2;refine⟨(v,p,pl)::zs,by rw[Q0m,e1],by rw[Q0m,e2],λz hz=>?_⟩;rcases List.mem_cons.mp hz with rfl|z'
  . exact⟨h,c,u,e,h1,hs⟩
  . exact k z z'
theorem uV(hp:H p=some (.lst xs))(hl:FL H xs l)(hn:(cR l).Nodup)(ab:l.length<=60)(hT:dc Pt d_ eh H)
 (q:∀r H',fj Pt H H'->dc Pt d_ eh H'->KA H' (.ref r) (dP l)->Q (.ref r) H'):kQ K Pt [.ref p] H Q E:=by
 obtain⟨zs,e1,e2,k⟩:=hl.qs;have pm:=kH (λz:V × NK × Bool=>z.2.1.1) zs;have ev:eI (zs.map λz=>(z.1,z.2.1.1,z.2.2))=xs:=by unfold eI;rw[Q0q];exact e1
 have en:nms (zs.map λz=>(z.1,z.2.1.1,z.2.2))=cR l:=by unfold nms cR;rw[Q0q,<-e2,Q0q];rfl
 have aa:nms ((gE (λz:V × NK × Bool=>z.2.1.1) zs).map λz=>(z.1,z.2.1.1,z.2.2))=gE id (cR l):=by
  rw[<-en];unfold nms;rw[Q0q,Q0q];exact uK (nm:=λz:V × NK × Bool=>z.2.1.1) (nm':=id) (g:=λz=>z.2.1.1) (λ_=>rfl) zs
 refine⟨p,zs.map λz=>(z.1,z.2.1.1,z.2.2),(gE (λz:V × NK × Bool=>z.2.1.1) zs).map λz=>(z.1,z.2.1.1,z.2.2),rfl,cM.of (by rw[ev];exact hp),λw hw=>?_,?_,hT,pm.map _,?_,?_,λr t H' kp ae ht hr=>?_⟩
 . obtain⟨z,hz,rfl⟩:=List.mem_map.mp hw;exact(k z hz).2
 . rw[Q01,<-Q01 (f:=λz:V × NK × Bool=>z.2.1) (as:=zs),e2];exact ab
 . rw[aa];exact(kH id _).nodup_iff.mpr hn
 . rw[aa];exact zZ _
 . refine q r H' kp ae ?_;have tu:=kp.tu hT;have af:eI ((gE (λz:V × NK × Bool=>z.2.1.1) zs).map λz=>(z.1,z.2.1.1,z.2.2))=((gE (λz:V × NK × Bool=>z.2.1.1) zs).map λz=>(z.1,z.2.1)).map (·.1):=by unfold eI;rw[Q0q,Q0q];rfl
   have ag:((gE (λz:V × NK × Bool=>z.2.1.1) zs).map λz=>(z.1,z.2.1)).map (·.2)=gE (λp:NK=>p.1) l:=by
    rw[Q0q,<-e2];exact uK (nm:=λz:V × NK × Bool=>z.2.1.1) (nm':=λp:NK=>p.1) (g:=λz=>z.2.1) (λ_=>rfl) zs
   have hf:FL H' (eI ((gE (λz:V × NK × Bool=>z.2.1.1) zs).map λz=>(z.1,z.2.1.1,z.2.2))) (gE (λp:NK=>p.1) l):=by
    rw[af,<-ag];refine FL.unzip λw hw=>?_;obtain⟨z,hz,rfl⟩:=List.mem_map.mp hw;exact((k z (pm.mem_iff.mp hz)).1).mono tu
   unfold dP KA;exact⟨r,t,_,rfl,hr,ht,hf.fa⟩
end Pb
namespace Pb
open L2 PyProof.Rows
theorem rj {l:List NK}{x:Str}{i:Nat}{p:NK}(h:∀j q,j<i->l[j]? =some q->q.1≠x)(hp:l[i]? =some p)(e:p.1=x):cZ l x=some p.2:=by
 induction l generalizing i with
 |nil=>simp at hp
 |cons q r ih=>
  rw[lD]
  cases i with
  |zero=>cases hp;rw[if_pos e]
  |succ i=>
   rw[if_neg (h 0 q (Nat.succ_pos _) rfl)];exact ih (λj q' hj e'=>h (j+1) q' (by omega) e') hp
inductive Aj (K:W.Frag) (vs:List V) (H:Hp) (Q:V->Hp->Prop):Prop
 |mk (b:_) (x:_) (xs:_) (l:_) (h0:vs=[.ref b,.str x]) (h1:cJ K H b xs) (h2:FL H xs l) (h3:(∀k u,cZ l x=some k->KA H u k->Q u H)) (h4:(cZ l x=none->Q .non H)):Aj K vs H Q
def rl (K:W.Frag):Sp:=λvs H Q _=>Aj K vs H Q
inductive Ak (K:W.Frag) (vs:List V) (H:Hp) (Q:V->Hp->Prop):Prop
 |mk (b:_) (x:_) (xs:_) (l:_) (h0:vs=[.ref b,.str x]) (h1:cM K H b xs) (h2:FL H xs l) (h3:(∀k u,cZ l x=some k->KA H u k->Q u H)) (h4:(cZ l x=none->Q .non H)):Ak K vs H Q
def Al (K:W.Frag):Sp:=λvs H Q _=>Ak K vs H Q
abbrev rm (K:W.Frag):Sp:=λvs H Q E=>rl K vs H Q E\/Al K vs H Q E
inductive Am (K:W.Frag) (vs:List V) (H:Hp) (Q:V->Hp->Prop):Prop
 |mk (t:_) (p:_) (xs:_) (l:_) (ss:List Str) (h0:vs=[.ref t,.ref p]) (h1:cJ K H t xs) (h2:FL H xs l) (h3:l.length<=60) (h4:cM K H p (ss.map V.str)) (h5:∀r ys H',Same H H'->H r=none->H' r=some (.lst ys)->FL H' ys (dW ss l)->Q (.ref r) H'):Am K vs H Q
def uW (K:W.Frag):Sp:=λvs H Q _=>Am K vs H Q
inductive An (K:W.Frag) (vs:List V) (H:Hp) (Q:V->Hp->Prop):Prop
 |mk (t:_) (p:_) (xs:_) (l:_) (ss:List Str) (h0:vs=[.ref t,.ref p]) (h1:cM K H t xs) (h2:FL H xs l) (h3:l.length<=60) (h4:cM K H p (ss.map V.str)) (h5:∀r ys H',Same H H'->H r=none->H' r=some (.lst ys)->FL H' ys (dW ss l)->Q (.ref r) H'):An K vs H Q
def Ao (K:W.Frag):Sp:=λvs H Q _=>An K vs H Q
inductive Ap (K:W.Frag) (vs:List V) (H:Hp) (Q:V->Hp->Prop):Prop
 |mk (t:_) (p:_) (xs:_) (l:_) (ss:List Str) (h0:vs=[.ref t,.ref p]) (h1:cJ K H t xs) (h2:FL H xs l) (h3:l.length<=60) (h4:cM K H p (ss.map V.str)) (h5:∀r ys H',Same H H'->H r=none->H' r=some (.lst ys)->FL H' ys (bt ss l)->Q (.ref r) H'):Ap K vs H Q
def pN (K:W.Frag):Sp:=λvs H Q _=>Ap K vs H Q
variable {P:Program}{w:World}{K:W.Frag}{mg:Str->Option Value}{base:Heap}
theorem Hj (T:Tb mg)(Z:cW es K mg):Ok P w K mg base cH "kind_at" Xh (1) (rl K):=by
 refine Z.ok Xz (top 7) λvs H Q E h=>?_;obtain⟨b,x,xs,l,rfl,hb,hl,q1,q2⟩:=h;refine⟨rfl,λql f ae A outer s _ nd hr hu=>?_⟩
 refine⟨_,(cK (fR PassesOwn.never rfl (gR (pv 0)) (dy (i:=2) nd rfl d9) (cO (dq (di dO (cX (pv 2) cI) (pv 1) (c9 _)) (cO (cS (cX (pv 2) cI))) dt)))
  (cO (cS fF))),?_⟩
 ac_rfl
 refine⟨_,rfl,b,rfl,⟨_,hb⟩,lY (xs:=xs) (λi σ H'=>H'=H/\(∀j p,j<i->l[j]? =some p->p.1≠x)/\∃y,σ=[some (.ref b),some (.str x),y]) ⟨rfl,λj p hj=>absurd hj (Q1o _),_,rfl⟩ ?_ ?_ ?_⟩
 . rintro i σ H' _ ⟨rfl,_⟩;exact hb
 . rintro i yv σ H' hy ⟨rfl,aa,y,rfl⟩;obtain⟨p,hp,c,u,rfl,hc,hk⟩:=hl.at hy;refine⟨_,rfl,c,_,_,_,rfl,rfl,cJ.of hc,rfl,_,rfl,rfl,_,rfl,dz (λe=>?_) (λe=>?_)⟩
   . have e:p.1=x:=by have:=of_decide_eq_true e;injection this
     exact⟨_,rfl,c,_,_,_,rfl,rfl,cJ.of hc,rfl,q1 _ u (rj aa hp e) hk⟩
   . refine⟨rfl,λj p' hj e'=>?_,_,rfl⟩;by_cases ab:j=i
     . subst ab;rw[hp] at e';cases e';exact λz=>e (decide_eq_true (by rw[z]))
     . exact aa j p' (by omega) e'
 . rintro σ H' ⟨rfl,aa,y,rfl⟩;refine q2 (mE.mpr λz=>?_);obtain⟨p,hp,e⟩:=List.mem_map.mp z;obtain⟨j,hj,ej⟩:=Q0z hp;exact aa j p (by rw[hl.len];exact hj) (by rw[<-ej];exact Q03 hj) e
theorem Hk (T:Tb mg)(Z:cW es K mg):Ok P w K mg base cH "kind_at" Xh (1) (Al K):=by
 refine Z.ok Xz (top 7) λvs H Q E h=>?_;obtain⟨b,x,xs,l,rfl,hb,hl,q1,q2⟩:=h;refine⟨rfl,λql f ae A outer s _ nd hr hu=>?_⟩
 refine⟨_,(cK (fR PassesOwn.never rfl (k9 (pv 0)) (dy (i:=2) nd rfl d9) (cO (dq (di dO (cX (pv 2) cI) (pv 1) (c9 _)) (cO (cS (cX (pv 2) cI))) dt)))
  (cO (cS fF))),?_⟩
 ac_rfl
 refine⟨_,rfl,b,rfl,⟨_,hb⟩,sE (xs:=xs) (λi σ H'=>H'=H/\(∀j p,j<i->l[j]? =some p->p.1≠x)/\∃y,σ=[some (.ref b),some (.str x),y]) ⟨rfl,λj p hj=>absurd hj (Q1o _),_,rfl⟩ ?_ ?_ ?_⟩
 . rintro i σ H' _ ⟨rfl,_⟩;exact hb
 . rintro i yv σ H' hy ⟨rfl,aa,y,rfl⟩;obtain⟨p,hp,c,u,rfl,hc,hk⟩:=hl.at hy;refine⟨_,rfl,c,_,_,_,rfl,rfl,cJ.of hc,rfl,_,rfl,rfl,_,rfl,dz (λe=>?_) (λe=>?_)⟩
   . have e:p.1=x:=by have:=of_decide_eq_true e;injection this
     exact⟨_,rfl,c,_,_,_,rfl,rfl,cJ.of hc,rfl,q1 _ u (rj aa hp e) hk⟩
   . refine⟨rfl,λj p' hj e'=>?_,_,rfl⟩;by_cases ab:j=i
     . subst ab;rw[hp] at e';cases e';exact λz=>e (decide_eq_true (by rw[z]))
     . exact aa j p' (by omega) e'
 . rintro σ H' ⟨rfl,aa,y,rfl⟩;refine q2 (mE.mpr λz=>?_);obtain⟨p,hp,e⟩:=List.mem_map.mp z;obtain⟨j,hj,ej⟩:=Q0z hp;exact aa j p (by rw[hl.len];exact hj) (by rw[<-ej];exact Q03 hj) e
theorem Hl (T:Tb mg)(Z:cW es K mg):Ok P w K mg base cH "fields_among" XJ (1) (uW K):=by
 refine Z.ok XJ (top 30) λvs H Q E h=>?_;obtain⟨t,p,xs,l,ss,rfl,ht,hl,af,hs,q⟩:=h;refine⟨rfl,λql f ag A outer s _ nd hr hu=>?_⟩;refine⟨_,(cO (cS (ib (g:=(eG 0)) (tt:=(iG (d6 (mh K false) (d6 (gm K) (dF 0) (tC (.int 0))) (dF 2)))) (te:=(dF 0)) (own:=["pair"]) rfl (gD (N:=XJ) (sc:=eP (top 30))) (gR (pv 0)) (λ_ _ _ _ _=>(dy (i:=0) (show(YC:List Str).Nodup by decide +kernel) rfl (Or.inl rfl) (.inr rfl))) (λ_ _ _ _ _=>(ku (di qF (cX (pv 0) cI) (pv 2) (by with_unfolding_all rfl)))) (λ_ _ _ _ _=>(pv 0))))),?_⟩
 ac_rfl
 have ah:=hl.len;refine⟨_,rfl,t,rfl,⟨_,ht⟩,λi m ys H'=>H'=H/\m=xs.length - i/\i<=xs.length/\FL H ys (dW ss (l.take i))/\ys.length<=i,⟨xs.length,rfl,by simp,Q0c _,.nil,Q0 _⟩,?_⟩;rintro i m ys H' ⟨rfl,rfl,hi,aa,ai⟩;by_cases ab:i<xs.length
 . refine .inr ⟨⟨xs,xs[i],ht,Q03 ab⟩,eE (by omega),λx H' y=>?_⟩;obtain⟨rfl,y⟩:=y;have hv:=y xs ht;obtain⟨pp,ae,c,u,rfl,hc,hk⟩:=hl.at hv
   have step:dW ss (l.take (i+1))=dW ss (l.take i)++(if pp.1∈ss then [pp] else []):=by
    unfold dW;rw[Q0p,ae,Q24];congr 1;show List.filter _ [pp]=_;rw[Q0u];by_cases e:pp.1∈ss
    . rw[if_pos (decide_eq_true e),if_pos e];rfl
    . rw[if_neg (by rw[decide_eq_false e];decide),if_neg e];rfl
   refine⟨rfl,_,rfl,c,_,_,_,rfl,rfl,cJ.of hc,rfl,_,rfl,p,_,rfl,.inl hs,rfl,kR,_,rfl,?_⟩;refine dz (λcc=>?_) (λcc=>?_)
   . have e:pp.1∈ss:=of_decide_eq_true (iI.symm.trans (show inV (V.str pp.1) (ss.map V.str)=true from cc));refine⟨_,rfl,xs.length - (i+1),by omega,rfl,rfl,ab,?_,by rw[Q0d];show _+1<=_;omega⟩;rw[step,if_pos e];exact aa.snoc ⟨c,u,rfl,hc,hk⟩
   . have e:¬pp.1∈ss:=λz=>cc (show inV (V.str pp.1) (ss.map V.str)=true from iI.trans (decide_eq_true z));refine⟨xs.length - (i+1),by omega,rfl,rfl,ab,?_,by omega⟩;rw[step,if_neg e,Q19];exact aa
 . refine .inl ⟨⟨xs,ht,Q0y ab⟩,λp hp=>?_⟩;rw[Q0x (by omega)] at aa;exact q p _ _ (Same.new hp) hp cV (aa.mono (Tu.of (Same.new hp)))
theorem Hm (T:Tb mg)(Z:cW es K mg):Ok P w K mg base cH "fields_among" XJ (1) (Ao K):=by
 refine Z.ok XJ (top 30) λvs H Q E h=>?_;obtain⟨t,p,xs,l,ss,rfl,ht,hl,af,hs,q⟩:=h;refine⟨rfl,λql f ag A outer s _ nd hr hu=>?_⟩;refine⟨_,(cO (cS (ib (g:=(eG 0)) (tt:=(iG (d6 (mh K false) (d6 (gm K) (dF 0) (tC (.int 0))) (dF 2)))) (te:=(dF 0)) (own:=["pair"]) rfl (gD (N:=XJ) (sc:=eP (top 30))) (k9 (pv 0)) (λ_ _ _ _ _=>(dy (i:=0) (show(YC:List Str).Nodup by decide +kernel) rfl (Or.inl rfl) (.inr rfl))) (λ_ _ _ _ _=>(ku (di qF (cX (pv 0) cI) (pv 2) (by with_unfolding_all rfl)))) (λ_ _ _ _ _=>(pv 0))))),?_⟩
 ac_rfl
 have ah:=hl.len;refine⟨_,rfl,t,rfl,⟨_,ht⟩,λi m ys H'=>H'=H/\m=xs.length - i/\i<=xs.length/\FL H ys (dW ss (l.take i))/\ys.length<=i,⟨xs.length,rfl,by simp,Q0c _,.nil,Q0 _⟩,?_⟩;rintro i m ys H' ⟨rfl,rfl,hi,aa,ai⟩;by_cases ab:i<xs.length
 . refine .inr ⟨⟨xs,xs[i],ht,Q03 ab⟩,eE (by omega),λx H' y=>?_⟩;obtain⟨rfl,y⟩:=y;have hv:=y xs ht;obtain⟨pp,ae,c,u,rfl,hc,hk⟩:=hl.at hv
   have step:dW ss (l.take (i+1))=dW ss (l.take i)++(if pp.1∈ss then [pp] else []):=by
    unfold dW;rw[Q0p,ae,Q24];congr 1;show List.filter _ [pp]=_;rw[Q0u];by_cases e:pp.1∈ss
    . rw[if_pos (decide_eq_true e),if_pos e];rfl
    . rw[if_neg (by rw[decide_eq_false e];decide),if_neg e];rfl
   refine⟨rfl,_,rfl,c,_,_,_,rfl,rfl,cJ.of hc,rfl,_,rfl,p,_,rfl,.inl hs,rfl,kR,_,rfl,?_⟩;refine dz (λcc=>?_) (λcc=>?_)
   . have e:pp.1∈ss:=of_decide_eq_true (iI.symm.trans (show inV (V.str pp.1) (ss.map V.str)=true from cc));refine⟨_,rfl,xs.length - (i+1),by omega,rfl,rfl,ab,?_,by rw[Q0d];show _+1<=_;omega⟩;rw[step,if_pos e];exact aa.snoc ⟨c,u,rfl,hc,hk⟩
   . have e:¬pp.1∈ss:=λz=>cc (show inV (V.str pp.1) (ss.map V.str)=true from iI.trans (decide_eq_true z));refine⟨xs.length - (i+1),by omega,rfl,rfl,ab,?_,by omega⟩;rw[step,if_neg e,Q19];exact aa
 . refine .inl ⟨⟨xs,ht,Q0y ab⟩,λp hp=>?_⟩;rw[Q0x (by omega)] at aa;exact q p _ _ (Same.new hp) hp cV (aa.mono (Tu.of (Same.new hp)))
theorem Hn (T:Tb mg)(Z:cW es K mg):Ok P w K mg base cH "fields_but" XJ (1) (pN K):=by
 refine Z.ok XJ (top 31) λvs H Q E h=>?_;obtain⟨t,p,xs,l,ss,rfl,ht,hl,af,hs,q⟩:=h;refine⟨rfl,λql f ag A outer s _ nd hr hu=>?_⟩;refine⟨_,(cO (cS (ib (g:=(eG 0)) (tt:=(iG (d6 (mh K true) (d6 (gm K) (dF 0) (tC (.int 0))) (dF 2)))) (te:=(dF 0)) (own:=["pair"]) rfl (gD (N:=XJ) (sc:=eP (top 31))) (gR (pv 0)) (λ_ _ _ _ _=>(dy (i:=0) (show(YC:List Str).Nodup by decide +kernel) rfl (Or.inl rfl) (.inr rfl))) (λ_ _ _ _ _=>(ku (di qG (cX (pv 0) cI) (pv 2) (by with_unfolding_all rfl)))) (λ_ _ _ _ _=>(pv 0))))),?_⟩
 ac_rfl
 have ah:=hl.len;refine⟨_,rfl,t,rfl,⟨_,ht⟩,λi m ys H'=>H'=H/\m=xs.length - i/\i<=xs.length/\FL H ys (bt ss (l.take i))/\ys.length<=i,⟨xs.length,rfl,by simp,Q0c _,.nil,Q0 _⟩,?_⟩;rintro i m ys H' ⟨rfl,rfl,hi,aa,ai⟩;by_cases ab:i<xs.length
 . refine .inr ⟨⟨xs,xs[i],ht,Q03 ab⟩,eE (by omega),λx H' y=>?_⟩;obtain⟨rfl,y⟩:=y;have hv:=y xs ht;obtain⟨pp,ae,c,u,rfl,hc,hk⟩:=hl.at hv
   have step:bt ss (l.take (i+1))=bt ss (l.take i)++(if pp.1 ∉ ss then [pp] else []):=by
    unfold bt;rw[Q0p,ae,Q24];congr 1;show List.filter _ [pp]=_;rw[Q0u];by_cases e:pp.1 ∉ ss
    . rw[if_pos (decide_eq_true e),if_pos e];rfl
    . rw[if_neg (by rw[decide_eq_false e];decide),if_neg e];rfl
   refine⟨rfl,_,rfl,c,_,_,_,rfl,rfl,cJ.of hc,rfl,_,rfl,p,_,rfl,.inl hs,rfl,kR,_,rfl,?_⟩;refine dz (λcc=>?_) (λcc=>?_)
   . have e:pp.1 ∉ ss:=λz=>by rw[show inV (V.str pp.1) (ss.map V.str)=true from iI.trans (decide_eq_true z)] at cc;cases cc
     refine⟨_,rfl,xs.length - (i+1),by omega,rfl,rfl,ab,?_,by rw[Q0d];show _+1<=_;omega⟩;rw[step,if_pos e];exact aa.snoc ⟨c,u,rfl,hc,hk⟩
   . have e:¬pp.1 ∉ ss:=λz=>cc (by rw[show inV (V.str pp.1) (ss.map V.str)=false from iI.trans (decide_eq_false z)];rfl);refine⟨xs.length - (i+1),by omega,rfl,rfl,ab,?_,by omega⟩;rw[step,if_neg e,Q19];exact aa
 . refine .inl ⟨⟨xs,ht,Q0y ab⟩,λp hp=>?_⟩;rw[Q0x (by omega)] at aa;exact q p _ _ (Same.new hp) hp cV (aa.mono (Tu.of (Same.new hp)))
abbrev Ho:R2:=λx y H Q=>y=.non/\Q (.bl (!decide (x=.non))) H
theorem Hq (ss:List Str):((List.range ss.length).map λi=>(Sum.inr (ss.getD i ""):Key))=ss.map Sum.inr:=by
 refine Q2d (by simp) λi h1 h2=>?_;have hi:i<ss.length:=by simpa using h2
 rw[Q2c,List.getElem_range,Q2c,Q0f,Q03 hi];rfl
theorem cM.mI(h:cM K H l xs)(s:Same H H'):cM K H' l xs:=by
 rcases h with(h|⟨o,h⟩)|h
 . exact .inl (.inl (s _ _ h))
 . exact .inl (.inr ⟨o,s _ _ h⟩)
 . exact .inr h
theorem Aq:∀{n:Nat},(fO v n).length=n->((List.range n).map v).Nodup
 |0,_=>Q0s
 |n+1,h=>by
  have h:(stepK (fO v n) (v n)).length=n+1:=h;rw[Ac] at h;have hle:=uR v n;split at h
  . omega
  . rename_i aa;have ih:=Aq (v:=v) (n:=n) (by omega);have hm:v n ∉ (List.range n).map v:=λz=>aa (Ad.mpr (by rw[uS ih];exact z));rw[Q2j,Q0h];exact List.nodup_append.mpr ⟨ih,List.nodup_cons.mpr ⟨λz=>(nomatch z),Q0s⟩,λx hx y hy e=>hm (by rw[<-List.mem_singleton.mp hy,<-e];exact hx)⟩
theorem Ar (ss:List Str):(fO (λi=>(Sum.inr (ss.getD i ""):Key)) ss.length).length=ss.length↔ss.Nodup:=by
 have e:=Hq ss;constructor
 . intro h;have:=Aq h;rw[e] at this;exact List.Pairwise.imp (λ{a b} h z=>h (by rw[z])) (List.pairwise_map.mp this)
 . intro h
   have hn:((List.range ss.length).map λi=>(Sum.inr (ss.getD i ""):Key)).Nodup:=by
    rw[e];exact List.Pairwise.map _ (λa b h z=>h (Sum.inr.inj z)) h
   rw[uS hn,Q01,Q1p]
inductive As (K:W.Frag) (vs:List V) (H:Hp) (Q:V->Hp->Prop):Prop
 |mk (t:_) (xs:_) (l:_) (h0:vs=[.ref t]) (h1:cJ K H t xs) (h2:FL H xs l) (h3:l.length<=60) (h4:∀r H',Same H H'->H r=none->H' r=some (.lst ((cR l).map V.str))->Q (.ref r) H'):As K vs H Q
def uX (K:W.Frag):Sp:=λvs H Q _=>As K vs H Q
inductive Au (vs:List V) (H:Hp) (Q:V->Hp->Prop):Prop
 |mk (kv:_) (k:_) (x:_) (h0:vs=[kv,.str x]) (h1:KA H kv k) (h2:(∀q u,(du k).bind (λl=>cZ l x)=some q->KA H u q->Q u H)) (h3:((du k).bind (λl=>cZ l x)=none->Q .non H)):Au vs H Q
def lH (K:W.Frag):Sp:=λvs H Q _=>Au vs H Q
noncomputable def lI (ss:List Str) (k:Kd):Bool:=(du k).elim false (once ss)
inductive Av (K:W.Frag) (vs:List V) (H:Hp) (Q:V->Hp->Prop):Prop
 |mk (kv:_) (k:_) (p:_) (ss:List Str) (h0:vs=[kv,.ref p]) (h1:KA H kv k) (h2:cM K H p (ss.map V.str)) (h3:ss.length<=60) (h4:∀H',Same H H'->Q (.bl (lI ss k)) H'):Av K vs H Q
def uY (K:W.Frag):Sp:=λvs H Q _=>Av K vs H Q
def mJ:Sp:=λvs H Q _=>vs=[.bl true]/\Q .non H
theorem Hr (T:Tb mg)(Z:cW es K mg):Ok P w K mg base cH "names_of" ["fields"] (1) (uX K):=by
 refine Z.ok ["fields"] (top 32) λvs H Q E h=>?_;obtain⟨t,xs,l,rfl,ht,hl,ae,q⟩:=h;refine⟨rfl,λql f af A outer s _ nd hr hu=>?_⟩;refine⟨_,(cO (cS (ib (g:=(oJ K 2 (j7 (eG 0) (j7 (eG 1) oI)))) (tt:=jk) (te:=(dF 0)) (own:=["name","inner"]) rfl (gD (N:=["fields"]) (sc:=eP (top 32))) (gR (pv 0)) (λ_ _ _ _ _=>(hZ rfl (eY (dy (i:=0) (show(["name","inner","fields"]:List Str).Nodup by decide +kernel) rfl (Or.inl rfl) (.inr rfl)) (eY (dy (i:=1) (show(["name","inner","fields"]:List Str).Nodup by decide +kernel) rfl (Or.inl rfl) (.inr rfl)) hX)))) (λ_ _ _ _ _=>kr) (λ_ _ _ _ _=>(pv 0))))),?_⟩
 ac_rfl
 have ag:=hl.len;refine⟨_,rfl,t,rfl,⟨_,ht⟩,λi m ys H'=>H'=H/\m=xs.length - i/\i<=xs.length/\ys=(cR (l.take i)).map V.str,⟨xs.length,rfl,by simp,Q0c _,rfl⟩,?_⟩;rintro i m ys H' ⟨rfl,rfl,hi,rfl⟩;by_cases aa:i<xs.length
 . refine .inr ⟨⟨xs,xs[i],ht,Q03 aa⟩,eE (by unfold cR;rw[Q01,Q01,Q0n];omega),λx H' y=>?_⟩;obtain⟨rfl,y⟩:=y;obtain⟨pp,ab,c,u,rfl,hc,hk⟩:=hl.at (y xs ht);refine⟨c,_,rfl,cJ.of hc,rfl,_,_,rfl,_,_,rfl,rfl,rfl,yes (fo ?_)⟩;refine⟨_,rfl,xs.length - (i+1),by omega,rfl,rfl,aa,?_⟩;unfold cR;rw[Q0p,ab,Q0h,Q0h];rfl
 . refine .inl ⟨⟨xs,ht,Q0y aa⟩,λp hp=>?_⟩;rw[Q0x (by omega)];exact q p _ (Same.new hp) hp cV
theorem Hs (T:Tb mg)(Z:cW es K mg)(aa:Ok P w K mg base cH "kind_at" Xh (1) (rm K)):Ok P w K mg base cH "field_kind" XY (2) (lH K):=by
 refine Z.ok XY (top 28) λvs H Q E h=>?_;obtain⟨kv,k,x,rfl,hk,q1,q2⟩:=h;refine⟨rfl,λql f ab A outer s _ nd hr hu=>?_⟩;refine⟨_,(cO (cS (sj (di dO (cX (pv 0) cI) d0 (c9 _)) (cT aa hr (a_ (cX (pv 0) cI) (a_ (pv 1) cG))) fF))),?_⟩
 ac_rfl
 cases e:du k with
 |some l=>
  rw[e] at q1 q2;obtain⟨kk,t,xs,rfl,h1,h2,h3⟩:=hk.ig e;refine⟨_,rfl,kk,_,_,_,rfl,rfl,cJ.of h1,rfl,rfl,_,rfl,?_⟩;rw[decide_eq_true rfl];refine fo ?_;exact⟨_,rfl,kk,_,_,_,rfl,rfl,cJ.of h1,rfl,_,rfl,.inl ⟨t,x,xs,l,rfl,cJ.of h2,h3,λk u=>q1 k u,q2⟩⟩
 |none=>
  rw[e] at q2;obtain⟨kk,f,rest,rfl,h1,h2⟩:=hk.other e;refine⟨_,rfl,kk,_,_,_,rfl,rfl,cJ.of h1,fe (j:=0) rfl,rfl,_,rfl,?_⟩;rw[decide_eq_false (show ¬V.str f=V.str "record" from λz=>h2 (by injection z))];exact dX (q2 rfl)
theorem Hu (T:Tb mg)(Z:cW es K mg)(aa:Ok P w K mg base cH "kind_at" Xh (1) (rm K)):Ok P w K mg base cH "has_each_once" Xr (3) (uY K):=by
 refine Z.ok Xr (top 29) λvs H Q E h=>?_;obtain⟨kv,k,pl,ss,rfl,hk,hl,ai,q⟩:=h;refine⟨rfl,λql f aj A outer s _ nd hr hu=>?_⟩
 refine⟨_,(cK (dq (di gH (dG Hc (by rfl) T.eT PySem.boot_len (a_ (jG (Hb rfl) (by rfl) T.Gy boot_set (a_ (pv 1) cG)) cG)) (dG fC (by rfl) T.eT PySem.boot_len (a_ (pv 1) cG)) (c9 _)) (cO (cS f9)) dt)
  (cO (cS (jE (fX dO (cX (pv 0) cI) d0 (c9 _)) (j4 (dG (o5 rfl) (by rfl) T.pE boot_all (a_ (ib (g:=(eG 0)) (tt:=jk) (te:=(d6 Ho (kg _ _ _ (fA (d6 (gm K) (dF 1) (tC (.int 1))) (fA (dF 0) gU))) (tC .non))) (own:=["name"]) rfl (gD (N:=Xr) (sc:=eP (top 29))) (k9 (pv 1)) (λ_ _ _ _ _=>(dy (i:=0) (show(["name","kind","names"]:List Str).Nodup by decide +kernel) rfl (Or.inl rfl) (.inr rfl))) (λ_ _ _ _ _=>kr) (λ_ _ _ _ _=>(fX jj (cT aa hr (a_ (cX (pv 1) cI) (a_ (pv 0) cG))) fF (c9 _)))) cG))))))),?_⟩
 ac_rfl
 refine⟨_,rfl,pl,ss,rfl,hl,by omega,λp hp=>?_⟩;generalize af:upd H p _=H1;have s1:Same H H1:=af ▸ Same.new hp;have e1:H1 p=some (uT P w p (fO (λi=>Sum.inr (ss.getD i "")) ss.length).length):=by rw[<-af];exact cV
 clear af;have ab:=Pb.cM.mI hl s1;have ag:=hk.mono (Tu.of s1);refine⟨p,_,rfl,e1,?_⟩;refine⟨_,rfl,pl,_,rfl,.inl ab,rfl,_,rfl,?_⟩;by_cases hn:ss.Nodup
 . refine lb (by rw[(Ar ss).mpr hn,Q01]) ?_
   cases e:du k with
   |none=>
    obtain⟨kk,f,rest,rfl,h1,h2⟩:=ag.other e;refine⟨_,rfl,kk,_,_,_,rfl,rfl,cJ.of h1,fe (j:=0) rfl,rfl,_,rfl,?_⟩;rw[decide_eq_false (show ¬V.str f=V.str "record" from λz=>h2 (by injection z))];refine dX ?_;have:=q H1 s1;unfold lI at this;rw[e] at this;exact this
   |some l=>
    obtain⟨kk,t,xs,rfl,h1,h2,h3⟩:=ag.ig e
    have q':∀H',Same H H'->Q (.bl (ss.all λx=>(cZ l x).isSome)) H':=λH' s'=>by
     have:=q H' s';unfold lI once at this;rw[e] at this;rw[show(some l).elim false (λl=>decide ss.Nodup && ss.all λx=>(cZ l x).isSome)=(decide ss.Nodup && ss.all λx=>(cZ l x).isSome) from rfl,decide_eq_true hn,Bool.true_and] at this;exact this
    refine⟨_,rfl,kk,_,_,_,rfl,rfl,cJ.of h1,rfl,rfl,_,rfl,?_⟩;rw[decide_eq_true rfl];refine fo ?_;refine⟨_,rfl,pl,rfl,⟨_,ab⟩,λi m ys H'=>H'=H1/\m=ss.length - i/\i<=ss.length/\ys=((ss.take i).map λx=>(cZ l x).isSome).map V.bl,⟨ss.length,rfl,by simp,Q0c _,rfl⟩,?_⟩;rintro i m ys H' ⟨rfl,rfl,hi,rfl⟩;by_cases ae:i<ss.length
    . refine .inr ⟨⟨_,.str ss[i],ab,by rw[Q0g,Q03 ae];rfl⟩,by rw[Q01,Q01,Q0n];exact eE (by omega),λx H' y=>?_⟩;obtain⟨rfl,y⟩:=y;have hx:=y _ ab
      have ex:x=.str ss[i]:=by
       rw[Q0g,Q03 ae] at hx;exact(Option.some.inj hx).symm
      subst ex
      have step:((ss.take (i+1)).map λx=>(cZ l x).isSome).map V.bl=((ss.take i).map λx=>(cZ l x).isSome).map V.bl++[.bl (cZ l ss[i]).isSome]:=by
       rw[Q0p,Q03 ae,Q0h,Q0h];rfl
      refine⟨rfl,yes (fo ?_)⟩;refine⟨_,rfl,kk,_,_,_,rfl,rfl,cJ.of h1,rfl,_,rfl,.inl ⟨t,ss[i],xs,l,rfl,cJ.of h2,h3,λk u ek hu=>⟨rfl,?_⟩,λen=>⟨rfl,?_⟩⟩⟩
      . rw[decide_eq_false hu.nn];refine⟨ss.length - (i+1),by omega,rfl,rfl,ae,?_⟩;rw[step,ek];rfl
      . rw[decide_eq_true rfl];refine⟨ss.length - (i+1),by omega,rfl,rfl,ae,?_⟩;rw[step,en];rfl
    . have ei:i=ss.length:=by omega
      subst ei;rw[Q1r];refine .inl ⟨⟨_,ab,by rw[Q01];exact Q0 _⟩,λp hp=>⟨p,ss.map λx=>(cZ l x).isSome,rfl,cM.of cV,?_⟩⟩;have:=q' _ (s1.trans (Same.new hp (o:=.lst ((ss.map λx=>(cZ l x).isSome).map V.bl))));rw[List.all_map];exact this
 . have ah:¬V.int ((fO (λi=>(Sum.inr (ss.getD i ""):Key)) ss.length).length:Nat)=V.int ((ss.map V.str).length:Nat):=λz=>by
    rw[Q01] at z;injection z with z
    exact hn ((Ar ss).mp (by omega))
   rw[decide_eq_false ah];refine fo ?_;have:=q H1 s1;unfold lI once at this;rw[decide_eq_false hn] at this
   cases e:du k with
   |none=>rw[e] at this;exact this
   |some l=>rw[e] at this;exact this
theorem Hv (T:Tb mg)(Z:cW es K mg):Ok P w K mg base cH "ask_stands" ["stands"] (1) (mJ):=by
 refine Z.ok ["stands"] (top 21) λvs H Q E h=>?_;obtain⟨rfl,q⟩:=h;refine⟨rfl,λql f aa A outer s _ nd hr hu=>?_⟩;refine⟨_,(cO (dq (f_ (fJ (pv 0))) (cO su) dt)),?_⟩
 ac_rfl
 exact⟨_,rfl,true,rfl,dX q⟩
end Pb
namespace Pb
open L2
theorem rq {K:PySem.W.Frag}{a:Addr}{xs:List V}{g:TG}{tb:TS}{D:Ends}{σ:L2.St}(Pv:Nat->L2.St->Hp->Prop)(h0:Pv 0 σ H)(hl:∀i σ H,i<=xs.length->Pv i σ H->cM K H a xs)
 (hs:∀(i:Nat) y σ H p,xs[i]? =some y->Pv i σ H->H p=none->g (.ref p) σ (upd H p (.tup [.int i,y])) λaa H2=>tb { D with nx:=Pv (i+1),ct:=Pv (i+1),bk:=D.nx } aa H2) (hd:∀σ H,Pv xs.length σ H->D.nx σ H):
 ∃W:Nat->Nat->L2.St->Hp->Prop,(∃m,W 0 m σ H)/\∀i m σ H,W i m σ H->
  ((Ite K a).stop i H/\D.nx σ H)\/((Ite K a).go i H/\∃N:L2.St->Hp->Prop,(∀ab H',N ab H'->∃m',m'<m/\W (i+1) m' ab H')/\∀x H',(Ite K a).iP i H x H'->g x σ H' λaa H2=>tb { D with nx:=N,ct:=N,bk:=D.nx } aa H2):=by
 refine⟨λi m σ H=>m=xs.length - i/\i<=xs.length/\Pv i σ H,⟨xs.length,by simp,Q0c _,h0⟩,?_⟩;rintro i m σ H ⟨rfl,hi,p⟩;by_cases ae:i<xs.length
 . refine .inr ⟨⟨xs,xs[i],hl i σ H hi p,by simp[ae]⟩,Pv (i+1),λab H' p'=>⟨xs.length - (i+1),by omega,rfl,ae,p'⟩,λx H' y=>?_⟩;obtain⟨q,y,hq,rfl,hy,rfl⟩:=y;exact hs i y σ H q (hy xs (hl i σ H hi p)) p hq
 . have e:i=xs.length:=by omega
   subst e;exact .inl ⟨⟨xs,hl _ σ H (Q0 _) p,Q0 _⟩,hd σ H p⟩
theorem Aw {α:Type}{l:List α}{x:α}(h:l[l.length - 1]? =some x):fS l (-1)=some x:=by
 have hl:=(List.getElem?_eq_some_iff.mp h).1;unfold fS jH;rw[if_neg (by decide),if_pos (by omega)];show l[((-1:Int)+(l.length:Int)).toNat]? =_;rw[show((-1:Int)+(l.length:Int)).toNat=l.length - 1 by omega];exact h
theorem Fs.get_mem:∀{fs:Fs}{x:Str}{k:Kd},fs.get x=some k->x∈fs.names
 | .nil,_,_,h=>by cases h
 | .cons y q r,x,k,h=>by
   have h:(if x=y then some q else r.get x)=some k:=h;by_cases e:x=y
   . rw[e];exact Q04
   . rw[if_neg e] at h;exact Q09 _ (Fs.get_mem h)
theorem uZ:∀{fs:Fs}{x:Str}{v:D},iX fs x v->∃k,fs.get x=some k/\d8 k v
 | .nil,_,_,h=>by unfold iX at h;exact h.elim
 | .cons y k r,x,v,h=>by
   unfold iX at h;rcases h with⟨e,f⟩|⟨e,h⟩
   . exact⟨k,by show(if x=y then some k else r.get x)=_;rw[if_pos e],f⟩
   . obtain⟨k',g1,g2⟩:=uZ h;exact⟨k',by show(if x=y then some k else r.get x)=_;rw[if_neg e];exact g1,g2⟩
theorem Fs.u3:∀{fs:Fs}{x:Str}{k:Kd},fs.W->fs.get x=some k->k.W
 | .nil,_,_,_,h=>by cases h
 | .cons y q r,x,k,w,h=>by
   unfold Fs.W at w;have h:(if x=y then some q else r.get x)=some k:=h;by_cases e:x=y
   . rw[if_pos e] at h;cases h;exact w.1
   . rw[if_neg e] at h;exact Fs.u3 w.2 h
inductive Ax (vs:List V) (H:Hp) (Q:V->Hp->Prop):Prop
 |mk (b:_) (x:_) (xs:_) (fs:_) (k:_) (h0:vs=[.ref b,.str x]) (h1:H b=some (.tup xs)) (h2:FA H xs fs) (h3:fs.names.Nodup) (h4:fs.get x=some k) (h5:∀u,KA H u k->u≠ .non->Q u H):Ax vs H Q
def Ay:Sp:=λvs H Q _=>Ax vs H Q
inductive Az (vs:List V) (H:Hp) (Q:V->Hp->Prop):Prop
 |mk (a:_) (x:_) (y:_) (h0:vs=[.ref a]) (h1:H a=some (.tup [x,y])) (h2:Q (.bl true) H):Az vs H Q
def u4:Sp:=λvs H Q _=>Az vs H Q
inductive AB (vs:List V) (H:Hp) (Q:V->Hp->Prop):Prop
 |mk (b:_) (a:_) (xs:_) (kvs:_) (fs:_) (m:_) (fp:_) (h0:vs=[.ref b,.ref a]) (h1:H b=some (.tup xs)) (h2:FA H xs fs) (h3:fs.names.Nodup) (h4:fs.names.length<=60) (h5:H a=some (.dK kvs)) (h6:dk H kvs m fp) (h7:lC fs m) (h8:∀H',Same H H'->Q (.bl true) H'):AB vs H Q
def AD:Sp:=λvs H Q _=>AB vs H Q
inductive AE (n:Nat) (vs:List V) (H:Hp) (Q:V->Hp->Prop):Prop
 |mk (kv:_) (v:_) (k:_) (d:_) (fp:_) (h0:vs=[kv,v]) (h1:KA H kv k) (h2:k.W) (h3:Own H v d fp) (h4:dm k d) (h5:d.dep<=n) (h6:d.Sm) (h7:∀H',Same H H'->Q .non H'):AE n vs H Q
def mK (n:Nat):Sp:=λvs H Q _=>AE n vs H Q
inductive AG (n:Nat) (vs:List V) (H:Hp) (Q:V->Hp->Prop):Prop
 |mk (b:_) (a:_) (xs:_) (kvs:_) (fs:_) (m:_) (fp:_) (h0:vs=[.ref b,.ref a]) (h1:H b=some (.tup xs)) (h2:FA H xs fs) (h3:fs.names.Nodup) (h4:fs.names.length<=60) (h5:fs.W) (h6:H a=some (.dK kvs)) (h7:dk H kvs m fp) (h8:lC fs m) (h9:m.dep<=n) (h10:m.Sm) (h11:∀H',Same H H'->Q .non H'):AG n vs H Q
def u5 (n:Nat):Sp:=λvs H Q _=>AG n vs H Q
inductive AH (n:Nat) (vs:List V) (H:Hp) (Q:V->Hp->Prop):Prop
 |mk (pk:_) (pb:_) (a:_) (xs:_) (key:_) (by_:_) (fs:_) (ys:_) (rs:_) (fl:_) (h0:vs=[.ref pk,.ref a]) (h1:H pk=some (.tup [.str "rows",.str key,.str by_,.ref pb])) (h2:H pb=some (.tup xs)) (h3:FA H xs fs) (h4:(Kd.rows key by_ fs).W) (h5:H a=some (.lst ys)) (h6:fg H ys rs fl) (h7:(∀m∈rs,kG fs m)) (h8:rs.Pairwise (nA key by_)) (h9:(rs.map λm=>keyOf m key).Nodup) (h10:(∀m∈rs,m.dep<=n)) (h11:(∀m∈rs,m.Sm)) (h12:ys.length<=100) (h13:∀H',Same H H'->Q .non H'):AH n vs H Q
def AI (n:Nat):Sp:=λvs H Q _=>AH n vs H Q
inductive AJ (n:Nat) (vs:List V) (H:Hp) (Q:V->Hp->Prop):Prop
 |mk (a:_) (u:_) (v:_) (k:_) (d:_) (fp:_) (h0:vs=[.ref a,v]) (h1:H a=some (.tup [.str "tree",u])) (h2:KA H u k) (h3:k.W) (h4:Own H v d fp) (h5:Tree (jQ k) d) (h6:d.dep<=n) (h7:d.Sm) (h8:∀H',Same H H'->Q .non H'):AJ n vs H Q
def pO (n:Nat):Sp:=λvs H Q _=>AJ n vs H Q
inductive AK (n:Nat) (vs:List V) (H:Hp) (Q:V->Hp->Prop):Prop
 |mk (b:_) (t:_) (x:_) (v:_) (xs:_) (fs:_) (d:_) (fp:_) (h0:vs=[.ref b,.ref t]) (h1:H b=some (.tup xs)) (h2:FA H xs fs) (h3:fs.names.Nodup) (h4:fs.W) (h5:H t=some (.tup [.str x,v])) (h6:Own H v d fp) (h7:iX fs x d) (h8:d.dep<=n) (h9:d.Sm) (h10:∀H',Same H H'->Q .non H'):AK n vs H Q
def AM (n:Nat):Sp:=λvs H Q _=>AK n vs H Q
variable {P:Program}{w:World}{K:W.Frag}{mg:Str->Option Value}{base:Heap}
theorem KA.Hw:∀{u:V}{k:Kd},KA H u k->u≠ .non
 |_,.num,h=>by unfold KA at h;obtain⟨a,rfl,_⟩:=h;intro z;cases z
 |_,.eu,h=>by unfold KA at h;obtain⟨a,rfl,_⟩:=h;intro z;cases z
 |_,.c8 _,h=>by unfold KA at h;obtain⟨a,b,vs,rfl,_⟩:=h;intro z;cases z
 |_,.rows _ _ _,h=>by unfold KA at h;obtain⟨a,b,vs,rfl,_⟩:=h;intro z;cases z
 |_,.tree _,h=>by unfold KA at h;obtain⟨a,b,rfl,_⟩:=h;intro z;cases z
 |_,.e8 _,h=>by unfold KA at h;obtain⟨a,b,vs,rfl,_⟩:=h;intro z;cases z
theorem Hx (T:Tb mg)(Z:cW es K mg):Ok P w K mg base cH "kind_at" Xh (1) (Ay):=by
 refine Z.ok Xz (top 7) λvs H Q E h=>?_;obtain⟨b,x,xs,fs,k,rfl,hb,ae,ag,aa,q⟩:=h;refine⟨rfl,λql f ai A outer s _ nd hr hu=>?_⟩
 refine⟨_,(cK (fR PassesOwn.never rfl (gR (pv 0)) (dy (i:=2) nd rfl d9) (cO (dq (di dO (cX (pv 2) cI) (pv 1) (c9 _)) (cO (cS (cX (pv 2) cI))) dt)))
  (cO (cS fF))),?_⟩
 ac_rfl
 refine⟨_,rfl,b,rfl,⟨_,cJ.of hb⟩,lY (xs:=xs) (λi σ H'=>H'=H/\(∃z,σ=[some (.ref b),some (.str x),z])/\∀j,j<i->fs.names[j]? ≠some x) ⟨rfl,⟨_,rfl⟩,λj hj=>absurd hj (by omega)⟩ ?_ ?_ ?_⟩
 . rintro i σ H' _ ⟨rfl,_⟩;exact cJ.of hb
 . rintro i v σ H' hv ⟨rfl,⟨z,rfl⟩,ab⟩;obtain⟨c,u,nm,k',rfl,af,hc,hk⟩:=FA.get fs ae hv;have ah:fs.names[i]? =some nm:=by rw[Fs.lh,af];rfl
   refine⟨_,rfl,c,_,_,_,rfl,rfl,cJ.of hc,rfl,_,rfl,rfl,_,rfl,dz (λcc=>?_) (λcc=>?_)⟩
   . have e:nm=x:=by
      have:=of_decide_eq_true cc;injection this
     subst e;have ek:=Fs.nz ag af;rw[aa] at ek
     cases ek;exact⟨_,rfl,c,_,_,_,rfl,rfl,cJ.of hc,rfl,q u hk hk.Hw⟩
   . refine⟨rfl,⟨_,rfl⟩,λj hj=>?_⟩;by_cases e:j<i
     . exact ab j e
     . have:j=i:=by omega
       subst this;rw[ah];intro z
       cases z;exact cc (decide_eq_true rfl)
 . rintro σ H' ⟨rfl,_,ab⟩;obtain⟨j,hj,e⟩:=Q0z (Fs.get_mem aa);exact absurd (by rw[Q03 hj,e]) (ab j (by rw[FA.len fs ae];exact hj))
theorem Hy (T:Tb mg)(Z:cW es K mg):Ok P w K mg base cH "is_pair" ["value"] (1) (u4):=by
 refine Z.ok ["value"] (top 15) λvs H Q E h=>?_;obtain⟨a,x,y,rfl,ha,q⟩:=h;refine⟨rfl,λql f aa A outer s _ nd hr hu=>?_⟩;refine⟨_,(cO (cS (jE (dG gW (by rfl) T.gX boot_isinstance (a_ (pv 0) (a_ (gP (v:=.ty "tuple") rfl T.pF boot_tuple rfl) cG))) (j4 (fX dO (dG fC (by rfl) T.eT PySem.boot_len (a_ (pv 0) cG)) cI (c9 _)))))),?_⟩
 ac_rfl
 refine⟨_,rfl,_,_,_,true,rfl,.tup ha,rfl,true,rfl,fo ?_⟩;exact⟨_,rfl,a,_,rfl,.inr (cJ.of ha),rfl,q⟩
theorem Hz (T:Tb mg)(Z:cW es K mg):Ok P w K mg base cH "has_just" Xa (1) (AD):=by
 refine Z.ok Xa (top 13) λvs H Q E h=>?_;obtain⟨b,a,xs,kvs,fs,m,fp,rfl,hb,aa,af,hx,ha,hO,hF,q⟩:=h;refine⟨rfl,λql f ah A outer s _ nd hr hu=>?_⟩;refine⟨_,(cO (cS (jE (fX dO (dG xD (by rfl) T.eT PySem.boot_len (a_ (pv 1) cG)) (dG fC (by rfl) T.eT PySem.boot_len (a_ (pv 0) cG)) (c9 _)) (j4 (dG (o5 rfl) (by rfl) T.pE boot_all (a_ (ib (g:=(oJ K 2 (j7 (eG 0) (j7 (eG 1) oI)))) (tt:=jk) (te:=_) (own:=["name","inner"]) rfl (gD (N:=Xa) (sc:=eP (top 13))) (gR (pv 0)) (λ_ _ _ _ _=>(hZ rfl (eY (dy (i:=0) (show(["name","inner","fields","record"]:List Str).Nodup by decide +kernel) rfl (Or.inl rfl) (.inr rfl)) (eY (dy (i:=1) (show(["name","inner","fields","record"]:List Str).Nodup by decide +kernel) rfl (Or.inl rfl) (.inr rfl)) hX)))) (λ_ _ _ _ _=>kr) (λ_ _ _ _ _=>(C_ (xx hu (pv 0) (pv 3)) (by with_unfolding_all rfl)))) cG)))))),?_⟩
 ac_rfl
 have e1:kvs.length=xs.length:=by rw[dk.len hO,FA.len fs aa,hF.1]
 have ai:xs.length<=60:=by rw[FA.len fs aa];exact hx
 refine⟨_,rfl,a,_,rfl,ha,_,rfl,b,_,rfl,.inr (cJ.of hb),rfl,_,rfl,?_⟩;rw[decide_eq_true (show V.int (kvs.length:Nat)=V.int (xs.length:Nat) by rw[e1])];refine fo ?_;refine⟨_,rfl,b,rfl,⟨_,cJ.of hb⟩,λi m ys H'=>H'=H/\m=xs.length - i/\i<=xs.length/\ys=(List.replicate i true).map V.bl,⟨xs.length,rfl,by simp,Q0c _,rfl⟩,?_⟩;rintro i m ys H' ⟨rfl,rfl,hi,rfl⟩;by_cases ab:i<xs.length
 . refine .inr ⟨⟨xs,xs[i],cJ.of hb,by simp[ab]⟩,by rw[Q01,Q1e];exact eE (by omega),λx H' y=>?_⟩;obtain⟨rfl,y⟩:=y;have hv:=y xs (cJ.of hb);obtain⟨c,u,nm,k,rfl,ag,hc,hk⟩:=FA.get fs aa hv;obtain⟨d,hd,_⟩:=hF.2 _ _ (Fs.nz af ag);obtain⟨v,f,ae,_⟩:=dk.val _ hO hd;refine⟨c,_,rfl,cJ.of hc,rfl,_,_,rfl,_,_,rfl,rfl,rfl,yes (fo ?_)⟩;refine⟨_,rfl,_,rfl,a,_,rfl,d5.k (k:=Sum.inr nm) ha,?_⟩;rw[ae];refine⟨xs.length - (i+1),by omega,rfl,rfl,ab,?_⟩;rw[List.replicate_succ',Q0h];rfl
 . refine .inl ⟨⟨xs,cJ.of hb,Q0y ab⟩,λp hp=>⟨p,List.replicate i true,rfl,cM.of cV,?_⟩⟩
   have e:(List.replicate i true).all id=true:=by
    rw[Q10];intro z hz;rw[Q3g hz];rfl
   rw[e];exact q _ (Same.new hp)
theorem HA (n:Nat)(T:Tb mg)(Z:cW es K mg)(aa:Ok P w K mg base cH "has_just" Xa (1) (AD))(ab:Ok P w K mg base cH "misfit" Xm (3 * n+3) (mK n)):Ok P w K mg base cH "record_misfit" Xa (3 * n+4) (u5 n):=by
 refine Z.ok YN (top 12) λvs H Q E h=>?_;obtain⟨b,a,xs,kvs,fs,m,fp,rfl,hb,ae,af,hx,ak,ha,hO,hF,ao,aq,q⟩:=h;refine⟨rfl,λql f ar A outer s _ nd hr hu=>?_⟩
 refine⟨_,(cK (dq (PW.pt (gQ (f_ (fJ (dG gW (by rfl) T.gX boot_isinstance (a_ (pv 1) (a_ (gP (v:=.ty "dict") rfl T.q9 boot_dict rfl) cG))))) (g_ (f_ (fJ (cT aa hr (a_ (pv 0) (a_ (pv 1) cG)))))))) (cO (cS (eR cG))) dt)
  (cK (fR PassesOwn.never rfl (gR (pv 0)) (hZ rfl (eY (dy (i:=2) nd rfl d9) (eY (dy (i:=3) nd rfl d9) hX))) (cK (c_ 4 nd (cT ab hr (a_ (pv 3) (a_ (fL hu (pv 1) (pv 2) (λ_ _=>rfl)) cG))))
  (cO (dq (di jj (pv 4) fF (c9 _)) (cO (cS mn)) dt))))
  (cO (cS fF)))),?_⟩
 ac_rfl
 refine⟨_,rfl,_,_,_,true,rfl,.dK ha,rfl,true,rfl,dX ?_⟩;refine⟨_,rfl,_,rfl,b,a,xs,kvs,fs,m,fp,rfl,hb,ae,af,hx,ha,hO,hF,λH1 s1=>⟨true,rfl,dX ?_⟩⟩;refine⟨_,rfl,b,rfl,⟨_,cJ.of (s1 _ _ hb)⟩,lY (xs:=xs) (λi σ H'=>Same H H'/\∃x y z,σ=[some (.ref b),some (.ref a),x,y,z]) ⟨s1,_,_,_,rfl⟩ ?_ ?_ ?_⟩
 . rintro i σ H' _ ⟨s2,_⟩;exact cJ.of (s2 _ _ hb)
 . rintro i v σ H' hv ⟨s2,x,y,z,rfl⟩;obtain⟨c,u,nm,k,rfl,ag,hc,hk⟩:=FA.get fs ae hv;obtain⟨d,hd,ah⟩:=hF.2 _ _ (Fs.nz af ag);obtain⟨e,f,ai,aj,_⟩:=dk.val _ hO hd;refine⟨c,_,rfl,cJ.of (s2 _ _ hc),rfl,_,_,rfl,_,_,rfl,rfl,?_⟩;refine⟨_,rfl,_,rfl,_,rfl,a,e,rfl,(by have:=d5.k (k:=Sum.inr nm) (s2 _ _ ha);rw[ai] at this;exact this),u,e,k,d,f,rfl,KA.mono (Tu.of s2) k hk,Fs.pd ak ag,Own.same s2 aj,ah,Q0b (Ds.ue hd) ao,Ds.uF aq hd,λH3 s3=>?_⟩;refine⟨_,rfl,rfl,_,rfl,?_⟩;rw[decide_eq_true rfl];refine dX ?_;exact⟨s2.trans s3,_,_,_,rfl⟩
 . rintro σ H' ⟨s2,_⟩;exact q _ s2
theorem HB (n:Nat)(T:Tb mg)(Z:cW es K mg)(aa:Ok P w K mg base cH "record_misfit" Xa (3 * n+4) (u5 n))(aj:Ok P w K mg base cH "rank" ["kind","row"] (1) (rf)):Ok P w K mg base cH "rows_misfit" ["kind","rows"] (3 * n+5) (AI n):=by
 refine Z.ok YD (top 14) λvs H Q E h=>?_;obtain⟨pk,pb,a,xs,key,af,fs,ys,rs,fl,rfl,ai,aI,aJ,hW,ha,aq,ab,aA,aK,aL,aM,a4,q⟩:=h;refine⟨rfl,λql f a7 A outer s _ nd hr hu=>?_⟩;have aN:=hr.wF;unfold Kd.W at hW;obtain⟨aO,aP,aQ,ah,au⟩:=hW
 refine⟨_,(cK (dq (f_ (fJ (dG gW (by rfl) T.gX boot_isinstance (a_ (pv 1) (a_ (gP (v:=.ty "list") rfl T.lA boot_list rfl) cG))))) (cO (cS (eR cG))) dt)
  (cK (c_ 2 nd qK)
  (cK (fR PassesOwn.never rfl (qN rfl T.qZ (a_ (pv 1) cG)) (hZ rfl (eY (dy (i:=3) nd rfl d9) (eY (dy (i:=4) nd rfl d9) hX))) (cK (c_ 5 nd (cT aa hr (a_ (cX (pv 0) cI) (a_ (pv 4) cG))))
  (cK (dq (di jj (pv 5) fF (c9 _)) (cO (cS mn)) dt)
  (cK (dq (PW.pt (oH (di m7 (pv 3) cI (c9 _)) (oG (di (FI aN) (cT aj hr (a_ (pv 0) (a_ (pv 4) cG))) (cT aj hr (a_ (pv 0) (a_ (fE (pv 1) (cU ji (pv 3) cI)) cG))) (c9 _))))) (cO (cS mn)) dt)
  (cK (dq (sh (xx hu (fL hu (pv 4) (cX (pv 0) cI) (λ_ _=>rfl)) (pv 2)) (by with_unfolding_all rfl)) (cO (cS mn)) dt)
  (cO (oZ hu (pv 2) (fL hu (pv 4) (cX (pv 0) cI) (λ_ _=>rfl)) f9 rfl)))))))
  (cO (cS fF))))),?_⟩
 ac_rfl
 refine⟨_,rfl,_,_,_,true,rfl,.lst ha,rfl,true,rfl,dX ?_⟩;intro p hp;have s0:Same H (upd H p (.dK [])):=Same.new hp;obtain⟨a5,a6⟩:=A3.len aq;refine⟨_,rfl,a,rfl,⟨_,cM.of (s0 _ _ ha)⟩,rq (xs:=ys) (λi σ H'=>∃x y z ek,σ=[some (.ref pk),some (.ref a),some (.ref p),x,y,z]/\Same H H'/\H' p=some (.dK ek)/\ek.map (·.1)=(rs.take i).map λm=>keyOf m key) ⟨_,_,_,[],rfl,s0,cV,rfl⟩ ?_ ?_ ?_⟩
 . intro i σ H' _ zq;obtain⟨x,y,z,ek,rfl,s2,_⟩:=zq;exact cM.of (s2 _ _ ha)
 . rintro i yv σ H' t hy ⟨x,y,z,ek,rfl,s2,aR,ay⟩ ht;have hi:i<ys.length:=(List.getElem?_eq_some_iff.mp hy).1;have st:Same H' (upd H' t (.tup [.int i,yv])):=Same.new ht;have s3:=s2.trans st
   have row:∀j,j<ys.length->∃rr kvs fq,ys[j]? =some (.ref rr)/\H rr=some (.dK kvs)/\dk H kvs (rs.getD j .nil) fq/\rs.getD j .nil∈rs:=λj hj=>by
    have h:=A3.at (a0:=V.non) (b0:=Ds.nil) (c0:=[]) aq j hj;unfold Own at h;obtain⟨rr,kvs,fq,e,ak,_,ao⟩:=h;refine⟨rr,kvs,fq,?_,ak,ao,?_⟩
    . rw[<-e,Q0f,Q03 hj];rfl
    . rw[Q0f,Q03 (by omega)];exact Q17 _
   obtain⟨rr,kvs,fq,aB,ak,ao,ae⟩:=row i hi;rw[hy] at aB
   cases aB;have aC:upd H' t (.tup [.int i,.ref rr]) p=some (.dK ek):=st _ _ aR
   have gk:∀H4,Same H H4->d5 H4 rr (.str key) (some (kV (keyOf (rs.getD i .nil) key))):=λH4 s4=>by
    have:=d5.k (k:=Sum.inr key) (s4 _ _ ak);rw[ao.pI (ab _ ae).2 ah] at this;exact this
   refine⟨t,_,rfl,cJ.of cV,rfl,_,_,rfl,_,_,rfl,rfl,?_⟩;refine⟨_,rfl,pk,_,_,_,rfl,rfl,cJ.of (s3 _ _ ai),rfl,_,rfl,pb,rr,xs,kvs,fs,_,fq,rfl,s3 _ _ aI,FA.mono (Tu.of s3) fs aJ,aO,aP,aQ,s3 _ _ ak,dk.same s3 ao,(ab _ ae).r,aL _ ae,aM _ ae,λH4 s4=>?_⟩;have ag:=s3.trans s4;refine⟨_,rfl,rfl,_,rfl,?_⟩;rw[decide_eq_true rfl];refine dX ?_
   have av:e6 ek (keyOf (rs.getD i .nil) key)=none:=by
    have sv:=zV ay (keyOf (rs.getD i .nil) key)
    have:lu key (rs.take i) (keyOf (rs.getD i .nil) key)=false:=by
     cases z:lu key (rs.take i) (keyOf (rs.getD i .nil) key) with
     |false=>rfl
     |true=>
      obtain⟨m,hm,e⟩:=List.any_eq_true.mp z;have e:=of_decide_eq_true e;obtain⟨j,hj,ej⟩:=Q0z hm;rw[Q0n] at hj;rw[Q22] at ej;have aD:i<rs.length:=by omega
      have e2:rs.getD i .nil=rs[i]:=by rw[Q0f,Q03 aD];rfl
      have:=List.pairwise_iff_getElem.mp (List.pairwise_map.mp aK) j i (by omega) aD (by omega);rw[ej,<-e2] at this;exact absurd e this
    rw[this] at sv
    cases z:e6 ek (keyOf (rs.getD i .nil) key) with
    |none=>rfl
    |some o=>rw[z] at sv;cases sv
   have fin:∀H5,Same (upd H' t (.tup [.int i,.ref rr])) H5->∀(DD:Ends),DD.nx=(λσ H'=>∃x y z ek,σ=[some (.ref pk),some (.ref a),some (.ref p),x,y,z]/\Same H H'/\H' p=some (.dK ek)/\ek.map (·.1)=(rs.take (i+1)).map λm=>keyOf m key)->∀z':Option V,
    DD.nx [some (.ref pk),some (.ref a),some (.ref p),some (.int i),some (.ref rr),z'] (upd H5 p (.dK (ek++[(keyOf (rs.getD i .nil) key,.bl true)]))):=λH5 s5 DD aS z'=>by
    rw[aS];refine⟨_,_,_,_,rfl,λc o e=>?_,cV,?_⟩
    . rw[cQ (c6 e hp)];exact s5 _ _ (s3 _ _ e)
    . rw[Q0h,ay,Q0p,Q0h];congr 1;rw[Q03 (by omega),Q0f,Q03 (by omega)];rfl
   have ax:ek.length<sizeLine:=by
    have e1:=congrArg List.length ay;rw[Q01,Q01,Q0n] at e1;have:=hr.wF;exact eE (by omega)
   refine⟨_,rfl,_,_,rfl,rfl,_,rfl,dz (λc=>?_) (λc=>dX ?_)⟩
   . have a8:0<i:=by
      have:(0:Int)<(i:Int):=of_decide_eq_true c;omega
     obtain⟨rp,aU,aV,aG,aW,aH,ar⟩:=row (i - 1) (by omega);refine⟨_,rfl,_,rfl,pk,rr,pb,key,af,fs,kvs,_,fq,rfl,ag _ _ ai,ag _ _ ak,dk.same ag ao,(ab _ ae).2,ah,au,λt1 aX=>?_⟩;have az:Same H4 (upd H4 t1 (.tup ((rankOf key af (rs.getD i .nil)).map kV))):=Same.new aX;have s5:=ag.trans az
     have aY:fS ys ((i:Int) - 1)=some (.ref rp):=by
      have e:(i:Int) - 1=((i - 1:Nat):Int):=by omega
      rw[e];exact fe aG
     refine⟨_,rfl,_,rfl,_,rfl,_,_,rfl,rfl,a,_,_,_,rfl,rfl,cM.of (s5 _ _ ha),aY,pk,rp,pb,key,af,fs,aU,_,aV,rfl,s5 _ _ ai,s5 _ _ aW,dk.same s5 aH,(ab _ ar).2,ah,au,λt2 aZ=>?_⟩;have aw:Same (upd H4 t1 (.tup ((rankOf key af (rs.getD i .nil)).map kV))) (upd (upd H4 t1 (.tup ((rankOf key af (rs.getD i .nil)).map kV))) t2 (.tup ((rankOf key af (rs.getD (i - 1) .nil)).map kV))):=Same.new aZ;have s6:=s5.trans aw
     have a3:eA (rankOf key af (rs.getD (i - 1) .nil)) (rankOf key af (rs.getD i .nil))=true:=by
      have ge:∀j (h:j<rs.length),rs.getD j .nil=rs[j]:=λj h=>by rw[Q0f,Q03 h];rfl
      rw[ge (i - 1) (by omega),ge i (by omega)];exact List.pairwise_iff_getElem.mp aA (i - 1) i (by omega) (by omega) (by omega)
     refine⟨t1,t2,_,_,rfl,rfl,cJ.of (aw _ _ cV),cJ.of cV,(zP (ab _ ae).2 ah au).trans (zP (ab _ ar).2 ah au).symm,_,rfl,?_⟩;rw[a3];refine dX ?_;have aE:=aw _ _ (az _ _ (s4 _ _ aC));refine⟨_,rfl,_,rfl,pk,_,_,_,rfl,rfl,cJ.of (s6 _ _ ai),rfl,rr,_,rfl,gk _ s6,_,rfl,p,_,rfl,d5.k aE,_,rfl,?_⟩;rw[av];refine dX ?_;refine⟨_,rfl,_,rfl,_,rfl,pk,_,_,_,rfl,rfl,cJ.of (s6 _ _ ai),rfl,rr,_,rfl,gk _ s6,p,_,rfl,jJ.k aE ax,?_⟩;rw[qX av];exact fin _ (s4.trans (az.trans aw)) _ rfl _
   . have aF:=s4 _ _ aC;refine⟨_,rfl,_,rfl,pk,_,_,_,rfl,rfl,cJ.of (ag _ _ ai),rfl,rr,_,rfl,gk _ ag,_,rfl,p,_,rfl,d5.k aF,_,rfl,?_⟩;rw[av];refine dX ?_;refine⟨_,rfl,_,rfl,_,rfl,pk,_,_,_,rfl,rfl,cJ.of (ag _ _ ai),rfl,rr,_,rfl,gk _ ag,p,_,rfl,jJ.k aF ax,?_⟩;rw[qX av];exact fin _ s4 _ rfl _
 . intro σ H' zq;obtain⟨x,y,z,ek,rfl,s2,_⟩:=zq;exact q _ s2
theorem HC (T:Tb mg)(Z:cW es K mg):Ok P w K mg base cH "tree_misfit" YA (3 * 0+2) (pO 0):=by
 refine Z.ok Xw (top 16) λvs H Q E h=>?_;obtain⟨a,u,v,k,d,fp,rfl,_,_,_,_,_,hd,_⟩:=h;refine⟨rfl,λql f aa A outer s _ nd hr hu=>?_⟩;exact absurd hd (by have:=d.jm;omega)
theorem HD (n:Nat)(T:Tb mg)(Z:cW es K mg)(aa:Ok P w K mg base cH "tree_misfit" YA (3 * n+2) (pO n))(ab:Ok P w K mg base cH "is_pair" ["value"] (1) (u4))(ae:Ok P w K mg base cH "misfit" Xm (3 * n+3) (mK n)):Ok P w K mg base cH "tree_misfit" YA (3 * (n+1)+2) (pO (n+1)):=by
 refine Z.ok Xw (top 16) λvs H Q E h=>?_;obtain⟨a,u,v,k,d,fp,rfl,ha,hk,hW,hO,ao,aq,ah,q⟩:=h;refine⟨rfl,λql f aA A outer s _ nd hr hu=>?_⟩;obtain⟨x,y,t,as,rfl,ar,au⟩:=ao.shape;obtain⟨c,v1,v2,f1,f2,rfl,hc,rfl,av,ai⟩:=hO.pair;unfold Own at ai;obtain⟨pl,ys,fq,rfl,af,rfl,aw⟩:=ai;simp only[D.dep,Ds.dep] at aq;unfold D.Sm Ds.Sm at ah;obtain⟨_,ax,aj⟩:=ah;unfold Ds.Sm at aj;have ak:=aj.1;unfold D.Sm at ak
 refine⟨_,(cK (dq (PW.pt (gQ (f_ (fJ (cT ab hr (a_ (pv 1) cG)))) (g_ (f_ (fJ (dG gW (by rfl) T.gX boot_isinstance (a_ (cX (pv 1) cI) (a_ (gP (v:=.ty "list") rfl T.lA boot_list rfl) cG)))))))) (cO (cS (eR cG))) dt)
  (cK (c_ 2 nd (cT ae hr (a_ (cX (pv 0) cI) (a_ (cX (pv 1) cI) cG))))
  (cK (dq (di jj (pv 2) fF (c9 _)) (cO (cS mn)) dt)
  (cK (fR PassesOwn.never rfl (qN rfl T.qZ (a_ (cX (pv 1) cI) cG)) (hZ rfl (eY (dy (i:=3) nd rfl d9) (eY (dy (i:=4) nd rfl d9) hX))) (cK (c_ 2 nd (cT aa hr (a_ (pv 0) (a_ (pv 4) cG))))
  (cO (dq (di jj (pv 2) fF (c9 _)) (cO (cS mn)) dt))))
  (cO (cS fF)))))),?_⟩
 ac_rfl
 refine⟨_,rfl,c,v1,.ref pl,rfl,hc,true,rfl,dX ?_⟩;refine⟨_,rfl,c,_,_,_,rfl,rfl,cJ.of hc,rfl,_,_,_,true,rfl,.lst af,rfl,true,rfl,dX ?_⟩;refine⟨_,rfl,a,_,_,_,rfl,rfl,cJ.of ha,rfl,_,rfl,c,_,_,_,rfl,rfl,cJ.of hc,rfl,u,v1,k,t,f1,rfl,hk,hW,av,.oth (jR.of0 ar),by omega,ax,λH1 s1=>?_⟩;refine⟨_,rfl,rfl,_,rfl,?_⟩;rw[decide_eq_true rfl];refine dX ?_;refine⟨_,rfl,c,_,_,_,rfl,rfl,cJ.of (s1 _ _ hc),rfl,pl,rfl,⟨_,cM.of (s1 _ _ af)⟩,rq (xs:=ys) (λi σ H'=>Same H H'/\∃x y z,σ=[some (.ref a),some (.ref c),x,y,z]) ⟨s1,_,_,_,rfl⟩ ?_ ?_ ?_⟩
 . rintro i σ H' _ ⟨s2,_⟩;exact cM.of (s2 _ _ af)
 . rintro i yv σ H' tt hy ⟨s2,x,y,z,rfl⟩ ay;have st:Same H' (upd H' tt (.tup [.int i,yv])):=Same.new ay;have s3:=s2.trans st;obtain⟨d',f,ag,az,_⟩:=dj.get _ aw hy;have aB:=Ds.jN ag;refine⟨tt,_,rfl,cJ.of cV,rfl,_,_,rfl,_,_,rfl,rfl,?_⟩;refine⟨_,rfl,_,rfl,a,u,yv,k,d',f,rfl,s3 _ _ ha,KA.mono (Tu.of s3) k hk,hW,Own.same s3 az,gh.at au ag,by omega,Ds.rd ak.2 ag,λH4 s4=>?_⟩;refine⟨_,rfl,rfl,_,rfl,?_⟩;rw[decide_eq_true rfl];refine dX ?_;exact⟨s3.trans s4,_,_,_,rfl⟩
 . rintro σ H' ⟨s2,_⟩;exact q _ s2
theorem HE (n:Nat)(T:Tb mg)(Z:cW es K mg)(aa:Ok P w K mg base cH "is_pair" ["value"] (1) (u4))(ab:Ok P w K mg base cH "kind_at" Xh (1) (Ay))(ae:Ok P w K mg base cH "misfit" Xm (3 * n+3) (mK n)):Ok P w K mg base cH "either_misfit" ["fields","value"] (3 * n+4) (AM n):=by
 refine Z.ok ["fields","value","inner","place"] (top 17) λvs H Q E h=>?_;obtain⟨b,t,x,v,xs,fs,d,fp,rfl,hb,ah,ai,aj,ht,hO,hE,ak,ao,q⟩:=h;refine⟨rfl,λql f ar A outer s _ nd hr hu=>?_⟩
 refine⟨_,(cK (dq (f_ (fJ (cT aa hr (a_ (pv 1) cG)))) (cO (cS (eR cG))) dt)
  (cK (c_ 2 nd (cT ab hr (a_ (pv 0) (a_ (cX (pv 1) cI) cG))))
  (cK (dq (di sN (pv 2) fF (c9 _)) (cO (cS (eR cG))) dt)
  (cK (c_ 3 nd (cT ae hr (a_ (pv 2) (a_ (cX (pv 1) cI) cG))))
  (cK (dq (di jj (pv 3) fF (c9 _)) (cO (cS mn)) dt)
  (cO (cS fF))))))),?_⟩
 ac_rfl
 obtain⟨k,af,ag⟩:=uZ hE;refine⟨_,rfl,t,_,_,rfl,ht,true,rfl,dX ?_⟩;refine⟨_,rfl,_,rfl,t,_,_,_,rfl,rfl,cJ.of ht,rfl,b,x,xs,fs,k,rfl,hb,ah,ai,af,λu hu aq=>?_⟩;refine⟨_,rfl,rfl,_,rfl,?_⟩;rw[decide_eq_false aq];refine dX ?_;refine⟨_,rfl,_,rfl,t,_,_,_,rfl,rfl,cJ.of ht,rfl,u,v,k,d,fp,rfl,hu,Fs.u3 aj af,hO,.of ag,ak,ao,λH1 s1=>?_⟩;refine⟨_,rfl,rfl,_,rfl,?_⟩;rw[decide_eq_true rfl];refine dX ?_;exact q _ s1
theorem HF (T:Tb mg)(Z:cW es K mg):Ok P w K mg base cH "misfit" Xm (3 * 0+3) (mK 0):=by
 refine Z.ok YH (top 11) λvs H Q E h=>?_;obtain⟨kv,v,k,d,fp,rfl,_,_,_,_,hd,_⟩:=h;refine⟨rfl,λql f aa A outer s _ nd hr hu=>?_⟩;exact absurd hd (by have:=d.jm;omega)
theorem HG (n:Nat)(T:Tb mg)(Z:cW es K mg)(aa:Ok P w K mg base cH "record_misfit" Xa (3 * n+4) (u5 n))(ae:Ok P w K mg base cH "rows_misfit" ["kind","rows"] (3 * n+5) (AI n))(af:Ok P w K mg base cH "tree_misfit" YA (3 * (n+1)+2) (pO (n+1)))(ab:Ok P w K mg base cH "either_misfit" ["fields","value"] (3 * n+4) (AM n)):
 Ok P w K mg base cH "misfit" Xm (3 * (n+1)+3) (mK (n+1)):=by
 refine Z.ok YH (top 11) λvs H Q E h=>?_;obtain⟨kv,v,k,d,fp,rfl,hk,hW,hO,hF,aj,ag,q⟩:=h;refine⟨rfl,λql f ay A outer s _ nd hr hu=>?_⟩
 refine⟨_,(cK (c_ 2 nd (cX (pv 0) cI))
  (cK (dq (di dO (pv 2) d0 (c9 _)) (cO (cS (sj (PW.pt (oH (fJ (dG gW (by rfl) T.gX boot_isinstance (a_ (pv 1) (a_ (gP (v:=.ty "int") rfl T.za boot_int rfl) cG)))) (oG (f_ (fJ (dG gW (by rfl) T.gX boot_isinstance (a_ (pv 1) (a_ (gP (v:=.ty "bool") rfl T.uo boot_bool rfl) cG)))))))) fF (eR cG)))) dt)
  (cK (dq (di dO (pv 2) d0 (c9 _)) (cO (cS (sj (fJ (dG gW (by rfl) T.gX boot_isinstance (a_ (pv 1) (a_ (gP (v:=.ty "str") rfl T.uq boot_str rfl) cG)))) fF (eR cG)))) dt)
  (cK (dq (di dO (pv 2) d0 (c9 _)) (cO (cS (cT aa hr (a_ (cX (pv 0) cI) (a_ (pv 1) cG))))) dt)
  (cK (dq (di dO (pv 2) d0 (c9 _)) (cO (cS (cT ae hr (a_ (pv 0) (a_ (pv 1) cG))))) dt)
  (cK (dq (di dO (pv 2) d0 (c9 _)) (cO (cS (cT af hr (a_ (pv 0) (a_ (pv 1) cG))))) dt)
  (cO (cS (cT ab hr (a_ (cX (pv 0) cI) (a_ (pv 1) cG))))))))))),?_⟩
 ac_rfl
 cases k with
 |num=>
  replace hF:=hF.l (λ_ z=>by cases z);unfold KA at hk;obtain⟨a,rfl,ha⟩:=hk;change d8 _ _ at hF;unfold d8 at hF;obtain⟨z,rfl⟩:=hF;unfold Own at hO;obtain⟨rfl,rfl⟩:=hO;refine⟨_,rfl,a,_,_,_,rfl,rfl,cJ.of ha,rfl,?_⟩;refine o6 rfl (by decide +kernel) ?_;refine⟨_,rfl,_,_,_,true,rfl,.int z,rfl,true,rfl,fo ?_⟩;refine⟨_,rfl,_,_,_,false,rfl,.int z,rfl,false,rfl,fo ?_⟩;exact q _ (Same.refl _)
 |eu=>
  replace hF:=hF.l (λ_ z=>by cases z);unfold KA at hk;obtain⟨a,rfl,ha⟩:=hk;change d8 _ _ at hF;unfold d8 at hF;obtain⟨z,rfl⟩:=hF;unfold Own at hO;obtain⟨rfl,rfl⟩:=hO;refine⟨_,rfl,a,_,_,_,rfl,rfl,cJ.of ha,rfl,?_⟩;refine ic rfl (by decide +kernel) ?_;refine o6 rfl (by decide +kernel) ?_;refine⟨_,rfl,_,_,_,true,rfl,.str z,rfl,true,rfl,fo ?_⟩;exact q _ (Same.refl _)
 |c8 fs=>
  unfold KA at hk;obtain⟨a,b,xs,rfl,ha,hb,ah⟩:=hk;obtain⟨m,rfl,au⟩:=hF.r;unfold Own at hO;obtain⟨c,kvs,fq,rfl,hc,rfl,hO⟩:=hO;unfold Kd.W at hW;unfold D.Sm at ag;simp only[D.dep] at aj;refine⟨_,rfl,a,_,_,_,rfl,rfl,cJ.of ha,rfl,?_⟩;refine ic rfl (by decide +kernel) ?_;refine ic rfl (by decide +kernel) ?_;refine o6 rfl (by decide +kernel) ?_;exact⟨_,rfl,a,_,_,_,rfl,rfl,cJ.of ha,rfl,_,rfl,b,c,xs,kvs,fs,m,fq,rfl,hb,ah,hW.1,hW.2.1,hW.2.2,hc,hO,au,by omega,ag.2,q⟩
 |rows key av fs=>
  replace hF:=hF.l (λ_ z=>by cases z);unfold KA at hk;obtain⟨a,b,xs,rfl,ha,hb,ah⟩:=hk;obtain⟨rs,rfl,ar,ak,aw⟩:=hF;unfold Own at hO;obtain⟨c,ys,fq,rfl,hc,rfl,hO⟩:=hO;obtain⟨fl,ai,rfl⟩:=dj.rows hO;unfold D.Sm at ag;simp only[D.dep] at aj;refine⟨_,rfl,a,_,_,_,rfl,rfl,cJ.of ha,rfl,?_⟩;refine ic rfl (by decide +kernel) ?_;refine ic rfl (by decide +kernel) ?_;refine ic rfl (by decide +kernel) ?_;refine o6 rfl (by decide +kernel) ?_;refine⟨_,rfl,_,rfl,a,b,c,xs,key,av,fs,ys,rs,fl,rfl,ha,hb,ah,hW,hc,ai,ar,ak,aw,λm hm=>?_,λm hm=>?_,?_,q⟩
  . have:=zJ m hm;omega
  . have:=zI ag.2 m hm;unfold D.Sm at this;exact this.2
  . have h1:=(A3.len ai).1;have h2:=ag.1;rw[uG] at h2;omega
 |tree k=>
  replace hF:=hF.l (λ_ z=>by cases z);unfold KA at hk;obtain⟨a,u,rfl,ha,hu⟩:=hk;change Tree _ _ at hF;unfold Kd.W at hW;refine⟨_,rfl,a,_,_,_,rfl,rfl,cJ.of ha,rfl,?_⟩;refine ic rfl (by decide +kernel) ?_;refine ic rfl (by decide +kernel) ?_;refine ic rfl (by decide +kernel) ?_;refine ic rfl (by decide +kernel) ?_;refine o6 rfl (by decide +kernel) ?_;exact⟨_,rfl,_,rfl,a,u,v,k,d,fp,rfl,ha,hu,hW,hO,hF,aj,ag,q⟩
 |e8 fs=>
  replace hF:=hF.l (λ_ z=>by cases z);unfold KA at hk;obtain⟨a,b,xs,rfl,ha,hb,ah⟩:=hk;change d8 _ _ at hF;unfold d8 at hF;obtain⟨x,v',rfl,hE⟩:=hF;obtain⟨c,v1,v2,f1,f2,rfl,hc,rfl,ao,ax⟩:=hO.pair;unfold Own at ao;obtain⟨rfl,rfl⟩:=ao;unfold Kd.W at hW;simp only[D.dep,Ds.dep] at aj;unfold D.Sm Ds.Sm at ag;obtain⟨_,az,aq⟩:=ag;unfold Ds.Sm at aq;refine⟨_,rfl,a,_,_,_,rfl,rfl,cJ.of ha,rfl,?_⟩;refine ic rfl (by decide +kernel) ?_;refine ic rfl (by decide +kernel) ?_;refine ic rfl (by decide +kernel) ?_;refine ic rfl (by decide +kernel) ?_;refine ic rfl (by decide +kernel) ?_;exact⟨_,rfl,a,_,_,_,rfl,rfl,cJ.of ha,rfl,_,rfl,b,c,x,v2,xs,fs,v',f2,rfl,hb,ah,hW.1,hW.2.2.2,hc,ax,hE,by omega,aq.1,q⟩
theorem AO (T:Tb mg)(Z:cW es K mg):∀n:Nat,Ok P w K mg base cH "misfit" Xm (3 * n+3) (mK n)/\Ok P w K mg base cH "tree_misfit" YA (3 * n+2) (pO n)
 |0=>⟨HF T Z,HC T Z⟩
 |n+1=>by
  obtain⟨M,Tr⟩:=AO T Z n;have Ip:=Hy (P:=P) (w:=w) (base:=base) T Z;have R:=HA n T Z (Hz T Z) M;have Ro:=HB n T Z R (GR T Z);have aa:=HD n T Z Tr Ip M;have Ei:=HE n T Z Ip (Hx T Z) M;exact⟨HG n T Z R Ro aa Ei,aa⟩
def AQ (J:It) (H:Hp) (xs:List V):Prop:=(∀i x,xs[i]? =some x->J.go i H)/\(∀i x H',J.iP i H x H'->H'=H/\xs[i]? =some x)/\J.stop xs.length H
theorem HH(h:cJ K H a xs):AQ (j9 K a) H xs:=⟨λ_ _ e=>⟨_,_,h,e⟩,λ_ _ _ y=>⟨y.1,y.2 _ h⟩,_,h,Q0 _⟩
def CW (F:Nat->List V) (n:Nat) (H:Hp) (i m:Nat) (ys:List V) (H':Hp):Prop:=m=n - i/\i<=n/\ys=F i/\(F i).length<=i/\H'=H
theorem HI{S:List V->Hp->Prop}{C:(Nat->Nat->List V->Hp->Prop)->Nat->Nat->List V->V->Hp->Prop}(hJ:AQ J H xs)(F:Nat->List V)(ae:xs.length<=1000)
 (q:S (F xs.length) H) (step:∀i x,xs[i]? =some x->(∀y,F (i+1)=F i++[y]->∃m',m'<xs.length - i/\CW F xs.length H (i+1) m' (F i++[y]) H)->(F (i+1)=F i->∃m',m'<xs.length - i/\CW F xs.length H (i+1) m' (F i) H)->C (CW F xs.length H) i (xs.length - i) (F i) x H) (h0:F 0=[]:=by rfl):
 ∃W:Nat->Nat->List V->Hp->Prop,(∃m,W 0 m [] H)/\∀i m ys H',W i m ys H'->(J.stop i H'/\S ys H')\/(J.go i H'/\ys.length<sizeLine/\∀x ab,J.iP i H' x ab->C W i m ys x ab):=by
 refine⟨CW F xs.length H,⟨_,rfl,Q0c _,h0.symm,by rw[h0];exact Q0 0,rfl⟩,?_⟩;rintro i m ys H' ⟨rfl,hi,rfl,hl,rfl⟩;by_cases aa:i<xs.length
 . refine .inr ⟨hJ.1 i _ (Q03 aa),eE (by omega),λx ab y=>?_⟩;obtain⟨rfl,hx⟩:=hJ.2.1 _ _ _ y;exact step i x hx (λy e=>⟨_,Q3h _ _ aa,rfl,aa,e.symm,by rw[e,Q0d];exact Q3e hl,rfl⟩) (λe=>⟨_,Q3h _ _ aa,rfl,aa,e.symm,by rw[e];omega,rfl⟩)
 . cases Q3i hi (Q0y aa);exact .inl ⟨hJ.2.2,q⟩
theorem AR:∀{l:List Ds}{i:Nat}{d:D},(fM l).at i=some d->∃m∈l,d=.dct m
 |[],_,_,h=>by cases h
 |m::r,0,_,h=>by cases h;exact⟨m,Q04,rfl⟩
 |m::r,i+1,d,h=>by
  obtain⟨m',h1,h2⟩:=AR (l:=r) (i:=i) h;exact⟨m',Q09 _ h1,h2⟩
theorem Fs.u6:∀{fs:Fs}{x:Str}{k:Kd},fs.get x=some k->∃j,fs.at j=some (x,k)
 | .nil,_,_,h=>by cases h
 | .cons y q r,x,k,h=>by
   have h:(if x=y then some q else r.get x)=some k:=h;by_cases e:x=y
   . rw[if_pos e] at h
     cases h;exact⟨0,by rw[e];rfl⟩
   . rw[if_neg e] at h;obtain⟨j,hj⟩:=Fs.u6 h;exact⟨j+1,hj⟩
theorem Fs.HJ {fs:Fs}(nd:fs.names.Nodup)(h1:fs.at i=some (x,k))(h2:fs.at j=some (x,k')):i=j:=by
 have e1:fs.names[i]? =some x:=by rw[Fs.lh,h1];rfl
 have e2:fs.names[j]? =some x:=by rw[Fs.lh,h2];rfl
 obtain⟨l1,q1⟩:=List.getElem?_eq_some_iff.mp e1;obtain⟨l2,q2⟩:=List.getElem?_eq_some_iff.mp e2;exact(Q26 nd).mp (q1.trans q2.symm)
theorem AU (i:Nat):(List.replicate i true).all id=true:=by
 rw[Q10];intro z hz;rw[Q3g hz];rfl
def rz (fs:Fs) (m1 m2:Ds):Prop:=m1.names.length=fs.names.length/\∀x k,fs.get x=some k->∃e,m1.get x=some e/\m2.get x=some e/\d8 k e
def gL (k:Kd) (d1 d2:D):Prop:=match k with
 | .c8 fs=>∃m1 m2,d1=.dct m1/\d2=.dct m2/\rz fs m1 m2
 | .rows _ _ fs=>∃x1 x2:Ds,d1=.lst x1/\d2=.lst x2/\x1.len=x2.len/\∀i e1 e2,x1.at i=some e1->x2.at i=some e2->∃m1 m2,e1=.dct m1/\e2=.dct m2/\rz fs m1 m2
 |k=>d1=d2/\d8 k d1
theorem kG.AV(h:kG fs m):rz fs m m:=⟨h.1,λx k hg=>let⟨e,h1,h2⟩:=h.2 x k hg;⟨e,h1,h1,h2⟩⟩
theorem gL.fT(h:jQ k d):gL k d d:=by
 cases k with
 |c8 fs=>
  obtain⟨m,e,hF⟩:=h;exact⟨m,m,e,e,hF.AV⟩
 |rows key aa fs=>
  obtain⟨rs,e,hF,h1,h2⟩:=h;refine⟨_,_,e,e,rfl,λi e1 e2 h1 h2=>?_⟩;rw[h1] at h2
  cases h2;obtain⟨m,hm,rfl⟩:=AR h1;exact⟨m,m,rfl,rfl,(hF m hm).AV⟩
 |_=>exact⟨rfl,h⟩
theorem gL.of(h:d8 k d):gL k d d:=gL.fT (jQ.of h)
inductive i8 (R:D->D->Prop):D->D->Prop
 |mk {x y x' y':Str} {t t':D} {as as':Ds}:R t t'->as.len=as'.len->(∀i d d',as.at i=some d->as'.at i=some d'->i8 R d d')->i8 R (.tup (.cons x t (.cons y (.lst as) .nil))) (.tup (.cons x' t' (.cons y' (.lst as') .nil)))
theorem i8.shape(h:i8 R d d'):∃x y x' y' t t' as aa,d=.tup (.cons x t (.cons y (.lst as) .nil))/\d'=.tup (.cons x' t' (.cons y' (.lst aa) .nil))/\R t t'/\as.len=aa.len/\∀i d d',Ds.at as i=some d->Ds.at aa i=some d'->i8 R d d':=by
 cases h with
 |mk h1 h2 h3=>exact⟨_,_,_,_,_,_,_,_,rfl,rfl,h1,h2,h3⟩
theorem i8.refl {R:D->D->Prop}{P:D->Prop}(hp:∀t,P t->R t t)(h:Tree P d):i8 R d d:=
 Tree.ind (M:=λd=>i8 R d d) (λ_ _ _ _ h1 h2=>.mk (hp _ h1) rfl λi d d' e1 e2=>by
  rw[e1] at e2
  cases e2;exact(h2 i d e1).2) _ d (Q0 _) h
def AL (k:Kd) (d1 d2:D):Prop:=match k with
 | .tree k=>i8 (gL k) d1 d2
 |k=>gL k d1 d2
theorem AL.of0(h:gL k d1 d2):AL k d1 d2:=by
 cases k with
 |tree k=>
  obtain⟨rfl,h⟩:=h;unfold d8 at h;exact i8.refl (λt ht=>gL.of ht) h
 |_=>exact h
theorem AL.of(h:d8 k d):AL k d d:=AL.of0 (gL.of h)
inductive AN:Kd->D->D->Prop
 |c8 {fs:Fs} {m1 m2:Ds} (hl:m1.names.length=fs.names.length) (hp:∀x k,fs.get x=some k->∃e1 e2,m1.get x=some e1/\m2.get x=some e2) (h:∀x k e1 e2,fs.get x=some k->m1.get x=some e1->m2.get x=some e2->AN k e1 e2):AN (.c8 fs) (.dct m1) (.dct m2)
 |oth {k:Kd} {d1 d2:D} (h:AL k d1 d2):AN k d1 d2
def HK (fs:Fs) (m1 m2:Ds):Prop:=m1.names.length=fs.names.length/\∀x k,fs.get x=some k->∃e1 e2,m1.get x=some e1/\m2.get x=some e2/\AN k e1 e2
theorem AN.of(h:d8 k d):AN k d d:=.oth (AL.of h)
theorem AN.r(h:AN (.c8 fs) d1 d2):∃m1 m2,d1=.dct m1/\d2=.dct m2/\HK fs m1 m2:=by
 cases h with
 |c8 hl hp h=>exact⟨_,_,rfl,rfl,hl,λx k g=>let⟨e1,e2,h1,h2⟩:=hp x k g;⟨e1,e2,h1,h2,h x k e1 e2 g h1 h2⟩⟩
 |oth h=>
  obtain⟨m1,m2,e1,e2,h'⟩:=(show ∃m1 m2,d1=.dct m1/\d2=.dct m2/\rz fs m1 m2 from h);exact⟨m1,m2,e1,e2,h'.1,λx k g=>let⟨e,h1,h2,h3⟩:=h'.2 x k g;⟨e,e,h1,h2,.of h3⟩⟩
theorem AN.l(h:AN k d1 d2)(hn:∀fs,k≠ .c8 fs):AL k d1 d2:=by
 cases h with
 |c8 _ _ _=>exact absurd rfl (hn _)
 |oth h=>exact h
inductive AW (n:Nat) (vs:List V) (H:Hp) (Q:V->Hp->Prop):Prop
 |mk (kv:_) (v1:_) (v2:_) (k:_) (d:_) (d2:_) (f1:_) (f2:_) (h0:vs=[kv,v1,v2]) (h1:KA H kv k) (h2:k.W) (h3:Own H v1 d f1) (h4:Own H v2 d2 f2) (h5:AN k d d2) (h6:d.dep<=n) (h7:d.Sm) (h8:∀H',Same H H'->Q (.bl true) H'):AW n vs H Q
def pP (n:Nat):Sp:=λvs H Q _=>AW n vs H Q
theorem HL (n:Nat)(T:Tb mg)(Z:cW es K mg)(aa:Ok P w K mg base cH "_law_alike" Xe (n+1) (pP n)):Ok P w K mg base cH "_law_alike" Xe ((n+1)+1) (pP (n+1)):=by
 refine Z.ok XM (top 57) λvs H Q E h=>?_;obtain⟨kv,v1,v2,k,d,d2,f1,f2,rfl,hk,hW,ai,aj,hF,az,ao,q⟩:=h;refine⟨rfl,λql f bf A outer s _ nd hr hu=>?_⟩
 refine⟨_,(cK (dq (di dO (cX (pv 0) cI) d0 (c9 _)) (cO (cS (jE (dG gW (by rfl) T.gX boot_isinstance (a_ (pv 1) (a_ (gP (v:=.ty "int") rfl T.za boot_int rfl) cG))) (jE (Dk (dG gW (by rfl) T.gX boot_isinstance (a_ (pv 1) (a_ (gP (v:=.ty "bool") rfl T.uo boot_bool rfl) cG)))) (j4 (fX dO (pv 1) (pv 2) (c9 _))))))) dt)
  (cK (dq (di dO (cX (pv 0) cI) d0 (c9 _)) (cO (cS (jE (dG gW (by rfl) T.gX boot_isinstance (a_ (pv 1) (a_ (gP (v:=.ty "str") rfl T.uq boot_str rfl) cG))) (j4 (fX dO (pv 1) (pv 2) (c9 _)))))) dt)
  (cK (dq (di dO (cX (pv 0) cI) d0 (c9 _)) (cK (dq (PW.pt (gQ (f_ (fJ (dG gW (by rfl) T.gX boot_isinstance (a_ (pv 1) (a_ (gP (v:=.ty "dict") rfl T.q9 boot_dict rfl) cG))))) (g_ (di gH (dG tD (by rfl) T.eT PySem.boot_len (a_ (pv 1) cG)) (dG fC (by rfl) T.eT PySem.boot_len (a_ (cX (pv 0) cI) cG)) (c9 _))))) (cO (cS f9)) dt)
  (cK (fR PassesOwn.never rfl (gR (cX (pv 0) cI)) (hZ rfl (eY (dy (i:=3) nd rfl d9) (eY (dy (i:=4) nd rfl d9) hX))) (cO (dq (PW.pt (gQ (sh (xy hu (pv 3) (pv 1)) (by with_unfolding_all rfl)) (g_ (f_ (fJ (cT aa hr (a_ (pv 4) (a_ (fL hu (pv 1) (pv 3) (λ_ _=>rfl)) (a_ (fL hu (pv 2) (pv 3) (λ_ _=>rfl)) cG))))))))) (cO (cS f9)) dt)))
  (cO (cS f9)))) dt)
  (cK (dq (di dO (cX (pv 0) cI) d0 (c9 _)) (cK (dq (PW.pt (gQ (f_ (fJ (dG gW (by rfl) T.gX boot_isinstance (a_ (pv 1) (a_ (gP (v:=.ty "list") rfl T.lA boot_list rfl) cG))))) (g_ (di gH (dG tD (by rfl) T.eT PySem.boot_len (a_ (pv 1) cG)) (dG fC (by rfl) T.eT PySem.boot_len (a_ (pv 2) cG)) (c9 _))))) (cO (cS f9)) dt)
  (cO (cS (dG (o5 rfl) (by rfl) T.pE boot_all (a_ (ib (g:=(oJ K 2 (j7 (eG 0) (j7 (eG 1) oI)))) (tt:=jk) (te:=(kg _ _ _ (fA (sR (fA (tC (.str "record")) (fA (d6 (gm K) (dF 2) (tC (.int 3))) gU))) (fA (dF 0) (fA (dF 1) gU))))) (own:=["_law_a","_law_b"]) rfl (gD (N:=XM) (sc:=eP (top 57))) (yp rfl T.y_ (a_ (pv 1) (a_ (pv 2) cG))) (λ_ _ _ _ _=>(hZ rfl (eY (dy (i:=0) (show(XN:List Str).Nodup by decide +kernel) rfl (Or.inl rfl) (.inr rfl)) (eY (dy (i:=1) (show(XN:List Str).Nodup by decide +kernel) rfl (Or.inl rfl) (.inr rfl)) hX)))) (λ_ _ _ _ _=>kr) (λ_ _ _ _ _=>(cT aa hr (a_ (gc (a_ d0 (a_ (cX (pv 2) cI) cG))) (a_ (pv 0) (a_ (pv 1) cG)))))) cG))))) dt)
  (cK (dq (PW.pt (gQ (f_ (fJ (dG gW (by rfl) T.gX boot_isinstance (a_ (pv 1) (a_ (gP (v:=.ty "tuple") rfl T.pF boot_tuple rfl) cG))))) (g_ (di gH (dG tD (by rfl) T.eT PySem.boot_len (a_ (pv 1) cG)) cI (c9 _))))) (cO (cS f9)) dt)
  (cK (dq (di dO (cX (pv 0) cI) d0 (c9 _)) (cK (dq (PW.pt (gQ (f_ (fJ (dG gW (by rfl) T.gX boot_isinstance (a_ (cX (pv 1) cI) (a_ (gP (v:=.ty "str") rfl T.uq boot_str rfl) cG))))) (g_ (di gH (cX (pv 1) cI) (cX (pv 2) cI) (c9 _))))) (cO (cS f9)) dt)
  (cK (tz (i:=4) nd rfl d9 (g:=(eG 0)) (tt:=(iG (d6 l7 (d6 (gm K) (dF 0) (tC (.int 0))) (d6 (gm K) (dF 3) (tC (.int 0)))))) (te:=(d6 (gm K) (dF 0) (tC (.int 1)))) (own:=["_law_pair"]) rfl (gD (N:=XM) (sc:=eP (top 57))) (gR (cX (pv 0) cI)) (λ_ _ _ _ _=>(dy (i:=0) (show(["_law_pair","_law_kind_here","_law_found","_law_due","_law_name","_law_inner_here"]:List Str).Nodup by decide +kernel) rfl (Or.inl rfl) (.inr rfl))) (λ_ _ _ _ _=>(ku (di dO (cX (pv 0) cI) (cX (pv 3) cI) (c9 _)))) (λ_ _ _ _ _=>(cX (pv 0) cI)))
  (cO (cS (cT aa hr (a_ (fE (pv 4) cI) (a_ (cX (pv 1) cI) (a_ (cX (pv 2) cI) cG)))))))) dt)
  (cK (dq (PW.pt (gQ (f_ (fJ (dG gW (by rfl) T.gX boot_isinstance (a_ (cX (pv 1) cI) (a_ (gP (v:=.ty "list") rfl T.lA boot_list rfl) cG))))) (g_ (di gH (dG fC (by rfl) T.eT PySem.boot_len (a_ (cX (pv 1) cI) cG)) (dG fC (by rfl) T.eT PySem.boot_len (a_ (cX (pv 2) cI) cG)) (c9 _))))) (cO (cS f9)) dt)
  (cK (dq (f_ (fJ (cT aa hr (a_ (cX (pv 0) cI) (a_ (cX (pv 1) cI) (a_ (cX (pv 2) cI) cG)))))) (cO (cS f9)) dt)
  (cO (cS (dG (o5 rfl) (by rfl) T.pE boot_all (a_ (ib (g:=(oJ K 2 (j7 (eG 0) (j7 (eG 1) oI)))) (tt:=jk) (te:=(kg _ _ _ (fA (dF 2) (fA (dF 0) (fA (dF 1) gU))))) (own:=["_law_a","_law_b"]) rfl (gD (N:=XM) (sc:=eP (top 57))) (yp rfl T.y_ (a_ (cX (pv 1) cI) (a_ (cX (pv 2) cI) cG))) (λ_ _ _ _ _=>(hZ rfl (eY (dy (i:=0) (show(XN:List Str).Nodup by decide +kernel) rfl (Or.inl rfl) (.inr rfl)) (eY (dy (i:=1) (show(XN:List Str).Nodup by decide +kernel) rfl (Or.inl rfl) (.inr rfl)) hX)))) (λ_ _ _ _ _=>kr) (λ_ _ _ _ _=>(cT aa hr (a_ (pv 2) (a_ (pv 0) (a_ (pv 1) cG)))))) cG)))))))))))),?_⟩
 ac_rfl
 cases k with
 |num=>
  replace hF:=hF.l (λ_ z=>by cases z);unfold KA at hk;obtain⟨a,rfl,ha⟩:=hk;obtain⟨rfl,hF⟩:=hF;unfold d8 at hF;obtain⟨z,rfl⟩:=hF;unfold Own at ai aj;obtain⟨rfl,rfl⟩:=ai;obtain⟨rfl,rfl⟩:=aj;refine jL rfl ha rfl (by decide +kernel) ?_;refine⟨_,rfl,_,_,_,true,rfl,.int z,rfl,true,rfl,fo ?_⟩;refine⟨_,rfl,_,_,_,false,rfl,.int z,rfl,false,rfl,true,rfl,fo ?_⟩;refine⟨_,rfl,_,rfl,rfl,?_⟩;rw[decide_eq_true rfl];exact q _ (Same.refl _)
 |eu=>
  replace hF:=hF.l (λ_ z=>by cases z);unfold KA at hk;obtain⟨a,rfl,ha⟩:=hk;obtain⟨rfl,hF⟩:=hF;unfold d8 at hF;obtain⟨z,rfl⟩:=hF;unfold Own at ai aj;obtain⟨rfl,rfl⟩:=ai;obtain⟨rfl,rfl⟩:=aj;refine e7 rfl ha rfl (by decide +kernel) ?_;refine jL rfl ha rfl (by decide +kernel) ?_;refine⟨_,rfl,_,_,_,true,rfl,.str _,rfl,true,rfl,fo ?_⟩;refine⟨_,rfl,_,rfl,rfl,?_⟩;rw[decide_eq_true rfl];exact q _ (Same.refl _)
 |c8 fs=>
  unfold KA at hk;obtain⟨a,b,xs,rfl,ha,hb,ak⟩:=hk;obtain⟨m,m2,rfl,rfl,hU⟩:=hF.r;unfold Own at ai aj;obtain⟨c1,aK,g1,rfl,ab,rfl,aq⟩:=ai;obtain⟨c2,bg,g2,rfl,af,rfl,au⟩:=aj;unfold Kd.W at hW;unfold D.Sm at ao;simp only[D.dep] at az;have aS:m.dep<=n:=by omega
  refine e7 rfl ha rfl (by decide +kernel) ?_;refine e7 rfl ha rfl (by decide +kernel) ?_;refine jL rfl ha rfl (by decide +kernel) ?_;have el:aK.length=xs.length:=by rw[dk.len aq,FA.len fs ak];exact hU.1
  refine⟨_,rfl,_,_,_,true,rfl,.dK ab,rfl,true,rfl,dX ?_⟩;refine⟨_,rfl,.inl ⟨c1,_,rfl,ab,_,rfl,a,_,_,_,rfl,rfl,cJ.of ha,rfl,b,_,rfl,.inr (cJ.of hb),rfl,_,rfl,?_⟩⟩;refine lb (show V.int (aK.length:Nat)=V.int (xs.length:Nat) by rw[el]) ?_;refine⟨_,rfl,a,_,_,_,rfl,rfl,cJ.of ha,rfl,b,rfl,⟨_,cJ.of hb⟩,lY (xs:=xs) (λi σ H'=>Same H H'/\∃x y,σ=[some (.ref a),some (.ref c1),some (.ref c2),x,y]) ⟨Same.refl _,_,_,rfl⟩ ?_ ?_ ?_⟩
  . rintro i σ H' _ ⟨s2,_⟩;exact cJ.of (s2 _ _ hb)
  . rintro i v σ H' hv ⟨s2,x,y,rfl⟩;obtain⟨c,u,nm,k,rfl,ag,hc,hk⟩:=FA.get fs ak hv;obtain⟨d,d',hd,hd2,ax⟩:=hU.2 _ _ (Fs.nz hW.1 ag);obtain⟨e1,f1,aY,aU,_⟩:=dk.val _ aq hd;obtain⟨e2,f2,aZ,aV,_⟩:=dk.val _ au hd2;have g1:d5 H' c1 (.str nm) (some e1):=by have:=d5.k (k:=Sum.inr nm) (s2 _ _ ab);rw[aY] at this;exact this
    have g2:d5 H' c2 (.str nm) (some e2):=by have:=d5.k (k:=Sum.inr nm) (s2 _ _ af);rw[aZ] at this;exact this
    refine⟨c,_,rfl,cJ.of (s2 _ _ hc),rfl,_,_,rfl,_,_,rfl,rfl,?_⟩;refine⟨_,rfl,_,rfl,c1,_,rfl,g1,false,rfl,dX ?_⟩;refine⟨_,rfl,_,rfl,_,rfl,c1,e1,rfl,g1,_,rfl,_,rfl,c2,e2,rfl,g2,u,e1,e2,k,d,d',f1,f2,rfl,KA.mono (Tu.of s2) k hk,Fs.pd hW.2.2 ag,Own.same s2 aU,Own.same s2 aV,ax,Q0b (Ds.ue hd) aS,Ds.uF ao.2 hd,λH3 s3=>⟨true,rfl,dX ?_⟩⟩;exact⟨s2.trans s3,_,_,rfl⟩
  . rintro σ H' ⟨s2,_⟩;exact q _ s2
 |rows key bj fs=>
  replace hF:=hF.l (λ_ z=>by cases z);unfold KA at hk;obtain⟨a,b,xs,rfl,ha,hb,ak⟩:=hk;obtain⟨x1,x2,rfl,rfl,hlen,a3⟩:=hF;unfold Own at ai aj;obtain⟨c1,ae,g1,rfl,ab,rfl,aq⟩:=ai;obtain⟨c2,ah,g2,rfl,af,rfl,au⟩:=aj;unfold Kd.W at hW;unfold D.Sm at ao;simp only[D.dep] at az;have ar:ae.length=x1.len:=dj.len _ aq;have av:ah.length=x1.len:=(dj.len _ au).trans hlen.symm;have aW:=ao.1;refine e7 rfl ha rfl (by decide +kernel) ?_;refine e7 rfl ha rfl (by decide +kernel) ?_;refine e7 rfl ha rfl (by decide +kernel) ?_;refine jL rfl ha rfl (by decide +kernel) ?_;refine⟨_,rfl,_,_,_,true,rfl,.lst ab,rfl,true,rfl,dX ?_⟩;refine⟨_,rfl,.inr ⟨c1,_,rfl,.inl (cM.of ab),_,rfl,c2,_,rfl,.inl (cM.of af),rfl,_,rfl,lb (show V.int (ae.length:Nat)=V.int (ah.length:Nat) by rw[ar,av]) ?_⟩⟩;refine⟨_,rfl,_,rfl,c1,c2,rfl,⟨_,cM.of ab⟩,⟨_,cM.of af⟩,λi m zs H'=>m=ae.length - i/\i<=ae.length/\zs=(List.replicate i true).map V.bl/\Same H H',⟨ae.length,rfl,Q0c _,rfl,Same.refl _⟩,?_⟩;rintro i mm zs H' ⟨rfl,aX,rfl,s2⟩;by_cases hi:i<ae.length
  . have aB:i<ah.length:=by omega
    refine .inr ⟨⟨ae,ah,ae[i],ah[i],cM.of (s2 _ _ ab),cM.of (s2 _ _ af),Q03 hi,Q03 aB⟩,by rw[Q01,Q1e];exact eE (by omega),λx a4 y=>?_⟩;obtain⟨p,y1,y2,hp,rfl,e1,e2,rfl⟩:=y;have e1:=e1 _ (cM.of (s2 _ _ ab));have e2:=e2 _ (cM.of (s2 _ _ af));obtain⟨d,fa,ag,aC,_⟩:=dj.get _ aq e1;obtain⟨d',fb,ay,aD,_⟩:=dj.get _ au e2;obtain⟨m1,m2,rfl,rfl,hm⟩:=a3 _ _ _ ag ay;have a5:=Ds.jN ag;have s3:Same H' (upd H' p (.tup [y1,y2])):=Same.new hp;have sa:=s2.trans s3;refine⟨p,_,rfl,cJ.of cV,rfl,_,_,rfl,_,_,rfl,rfl,rfl,yes (fo ?_)⟩;refine⟨_,rfl,a,_,_,_,rfl,rfl,cJ.of (sa _ _ ha),rfl,gx,λt ht=>?_⟩;have st:Same (upd H' p (.tup [y1,y2])) (upd (upd H' p (.tup [y1,y2])) t (.tup [.str "record",.ref b])):=Same.new ht;have sb:=sa.trans st;refine⟨_,rfl,_,rfl,.ref t,y1,y2,.c8 fs,.dct m1,.dct m2,fa,fb,rfl,?_,?_,Own.same sb aC,Own.same sb aD,?_,by omega,Ds.rd ao.2 ag,λH3 s4=>?_⟩
    . unfold KA;exact⟨t,b,xs,rfl,cV,sb _ _ hb,FA.mono (Tu.of sb) fs ak⟩
    . unfold Kd.W;exact⟨hW.1,hW.2.1,hW.2.2.1⟩
    . exact .oth ⟨m1,m2,rfl,rfl,hm⟩
    . refine⟨ae.length - (i+1),by omega,rfl,hi,?_,sb.trans s4⟩;rw[List.replicate_succ',Q0h];rfl
  . refine .inl ⟨⟨ae,ah,cM.of (s2 _ _ ab),cM.of (s2 _ _ af),.inl (Q0y hi)⟩,λp hp=>⟨p,List.replicate i true,rfl,cM.of cV,?_⟩⟩;rw[AU];exact q _ (s2.trans (Same.new hp))
 |tree k=>
  replace hF:=hF.l (λ_ z=>by cases z);have a6:=hk;unfold KA at hk;obtain⟨a,u,rfl,ha,a7⟩:=hk;have hF:i8 (gL k) d d2:=hF;have a8:=hW;unfold Kd.W at hW;obtain⟨x,y,x',y',t,t',as,bo,rfl,rfl,a9,aL,ak⟩:=hF.shape;obtain⟨c1,u1,w1,aE,bp,rfl,ab,rfl,aF,aM⟩:=ai.pair;obtain⟨c2,u2,w2,aG,bq,rfl,af,rfl,aH,aN⟩:=aj.pair;unfold Own at aM aN;obtain⟨l1,ae,g1,rfl,ar,rfl,aq⟩:=aM;obtain⟨l2,ah,g2,rfl,av,rfl,au⟩:=aN;simp only[D.dep,Ds.dep] at az;unfold D.Sm Ds.Sm at ao;obtain⟨_,aO,aw⟩:=ao;unfold Ds.Sm at aw;have aI:=aw.1;unfold D.Sm at aI;have aW:=aI.1;have ba:ae.length=as.len:=dj.len _ aq;have bb:ah.length=as.len:=(dj.len _ au).trans aL.symm;refine e7 rfl ha rfl (by decide +kernel) ?_;refine e7 rfl ha rfl (by decide +kernel) ?_;refine e7 rfl ha rfl (by decide +kernel) ?_;refine e7 rfl ha rfl (by decide +kernel) ?_;refine⟨_,rfl,_,_,_,true,rfl,.tup ab,rfl,true,rfl,dX ?_⟩;refine⟨_,rfl,.inr ⟨c1,_,rfl,.inr (cJ.of ab),rfl,_,rfl,lb rfl ?_⟩⟩;refine e7 rfl ha rfl (by decide +kernel) ?_;refine⟨_,rfl,c1,_,_,_,rfl,rfl,cJ.of ab,rfl,_,_,_,true,rfl,.lst ar,rfl,true,rfl,dX ?_⟩;refine⟨_,rfl,c1,_,_,_,rfl,rfl,cJ.of ab,rfl,l1,_,rfl,.inl (cM.of ar),_,rfl,c2,_,_,_,rfl,rfl,cJ.of af,rfl,l2,_,rfl,.inl (cM.of av),rfl,_,rfl,lb (show V.int (ae.length:Nat)=V.int (ah.length:Nat) by rw[ba,bb]) ?_⟩;refine⟨_,rfl,a,_,_,_,rfl,rfl,cJ.of ha,rfl,_,rfl,c1,_,_,_,rfl,rfl,cJ.of ab,rfl,_,rfl,c2,_,_,_,rfl,rfl,cJ.of af,rfl,u,u1,u2,k,t,t',aE,aG,rfl,a7,hW,aF,aH,.oth (AL.of0 a9),by omega,aO,λH1 s1=>⟨true,rfl,dX ?_⟩⟩;refine⟨_,rfl,c1,_,_,_,rfl,rfl,cJ.of (s1 _ _ ab),rfl,_,rfl,c2,_,_,_,rfl,rfl,cJ.of (s1 _ _ af),rfl,l1,l2,rfl,⟨_,cM.of (s1 _ _ ar)⟩,⟨_,cM.of (s1 _ _ av)⟩,λi m zs H'=>m=ae.length - i/\i<=ae.length/\zs=(List.replicate i true).map V.bl/\Same H H',⟨ae.length,rfl,Q0c _,rfl,s1⟩,?_⟩;rintro i mm zs H' ⟨rfl,aX,rfl,s2⟩;by_cases hi:i<ae.length
  . have aB:i<ah.length:=by omega
    refine .inr ⟨⟨ae,ah,ae[i],ah[i],cM.of (s2 _ _ ar),cM.of (s2 _ _ av),Q03 hi,Q03 aB⟩,by rw[Q01,Q1e];exact eE (by omega),λx a4 y=>?_⟩;obtain⟨p,x1,x2,hp,rfl,e1,e2,rfl⟩:=y;have e1:=e1 _ (cM.of (s2 _ _ ar));have e2:=e2 _ (cM.of (s2 _ _ av));obtain⟨d,fa,ag,aC,_⟩:=dj.get _ aq e1;obtain⟨d',fb,ay,aD,_⟩:=dj.get _ au e2;have a5:=Ds.jN ag;have s3:Same H' (upd H' p (.tup [x1,x2])):=Same.new hp;have sa:=s2.trans s3;refine⟨p,_,rfl,cJ.of cV,rfl,_,_,rfl,_,_,rfl,rfl,rfl,yes (fo ?_)⟩;refine⟨_,rfl,_,rfl,_,rfl,.ref a,x1,x2,.tree k,d,d',fa,fb,rfl,KA.mono (Tu.of sa) _ a6,a8,Own.same sa aC,Own.same sa aD,.oth (ak _ _ _ ag ay),by omega,Ds.rd aI.2 ag,λH3 s4=>?_⟩;refine⟨ae.length - (i+1),by omega,rfl,hi,?_,sa.trans s4⟩;rw[List.replicate_succ',Q0h];rfl
  . refine .inl ⟨⟨ae,ah,cM.of (s2 _ _ ar),cM.of (s2 _ _ av),.inl (Q0y hi)⟩,λp hp=>⟨p,List.replicate i true,rfl,cM.of cV,?_⟩⟩;rw[AU];exact q _ (s2.trans (Same.new hp))
 |e8 fs=>
  replace hF:=hF.l (λ_ z=>by cases z);unfold KA at hk;obtain⟨a,b,xs,rfl,ha,hb,ak⟩:=hk;obtain⟨rfl,hF⟩:=hF;unfold d8 at hF;obtain⟨x,v',rfl,hE⟩:=hF;obtain⟨c1,z1,u1,br,aE,rfl,ab,rfl,aP,aF⟩:=ai.pair;obtain⟨c2,z2,u2,bu,aG,rfl,af,rfl,aQ,aH⟩:=aj.pair;unfold Own at aP aQ;obtain⟨rfl,rfl⟩:=aP;obtain⟨rfl,rfl⟩:=aQ;unfold Kd.W at hW;simp only[D.dep,Ds.dep] at az;unfold D.Sm Ds.Sm at ao;obtain⟨_,aO,aw⟩:=ao;unfold Ds.Sm at aw;obtain⟨k,aA,ax⟩:=uZ hE;obtain⟨j,hj⟩:=Fs.u6 aA;obtain⟨c,u,aJ,hc,be⟩:=FA.at ak hj;have bw:j<xs.length:=(List.getElem?_eq_some_iff.mp aJ).1;have aL:xs.length<=60:=by rw[FA.len fs ak];exact hW.2.1
  refine e7 rfl ha rfl (by decide +kernel) ?_;refine e7 rfl ha rfl (by decide +kernel) ?_;refine e7 rfl ha rfl (by decide +kernel) ?_;refine e7 rfl ha rfl (by decide +kernel) ?_;refine⟨_,rfl,_,_,_,true,rfl,.tup ab,rfl,true,rfl,dX ?_⟩;refine⟨_,rfl,.inr ⟨c1,_,rfl,.inr (cJ.of ab),rfl,_,rfl,lb rfl ?_⟩⟩;refine jL rfl ha rfl (by decide +kernel) ?_;refine⟨_,rfl,c1,_,_,_,rfl,rfl,cJ.of ab,rfl,_,_,_,true,rfl,.str _,rfl,true,rfl,dX ?_⟩;refine⟨_,rfl,c1,_,_,_,rfl,rfl,cJ.of ab,rfl,_,rfl,c2,_,_,_,rfl,rfl,cJ.of af,rfl,rfl,_,rfl,lb rfl ?_⟩;refine⟨_,rfl,a,_,_,_,rfl,rfl,cJ.of ha,rfl,b,rfl,⟨_,cJ.of hb⟩,HI (HH (cJ.of hb)) (λi=>if j<i then [u] else []) (by omega) (λp hp=>?_) (λi z hv add skip=>?_) (if_neg (Q1o _))⟩
  . rw[if_pos (List.getElem?_eq_some_iff.mp aJ).1];have s1:Same H (upd H p (.lst [u])):=Same.new hp
    exact⟨_,rfl,p,_,_,_,rfl,rfl,cM.of cV,fe (j:=0) rfl,_,rfl,c1,_,_,_,rfl,rfl,cJ.of (s1 _ _ ab),rfl,_,rfl,c2,_,_,_,rfl,rfl,cJ.of (s1 _ _ af),rfl,
     u,u1,u2,k,v',v',aE,aG,rfl,KA.mono (Tu.of s1) k be,Fs.u3 hW.2.2.2 aA,Own.same s1 aF,Own.same s1 aH,.of ax,by omega,aw.1,λH2 s2=>q _ (s1.trans s2)⟩
  . obtain⟨d,w',nm,k',rfl,ag,hd,bx⟩:=FA.get _ ak hv;refine⟨rfl,_,rfl,d,_,_,_,rfl,rfl,cJ.of hd,rfl,_,rfl,c2,_,_,_,rfl,rfl,cJ.of af,rfl,rfl,_,rfl,dz (λcc=>?_) (λcc=>skip ?_)⟩
    . have e:nm=x:=by
       have:=of_decide_eq_true cc;injection this
      subst e
      cases Fs.HJ hW.1 ag hj;rw[aJ] at hv
      cases hv;rw[hc] at hd
      cases hd;refine⟨_,rfl,c,_,_,_,rfl,rfl,cJ.of hc,rfl,add _ ?_⟩;rw[if_neg (Q0w _),if_pos (Q14 _)];rfl
    . have ne:i≠j:=λe=>by
       subst e;rw[ag] at hj
       cases hj;exact cc (decide_eq_true rfl)
      by_cases aR:j<i
      . rw[if_pos aR,if_pos (by omega)]
      . rw[if_neg aR,if_neg (by omega)]
theorem AX (T:Tb mg)(Z:cW es K mg):∀n:Nat,Ok P w K mg base cH "_law_alike" Xe (n+1) (pP n)
 |0=>by
  have no:∀vs H Q E,¬pP 0 vs H Q E:=λvs H Q E h=>by
   obtain⟨_,_,_,_,d,_,_,_,_,_,_,_,_,_,hd,_⟩:=h;have:=d.jm;omega
  exact Z.no no
 |n+1=>HL n T Z (AX T Z n)
end Pb
namespace L2
open Spec PyProof.Rows
noncomputable def AY (a:Addr) (o:Obj) (kvs:List (Key × V)):It:=
 ⟨λi H=>i<kvs.length/\H a=some (.e_ o (.dK kvs)),λi H x H'=>H'=H/\∃p,kvs[i]? =some p/\x=kV p.1,λi H=>kvs.length<=i/\H a=some (.e_ o (.dK kvs))⟩
theorem AZ:∀{kvs:List (Key × V)}{vs:List (Key × Value)}{i:Nat}{p:Key × V},KV kvs vs->kvs[i]? =some p->∃v,vs[i]? =some (p.1,v)
 |_,_,i,p,.nil,h=>by simp at h
 |_,_,0,p,.cons (b:=b) h t,e=>by
  have e:=Option.some.inj (show some _=some p from e);subst e;exact⟨b.2,by show some b=_;rw[h.1]⟩
 |_,_,i+1,p,.cons h t,e=>AZ (i:=i) t e
theorem HM(h:(eQ P w).is k u=true):RelV (kV k) u:=by
 have h:lS k u=true:=h;rcases jB h with⟨i,t,rfl,rfl⟩|⟨x,t,rfl,rfl⟩
 . exact⟨t,rfl⟩
 . exact⟨t,rfl⟩
theorem HN {P:Program}{w:World}{K:W.Frag}{tg:Expr}{a it:Addr}{o:Obj}{kvs:List (Key × V)}{vs:List (Key × Value)}{ep:Nat}(rel:KV kvs vs)(ha:∀h:Heap,h.get? a=some o->h.DictAt (eQ P w) a vs ep):
 Turn P w K tg (AY a o kvs) [it] it (λi h=>h.IsKeyIter it a i vs.length ep) where
 mem:=by simp
 obj:=λi h st b hb=>by
  have e:b=it:=by simpa using hb
  subst e;obtain⟨o,e,c,d⟩:=st;exact⟨o,e,λv z=>by rw[d] at z;cases z⟩
 keep:=λi h h' st k=>st.at λo e=>k it (by simp) o e
 item:=by
  intro X hP hw hK hc i pins s σ H E I hf st hg;subst hP hw hK;obtain⟨hi,aa⟩:=hg;obtain⟨ab,_⟩:=I.hok a _ aa;have hp:kvs[i]? =some kvs[i]:=Q03 hi;obtain⟨v,hv⟩:=AZ rel hp;obtain⟨f0,f1,f2,f3,f4,f5⟩:=hf it (by simp);refine wpAny_pyNext_dict_item st (ha _ ab) hv λkey h' hk ae sb=>?_;have I1:Inv X pins σ H { s with heap:=h' }:=I.turned (t':=s.toks) (λb o hb e=>(sb.2 b hb).trans e) f0 f1 f3 f4 f5;obtain⟨o,e,c,d⟩:=id ae;exact⟨key,rfl,oK (s:={ s with heap:=h' }) e c d (by decide) ⟨kV kvs[i].1,H,I1,HM hk,⟨rfl,_,hp,rfl⟩,ae,λb hb=>(hf b hb).1⟩⟩
 done:=by
  intro X hP hw hK hc i pins s σ H E I hf st hg;subst hP hw hK;obtain⟨hi,aa⟩:=hg;obtain⟨ab,_⟩:=I.hok a _ aa;obtain⟨f0,f1,f2,f3,f4,f5⟩:=hf it (by simp);have hl:=Paired.length rel;exact wpAny_pyNext_dict_end (I.ok.hd hc) st (ha _ ab) (List.getElem?_eq_none (by omega)) λh' eb=>⟨rfl,I.turned (t':=s.toks) (λb o hb e=>eb b o hb e) f0 f1 f3 f4 f5⟩
 self:=λ_ _ _ _ _ st h=>wpAny_pyIter_keyiter st h
section
variable {X:Cx}{tg:Expr}
def rA (H0:Hp) (a:Addr):Prop:=∀o u,H0 a≠some (.e_ o u)
inductive A0 (H0:Hp) (R:It->Hp->Prop) (x:V) (H1:Hp):Prop
 |mk (a:_) (kvs:_) (h0:x=.ref a) (h1:H1 a=some (.dK kvs)) (h2:∀o,rA H0 a->R (AY a o kvs) (upd H1 a (.e_ o (.dK kvs)))):A0 H0 R x H1
def A1 (H0:Hp) (tl:TE):TI:=λσ H R=>tl σ H (A0 H0 R)
theorem Inv.freeze(I:Inv X pins σ H s)(h:H a=some (.dK kvs)):
 ∃o vs ep,KV kvs vs/\(a == sysModules)=false/\s.heap.get? a=some o/\(∀h:Heap,h.get? a=some o->h.DictAt (eQ X.prog X.w) a vs ep)/\rA X.H₀ a/\Inv X pins σ (upd H a (.e_ o (.dK kvs))) s:=by
 obtain⟨z,hd,vs,rel,o,es,ep,e1,e2⟩:=id (I.hok a _ h);refine⟨o,vs,ep,rel,hd,e1,λh' e=>⟨o,es,e,e2⟩,λo' u z'=>?_,?_⟩
 . have:=I.base.ip a o' u z';rw[h] at this;cases this
 . have u:Un X.fs [] H (upd H a (.e_ o (.dK kvs))) s.heap s.heap:=Un.write (x:=a) (e:=a) (by rw[h];trivial) (.inl rfl) (λb u _ q=>q) ⟨o,e1⟩;refine I.un (t':=s.toks) u λb v e=>?_;by_cases hb:b=a
   . subst hb;rw[cV] at e
     cases e;exact⟨e1,z,hd,vs,rel,o,es,ep,e1,e2⟩
   . rw[cQ hb] at e;exact(I.hok b v e).stay (λc w _ q=>q) (λc q=>by rw[cQ (λz'=>by rw[z',h] at q;cases q)];exact q) λc xs q=>by rw[cQ (λz'=>by rw[z',h] at q;cases q)];exact q
theorem Inv.HP(I:Inv X pins σ H s)(h:H a=some (.e_ o (.dK kvs)))(hz:rA X.H₀ a):Inv X pins σ (upd H a (.dK kvs)) s:=by
 have nn:∀{b:Addr},H b=none->upd H a (.dK kvs) b=none:=λ{b} e=>by rw[cQ (λz=>by rw[z,h] at e;cases e)];exact e
 refine⟨I.ok,I.os,I.bare,⟨I.base.keep,I.base.slot,λb u q n hx=>nn (I.base.free b u q n hx),I.base.there,λb xs q=>?_,λb o' u q=>?_,λb ps q=>?_⟩,I.loc,I.cell,nn I.free,λx c e=>nn (I.gO x c e),λp hp=>?_,λb v e=>?_,I.len⟩
 . have:=I.base.tups b xs q;rw[cQ (λz=>by rw[z,h] at this;cases this)];exact this
 . have:=I.base.ip b o' u q;rw[cQ (λz=>hz o' u (by rw[<-z];exact q))];exact this
 . obtain⟨more,this⟩:=I.base.iE b ps q;exact⟨more,by rw[cQ (λz=>by rw[z,h] at this;cases this)];exact this⟩
 . obtain⟨p1,p2,p3⟩:=I.pin p hp;exact⟨p1,nn p2,p3⟩
 . by_cases hb:b=a
   . subst hb;rw[cV] at e
     cases e;exact(I.hok b _ h).2
   . rw[cQ hb] at e;exact(I.hok b v e).stay (λc w _ q=>q) (λc q=>by rw[cQ (λz'=>by rw[z',h] at q;cases q)];exact q) λc xs q=>by rw[cQ (λz'=>by rw[z',h] at q;cases q)];exact q
theorem HQ(hl:PE X l tl):PI X tg l (A1 X.H₀ tl):=by
 intro pins s σ H R I h;refine dg (hl pins s σ H _ I h) λv s1 zq=>?_;obtain⟨x,H1,I1,r1,q1⟩:=zq;obtain⟨a,kvs,e,hq,q⟩:=q1;subst e
 cases r1;obtain⟨o,vs,ep,rel,hs,ab,aa,hz,I2⟩:=I1.freeze hq;refine wpAny_pyIter_dict hs (aa _ ab) ?_;refine⟨s1.heap.objs.size,[s1.heap.objs.size],_,_,upd H1 a (.e_ o (.dK kvs)),rfl,I2.kept (t':=s1.toks) λb o e=>Q06 _ e,HN rel aa,⟨_,Q0i _ rfl,rfl,rfl⟩,λb hb=>?_,q o hz⟩;have e:b=s1.heap.objs.size:=by simpa using hb
 subst e;exact I2.j8 (Q0 _) (I2.hok.fresh (Q0 _))
theorem HS(h0:X.H₀=H0)(hl:PE X l tl):PI X tg l (A1 H0 tl):=by
 subst h0;exact HQ hl
inductive A2 (H0:Hp) (Q:V->Hp->Prop) (v:V) (H':Hp):Prop
 |mk (a:_) (o:_) (kvs:_) (h0:rA H0 a) (h1:H' a=some (.e_ o (.dK kvs))) (h2:Q v (upd H' a (.dK kvs))):A2 H0 Q v H'
def HV (H0:Hp) (t:TE):TE:=λσ H Q=>t σ H (A2 H0 Q)
theorem HW(h0:X.H₀=H0)(h:PE X e t):PE X e (HV H0 t):=by
 subst h0;intro pins s σ H Q I q;refine dg (h pins s σ H _ I q) λv s1 zq=>?_;obtain⟨x,H1,I1,r1,q1⟩:=zq;obtain⟨a,o,kvs,hz,ha,q1⟩:=q1;exact⟨x,_,I1.HP ha hz,r1,q1⟩
end
section
variable {prog:Program}{w:World}{A:Around}{E:Value->Shared->Prop}{s:Shared}
end
section
variable {X:Cx}
end
end L2
namespace Pb
open L2
end Pb
namespace L2
open Spec PyProof.Rows
section
variable {X:Cx}
inductive A4 (xs:List V) (H:Hp) (Q:V->Hp->Prop):Prop
 |mk (a:_) (kvs:_) (h0:xs=[.ref a]) (h1:H a=some (.dK kvs)) (h2:∀l,H l=none->Q (.ref l) (upd H l (.dK kvs))):A4 xs H Q
theorem A5:iq X (.type "dict") A4:=by
 intro pins s σ H xs us Q I r h;obtain⟨a,kvs,rfl,hH,q⟩:=h;obtain⟨u,rfl,ru⟩:=vals1 r
 cases ru;obtain⟨z,sm,vs,kv,dd⟩:=qJ I.hok hH;refine kt_call_dict sm dd (by rw[<-kv.length];exact z) λh' hd hs=>?_;have hb:(s.heap.objs.size == sysModules)=false:=beq_eq_false_iff_ne.mpr (Q0v I.big);refine⟨.ref s.heap.objs.size,_,I.laid (a:=s.heap.objs.size) (o:=.dK kvs) (t':=s.toks) (λb o e=>?_) (Q0 _) ⟨z,hb,vs,kv,hd⟩,rfl,q _ (I.hok.fresh (Q0 _))⟩;exact hs.extBut b o (Q08 (Q02 e)) (Q06 _ e)
end
end L2
namespace Pb
open L2 PyProof.Rows
noncomputable def dv (f:Str->V) (ss:List Str):List (Key × V):=ss.map λx=>(Sum.inr x,f x)
theorem i9 (f:Str->V):∀(ss:List Str) (x:Str),e6 (dv f ss) (Sum.inr x)=if x∈ss then some (f x) else none
 |[],x=>by
  rw[if_neg (by simp)];rfl
 |y::r,x=>by
  show e6 ((Sum.inr y,f y)::dv f r) (Sum.inr x)=_;by_cases e:y=x
  . rw[oS (by show Sum.inr y=Sum.inr x;rw[e]),if_pos (by rw[e];exact Q04)];show some (f y)=_;rw[e]
  . rw[oU (λz=>e (Sum.inr.inj z)),i9 f r x];by_cases h:x∈r
    . rw[if_pos h,if_pos (Q09 _ h)]
    . rw[if_neg h,if_neg λz=>(List.mem_cons.mp z).elim (λz=>e z.symm) h]
theorem A6 (f:Str->V)(h:x ∉ ss):putK (dv f ss) (Sum.inr x) (f x)=dv f (ss++[x]):=by
 unfold putK;rw[if_neg]
 . unfold dv;rw[Q0h];rfl
 . rw[nh,i9,if_neg h]
   decide
theorem lJ (f:Str->V)(ss:List Str):(dv f ss).length=ss.length:=Q01 _
theorem u7 {ss:List Str}{i:Nat}(h:(ss.map V.str)[i]? =some v):∃x,ss[i]? =some x/\v=.str x:=by
 rw[Q0g] at h
 cases e:ss[i]? with
 |none=>rw[e] at h;cases h
 |some x=>rw[e] at h;exact⟨x,rfl,(Option.some.inj h).symm⟩
noncomputable def eU (ss ns:List Str):List Str:=ns.filter λx=>decide (x ∉ ss)
theorem fU:x∈eU ss ns↔x∈ns/\x ∉ ss:=by
 unfold eU;rw[Q1s];exact⟨λh=>⟨h.1,of_decide_eq_true h.2⟩,λh=>⟨h.1,decide_eq_true h.2⟩⟩
theorem A7:∀{kvs:List (Key × V)},(kvs.map (·.1)).Nodup->(∀k∈kvs.map (·.1),∃x:Str,k=Sum.inr x)->∃(f:Str->V) (l:List Str),kvs=dv f l/\l.Nodup
 |[],_,_=>⟨λ_=>.non,[],rfl,.nil⟩
 |(k,v)::r,nd,h=>by
  obtain⟨n1,n2⟩:=List.nodup_cons.mp nd;obtain⟨x,e⟩:=h k Q04;have e:k=Sum.inr x:=e;subst e;obtain⟨f,l,rfl,hl⟩:=A7 n2 λk hk=>h k (Q09 _ hk)
  have hx:x ∉ l:=λz=>n1 (by
   unfold dv;rw[Q0q];exact List.mem_map.mpr ⟨x,z,rfl⟩)
  refine⟨λy=>if y=x then v else f y,x::l,?_,List.nodup_cons.mpr ⟨hx,hl⟩⟩;unfold dv;rw[Q0m];show(_,v)::_=(_,if x=x then v else f x)::_;rw[if_pos rfl];congr 1;refine Q1c λy hy=>?_;show _=(_,if y=x then v else f y);rw[if_neg (λe=>hx (by rw[<-e];exact hy))]
noncomputable def iy (f:Str->V) (x:Str) (v:V):Str->V:=λy=>if y=x then v else f y
theorem A8 (f:Str->V)(v:V)(h:x ∉ l):putK (dv f l) (Sum.inr x) v=dv (iy f x v) (l++[x]):=by
 have:=A6 (iy f x v) h
 rw[show dv (iy f x v) l=dv f l from by
  unfold dv;refine Q1c λy hy=>?_;show(_,if y=x then v else f y)=_;rw[if_neg (λe=>h (by rw[<-e];exact hy))]] at this
 rw[show iy f x v x=v from if_pos rfl] at this;exact this
theorem A9(v:V)(h:x∈l):putK (dv f l) (Sum.inr x) v=dv (iy f x v) l:=by
 unfold putK;rw[if_pos]
 . unfold dv;rw[Q0q];refine Q1c λy _=>?_;show(if Sum.inr y=(Sum.inr x:Key) then _ else _)=_;unfold iy;by_cases e:y=x
   . subst e;simp
   . simp[e]
 . simp only[Q3f];exact⟨(Sum.inr x,f x),List.mem_map.mpr ⟨x,h,rfl⟩,by simp⟩
noncomputable def fP (x:Str) (l:List Str):List Str:=if x∈l then l else l++[x]
theorem HX(v:V):putK (dv f l) (Sum.inr x) v=dv (iy f x v) (fP x l):=by
 unfold fP;by_cases h:x∈l
 . rw[if_pos h,A9 v h]
 . rw[if_neg h,A8 f v h]
inductive A_ (K:W.Frag) (vs:List V) (H:Hp) (Q:V->Hp->Prop):Prop
 |mk (a:_) (l:_) (kvs:_) (ss:List Str) (f:Str->V) (h0:vs=[.ref a,.ref l]) (h1:H a=some (.dK kvs)) (h2:cM K H l (ss.map V.str)) (h3:ss.Nodup) (h4:ss.length<=60) (h5:(∀x∈ss,e6 kvs (Sum.inr x)=some (f x))) (h6:∀p H',Same H H'->H' p=some (.dK (dv f ss))->H p=none->Q (.ref p) H'):A_ K vs H Q
def rB (K:W.Frag):Sp:=λvs H Q _=>A_ K vs H Q
inductive Ba (K:W.Frag) (vs:List V) (H:Hp) (Q:V->Hp->Prop):Prop
 |mk (a:_) (l:_) (f:Str->V) (ks:List Str) (ss:List Str) (h0:vs=[.ref a,.ref l]) (h1:H a=some (.dK (dv f ks))) (h2:ks.Nodup) (h3:ks.length<=60) (h4:cM K H l (ss.map V.str)) (h5:∀p H',Same H H'->H' p=some (.dK (dv f (eU ss ks)))->H p=none->Q (.ref p) H'):Ba K vs H Q
def rD (K:W.Frag):Sp:=λvs H Q _=>Ba K vs H Q
inductive Bb (vs:List V) (H:Hp) (Q:V->Hp->Prop):Prop
 |mk (a:_) (x:_) (v:_) (f:Str->V) (ks:List Str) (h0:vs=[.ref a,.str x,v]) (h1:H a=some (.dK (dv f ks))) (h2:ks.length<=60) (h3:∀p H',Same H H'->H' p=some (.dK (dv (iy f x v) (fP x ks)))->H p=none->Q (.ref p) H'):Bb vs H Q
def nU:Sp:=λvs H Q _=>Bb vs H Q
inductive Bc (vs:List V) (H:Hp) (Q:V->Hp->Prop):Prop
 |mk (a:_) (x:_) (y:_) (f:Str->V) (ks:List Str) (h0:vs=[.ref a,.str x,.str y]) (h1:H a=some (.dK (dv f ks))) (h2:ks.Nodup) (h3:ks.length<=60) (h4:x∈ks) (h5:∀p H',Same H H'->H' p=some (.dK (dv (iy f y (f x)) (fP y (eU [x] ks))))->H p=none->Q (.ref p) H'):Bc vs H Q
def u9:Sp:=λvs H Q _=>Bc vs H Q
theorem none_of(s:Same H H')(h:H' p=none):H p=none:=by
 cases e:H p with
 |none=>rfl
 |some u=>rw[s _ _ e] at h;cases h
variable {P:Program}{w:World}{K:W.Frag}{mg:Str->Option Value}{base:Heap}
theorem HY (T:Tb mg)(Z:cW es K mg):Ok P w K mg base cH "part_of" XT (1) (rB K):=by
 refine Z.ok ["record","names","part","name"] (top 33) λvs H Q E h=>?_;obtain⟨a,l,kvs,ss,f,rfl,ha,hl,ab,ag,hv,q⟩:=h;refine⟨rfl,λql _ ah A outer s _ nd hr hu=>?_⟩
 refine⟨_,(cK (c_ 2 nd qK)
  (cK (fR PassesOwn.never rfl (k9 (pv 1)) (dy (i:=3) nd rfl d9) (cO (oZ hu (pv 2) (pv 3) (fL hu (pv 0) (pv 3) (λ_ _=>rfl)) rfl)))
  (cO (cS (pv 2))))),?_⟩
 ac_rfl
 intro p hp;have s0:Same H (upd H p (.dK [])):=Same.new hp;refine⟨_,rfl,l,rfl,⟨_,(Pb.cM.mI hl s0)⟩,sE (xs:=ss.map V.str) (λi σ H'=>Same H H'/\(∃z,σ=[some (.ref a),some (.ref l),some (.ref p),z])/\H' p=some (.dK (dv f (ss.take i)))) ⟨s0,⟨_,rfl⟩,cV⟩ ?_ ?_ ?_⟩
 . rintro i σ H' _ ⟨s1,_⟩;exact(Pb.cM.mI hl s1)
 . rintro i v σ H' ae ⟨s1,⟨z,rfl⟩,aa⟩;obtain⟨x,hx,rfl⟩:=u7 ae;have hi:i<ss.length:=(List.getElem?_eq_some_iff.mp hx).1;have af:ss[i]=x:=(List.getElem?_eq_some_iff.mp hx).2;refine⟨_,rfl,_,rfl,a,f x,rfl,?_,_,rfl,_,rfl,p,_,rfl,jJ.k (k:=Sum.inr x) aa (by rw[lJ,Q0n];exact eE (by omega)),?_⟩
   . have:=d5.k (k:=Sum.inr x) (s1 _ _ ha);rw[hv x (Q16 hx)] at this;exact this
   . refine⟨λc o e=>?_,⟨_,rfl⟩,?_⟩
     . rw[cQ]
       . exact s1 c o e
       . exact c6 e hp
     . rw[cV,A6 f,Q0p,hx]
       . rfl
       . intro hm;obtain⟨j,hj,e⟩:=Q0z hm;rw[Q0n] at hj;rw[Q22] at e;exact absurd (e.trans af.symm) (List.pairwise_iff_getElem.mp ab j i (by omega) hi (by omega))
 . rintro σ H' ⟨s1,⟨z,rfl⟩,aa⟩;rw[Q01,Q1r] at aa;exact⟨_,rfl,q p _ s1 aa hp⟩
theorem HZ {f:Str->V}{l:List Str}{i:Nat}(h:l[i]? =some x):(dv f l)[i]? =some (Sum.inr x,f x):=by
 unfold dv;rw[Q0g,h];rfl
theorem H_ (T:Tb mg)(Z:cW es K mg)(aa:Ok P w K mg base cH "part_of" XT (1) (rB K)):Ok P w K mg base cH "rest_of" XT (2) (rD K):=by
 refine Z.ok XT (top 34) λvs H Q E h=>?_;obtain⟨a,l,f,ks,ss,rfl,ha,ag,ah,hl,q⟩:=h;refine⟨rfl,λql _ aq A outer s _ nd hr hu=>?_⟩;refine⟨_,(cO (cS (cT aa hr (a_ (pv 0) (a_ (HW rfl (ib (g:=(eG 0)) (tt:=(iG (d6 (mh K true) (dF 0) (dF 2)))) (te:=(dF 0)) (own:=["name"]) rfl (gD (N:=XT) (sc:=eP (top 34))) (HS rfl (pv 0)) (λ_ _ _ _ _=>(dy (i:=0) (show(["name","record","names"]:List Str).Nodup by decide +kernel) rfl (Or.inl rfl) (.inr rfl))) (λ_ _ _ _ _=>(ku (di qG (pv 0) (pv 2) (by with_unfolding_all rfl)))) (λ_ _ _ _ _=>(pv 0)))) cG))))),?_⟩
 ac_rfl
 refine⟨_,rfl,_,rfl,a,_,rfl,ha,λo hz=>?_⟩;have kf:∀c u,c≠a->H c=some u->upd H a (.e_ o (.dK (dv f ks))) c=some u:=λc u hc e=>by rw[cQ hc];exact e
 have ai:cM K (upd H a (.e_ o (.dK (dv f ks)))) l (ss.map V.str):=by
  rcases hl with(h|⟨o',h⟩)|h
  . exact .inl (.inl (kf _ _ (eK h ha (by intro z;cases z)) h))
  . exact .inl (.inr ⟨o',kf _ _ (eK h ha (by intro z;cases z)) h⟩)
  . exact .inr h
 refine⟨λi m zs H'=>m=ks.length - i/\i<=ks.length/\zs=(eU ss (ks.take i)).map V.str/\H'=upd H a (.e_ o (.dK (dv f ks))),⟨ks.length,rfl,Q0c _,rfl,rfl⟩,?_⟩;rintro i m zs H' ⟨rfl,ar,rfl,rfl⟩;have ab:=cV (H:=H) (a:=a) (o:=.e_ o (.dK (dv f ks)));by_cases hi:i<ks.length
 . have hb:(eU ss (ks.take i)).length<=i:=Q0b (Q1t _ _) (by rw[Q0n];omega);refine .inr ⟨⟨by rw[lJ];exact hi,ab⟩,by rw[Q01];exact eE (by omega),λx au y=>?_⟩;obtain⟨rfl,pr,ae,rfl⟩:=y;have af:ks[i]? =some ks[i]:=Q03 hi;rw[HZ af] at ae
   cases ae
   have step:eU ss (ks.take (i+1))=eU ss (ks.take i)++(if ks[i]∈ss then [] else [ks[i]]):=by
    unfold eU;rw[Q0p,af,Q24];congr 1;show List.filter _ [ks[i]]=_;rw[Q0u];by_cases e:ks[i]∈ss
    . rw[if_neg (by rw[decide_eq_false (λz=>z e)];decide),if_pos e];rfl
    . rw[if_pos (decide_eq_true e),if_neg e];rfl
   refine⟨rfl,_,rfl,_,rfl,l,_,rfl,.inl ai,rfl,kR,_,rfl,?_⟩;refine dz (λcc=>?_) (λcc=>?_)
   . have e:¬ks[i]∈ss:=λz=>by
      have cc:(!inV (V.str ks[i]) (ss.map V.str))=true:=cc;rw[iI,decide_eq_true z] at cc
      cases cc
     refine⟨_,rfl,ks.length - (i+1),by omega,rfl,hi,?_,rfl⟩;rw[step,if_neg e,Q0h];rfl
   . have e:ks[i]∈ss:=Classical.byContradiction λz=>cc (show(!inV (V.str ks[i]) (ss.map V.str))=true by rw[iI,decide_eq_false z];rfl);refine⟨ks.length - (i+1),by omega,rfl,hi,?_,rfl⟩;rw[step,if_pos e,Q19]
 . refine .inl ⟨⟨by rw[lJ];omega,ab⟩,λp hp=>?_⟩;have aj:ks.take i=ks:=Q0x (by omega);rw[aj];have s5:=Same.new hp (o:=.lst ((eU ss ks).map V.str));refine⟨a,o,_,hz,s5 _ _ ab,?_⟩;have ak:p≠a:=λz=>by rw[z,ab] at hp;cases hp
   have s6:Same H (upd (upd (upd H a (.e_ o (.dK (dv f ks)))) p (.lst ((eU ss ks).map V.str))) a (.dK (dv f ks))):=λc u e=>by
    by_cases hc:c=a
    . subst hc;rw[cV,<-ha];exact e
    . rw[cQ hc];exact s5 _ _ (kf _ _ hc e)
   refine⟨a,p,_,eU ss ks,f,rfl,s6 _ _ ha,cM.of (by rw[cQ ak,cV]),ag.filter _,Q0b (Q1t _ _) ah,λx hx=>by rw[i9,if_pos (fU.mp hx).1],λp' H' s7 ao hn=>?_⟩;refine q p' H' (s6.trans s7) ao ?_
   cases e:H p' with
   |none=>rfl
   |some u=>rw[s6 _ _ e] at hn;cases hn
theorem Ia (T:Tb mg)(Z:cW es K mg):Ok P w K mg base cH "with_field" Xf (1) (nU):=by
 refine Z.ok ["record","name","value","fresh"] (top 35) λvs H Q E h=>?_;obtain⟨a,x,v,f,ks,rfl,ha,aa,q⟩:=h;refine⟨rfl,λql _ ab A outer s _ nd hr hu=>?_⟩
 refine⟨_,(cK (c_ 3 nd (jG A5 (by rfl) T.q9 boot_dict (a_ (pv 0) cG)))
  (cK (oZ hu (pv 3) (pv 1) (pv 2) rfl)
  (cO (cS (pv 3))))),?_⟩
 ac_rfl
 refine⟨_,rfl,a,_,rfl,ha,λp hp=>?_⟩;refine⟨_,rfl,_,rfl,_,rfl,p,_,rfl,jJ.k (k:=Sum.inr x) cV (by rw[lJ];exact eE (by omega)),?_⟩;refine⟨_,rfl,q p _ (λc o e=>?_) ?_ hp⟩
 . rw[cQ (c6 e hp),cQ (c6 e hp)];exact e
 . rw[cV,HX]
theorem Ib (T:Tb mg)(Z:cW es K mg)(aa:Ok P w K mg base cH "with_field" Xf (1) (nU))(ab:Ok P w K mg base cH "rest_of" XT (2) (rD K)):Ok P w K mg base cH "renamed" Xp (3) (u9):=by
 refine Z.ok Xp (top 36) λvs H Q E h=>?_;obtain⟨a,x,y,f,ks,rfl,ha,af,ae,hx,q⟩:=h;refine⟨rfl,λql _ ah A outer s _ nd hr hu=>?_⟩;refine⟨_,(cO (cS (cT aa hr (a_ (cT ab hr (a_ (pv 0) (a_ (eR (a_ (pv 1) cG)) cG))) (a_ (pv 2) (a_ (fL hu (pv 0) (pv 1) (λ_ _=>rfl)) cG)))))),?_⟩
 ac_rfl
 refine⟨_,rfl,_,rfl,gw,λp1 ag=>?_⟩;have s1:Same H (upd H p1 (.lst [.str x])):=Same.new ag;refine⟨a,p1,f,ks,[x],rfl,s1 _ _ ha,af,ae,cM.of cV,λp2 H2 s2 h2 n2=>?_⟩;refine⟨_,rfl,_,rfl,_,rfl,a,f x,rfl,?_,?_⟩
 . have:=d5.k (k:=Sum.inr x) (s2 _ _ (s1 _ _ ha));rw[i9,if_pos hx] at this;exact this
 refine⟨p2,y,_,f,eU [x] ks,rfl,h2,Q0b (Q1t _ _) ae,λp3 H3 s3 h3 n3=>?_⟩;exact q p3 H3 ((s1.trans s2).trans s3) h3 (none_of (s1.trans s2) n3)
end Pb
namespace L2
open Spec PyProof.Rows
noncomputable def jT (kvs more:List (Key × V)):List (Key × V):=more.foldl (λacc kv=>putK acc kv.1 kv.2) kvs
theorem KV.puts:∀{more:List (Key × V)}{vm:List (Key × Value)},KV more vm->∀{kvs:List (Key × V)}{vs:List (Key × Value)},KV kvs vs->KV (jT kvs more) (merged vs vm)
 |_,_,.nil,_,_,r=>r
 |_,_,.cons (a:=p) (b:=q) h t,kvs,vs,r=>by
  obtain⟨h1,h2⟩:=h;have:=KV.puts t (r.put p.1 h2);unfold jT merged at this ⊢;rw[Q20,Q20,<-h1];exact this
theorem Ic (kvs:List (Key × V))(k:Key)(v:V):(putK kvs k v).length<=kvs.length+1:=by
 unfold putK;split
 . rw[Q01];omega
 . rw[Q0d];exact Q0 _
theorem Bd:∀(more kvs:List (Key × V)),(jT kvs more).length<=kvs.length+more.length
 |[],kvs=>Q0 _
 |p::r,kvs=>by
  have:=Bd r (putK kvs p.1 p.2);have h2:=Ic kvs p.1 p.2;have e:jT kvs (p::r)=jT (putK kvs p.1 p.2) r:=rfl;rw[e,Q0j];omega
section
variable {X:Cx}
inductive Be (x:V) (vs:List V) (H:Hp) (Q:V->Hp->Prop):Prop
 |mk (a:_) (b:_) (kvs:_) (more:_) (h0:x=.ref a) (h1:vs=[.ref b]) (h2:a≠b) (h3:H a=some (.dK kvs)) (h4:H b=some (.dK more)) (h5:kvs.length+more.length<=sizeLine) (h6:Q .non (upd H a (.dK (jT kvs more)))):Be x vs H Q
def Ie:V->List V->Hp->VK->Prop:=λx vs H Q=>Be x vs H Q
theorem Bf:sY X "dict.update" Ie:=by
 intro pins s σ H x vs v us Q I rx rv h;obtain⟨a,b,kvs,more,rfl,rfl,ne,hA,hB,hz,q⟩:=h;obtain⟨u,rfl,ru⟩:=vals1 rv
 cases rx
 cases ru;obtain⟨z,hd,wa,rel,dd⟩:=qJ I.hok hA;obtain⟨z2,hd2,wb,aa,ae⟩:=qJ I.hok hB;refine call_meetsIn PySem.F.slot_dict_update dd.typeIs PySem.F.entry_dict_update (PySem.F.args_dict_update_2 _ _) (meets_dict_update (eQ X.prog X.w) a b ne hd2) ⟨wa,wb,dd,ae,by rw[<-rel.length,<-aa.length];exact hz,λh' ab _ hs=>?_⟩;have he:∃q,h'.get? a=some q:=let⟨q,_,_,hq,_⟩:=ab;⟨q,hq⟩
 exact⟨.non,_,tm (t':=s.toks) I (by rw[hA];exact True.intro) hs he (xq (Q0b (Bd more kvs) hz) hd (aa.puts rel) ab),rfl,q⟩
end
end L2
namespace Pb
open L2 PyProof.Rows
theorem rE(h:∀x∈l,f x=g x):dv f l=dv g l:=Q1c λx hx=>by show(_,_)=(_,_);rw[h x hx]
theorem Bg:∀{ms ks:List Str},ms.Nodup->(∀x∈ms,x ∉ ks)->jT (dv f ks) (dv g ms)=dv (λx=>if x∈ms then g x else f x) (ks++ms)
 |[],ks,_,_=>by
  rw[Q19];exact rE λx _=>by rw[if_neg (λz=>nomatch z)]
 |y::r,ks,hn,hd=>by
  obtain⟨n1,n2⟩:=List.nodup_cons.mp hn;show jT (putK (dv f ks) (Sum.inr y) (g y)) (dv g r)=_;rw[A8 f (g y) (hd y Q04),Bg n2 λx hx z=>(List.mem_append.mp z).elim (hd x (Q09 _ hx)) λz=>n1 (by rw[<-List.mem_singleton.mp z];exact hx),Q1h];refine rE λx _=>?_;by_cases c:x∈r
  . rw[if_pos c,if_pos (Q09 _ c)]
  . rw[if_neg c];unfold iy;by_cases e:x=y
    . rw[if_pos e,if_pos (by rw[e];exact Q04),e]
    . rw[if_neg e,if_neg λz=>(List.mem_cons.mp z).elim e c]
theorem Bh:∀{ms ks:List Str}{f:Str->V},(∀x∈ms,x∈ks)->jT (dv f ks) (dv g ms)=dv (λx=>if x∈ms then g x else f x) ks
 |[],ks,f,_=>rE λx _=>by rw[if_neg (λz=>nomatch z)]
 |y::r,ks,f,hd=>by
  show jT (putK (dv f ks) (Sum.inr y) (g y)) (dv g r)=_;rw[A9 (g y) (hd y Q04),Bh λx hx=>hd x (Q09 _ hx)];refine rE λx _=>?_;by_cases c:x∈r
  . rw[if_pos c,if_pos (Q09 _ c)]
  . rw[if_neg c];unfold iy;by_cases e:x=y
    . rw[if_pos e,if_pos (by rw[e];exact Q04),e]
    . rw[if_neg e,if_neg λz=>(List.mem_cons.mp z).elim e c]
inductive Bi (K:W.Frag) (vs:List V) (H:Hp) (Q:V->Hp->Prop):Prop
 |mk (a:_) (l:_) (y:_) (f:Str->V) (ks:List Str) (ss:List Str) (h0:vs=[.ref a,.ref l,.str y]) (h1:H a=some (.dK (dv f ks))) (h2:ks.Nodup) (h3:ks.length<=60) (h4:cM K H l (ss.map V.str)) (h5:ss.Nodup) (h6:ss.length<=60) (h7:(∀x∈ss,x∈ks)) (h8:∀p c H',Same H H'->H' p=some (.dK (dv (iy f y (.ref c)) (fP y (eU ss ks))))->H' c=some (.dK (dv f ss))->H p=none->H c=none->Q (.ref p) H'):Bi K vs H Q
def u_ (K:W.Frag):Sp:=λvs H Q _=>Bi K vs H Q
inductive Bj (vs:List V) (H:Hp) (Q:V->Hp->Prop):Prop
 |mk (a:_) (c:_) (x:_) (f:Str->V) (g:Str->V) (ks:List Str) (ms:List Str) (h0:vs=[.ref a,.str x]) (h1:H a=some (.dK (dv f ks))) (h2:ks.Nodup) (h3:ks.length<=60) (h4:x∈ks) (h5:f x=.ref c) (h6:H c=some (.dK (dv g ms))) (h7:ms.length<=60) (h8:ms.Nodup) (h9:(∀y∈ms,y ∉ eU [x] ks)) (h10:∀p H',Same H H'->H' p=some (.dK (dv (λx=>if x∈ms then g x else f x) (eU [x] ks++ms)))->H p=none->Q (.ref p) H'):Bj vs H Q
def va:Sp:=λvs H Q _=>Bj vs H Q
variable {P:Program}{w:World}{K:W.Frag}{mg:Str->Option Value}{base:Heap}
theorem Ig (T:Tb mg)(Z:cW es K mg)(aa:Ok P w K mg base cH "with_field" Xf (1) (nU))(ab:Ok P w K mg base cH "rest_of" XT (2) (rD K))(ae:Ok P w K mg base cH "part_of" XT (1) (rB K)):Ok P w K mg base cH "nested" Xj (3) (u_ K):=by
 refine Z.ok Xj (top 37) λvs H Q E h=>?_;obtain⟨a,l,y,f,ks,ss,rfl,ha,ah,af,hl,ai,ag,aj,q⟩:=h;refine⟨rfl,λql _ ak A outer s _ nd hr hu=>?_⟩;refine⟨_,(cO (cS (cT aa hr (a_ (cT ab hr (a_ (pv 0) (a_ (pv 1) cG))) (a_ (pv 2) (a_ (cT ae hr (a_ (pv 0) (a_ (pv 1) cG))) cG)))))),?_⟩
 ac_rfl
 refine⟨_,rfl,_,rfl,?_⟩;refine⟨a,l,f,ks,ss,rfl,ha,ah,af,hl,λp2 H2 s2 h2 n2=>?_⟩;refine⟨_,rfl,_,rfl,_,rfl,?_⟩;refine⟨a,l,_,ss,f,rfl,s2 _ _ ha,cM.mI hl s2,ai,ag,λx hx=>by rw[i9,if_pos (aj x hx)],λp3 H3 s3 h3 n3=>?_⟩;refine⟨p2,y,_,f,eU ss ks,rfl,s3 _ _ h2,Q0b (Q1t _ _) af,λp4 H4 s4 h4 n4=>?_⟩;exact q p4 p3 H4 ((s2.trans s3).trans s4) h4 (s4 _ _ h3) (none_of (s2.trans s3) n4) (none_of s2 n3)
theorem Ih (T:Tb mg)(Z:cW es K mg)(aa:Ok P w K mg base cH "rest_of" XT (2) (rD K)):Ok P w K mg base cH "unnested" ["record","field"] (3) (va):=by
 refine Z.ok ["record","field","fresh"] (top 38) λvs H Q E h=>?_;obtain⟨a,c,x,f,g,ks,ms,rfl,ha,ae,ab,hx,hf,hc,ai,af,ag,q⟩:=h;refine⟨rfl,λql _ aj A outer s _ nd hr hu=>?_⟩
 refine⟨_,(cK (c_ 2 nd (cT aa hr (a_ (pv 0) (a_ (eR (a_ (pv 1) cG)) cG))))
  (cK (ft (jI PySem.F.plainAttrs_dict PySem.F.slot_dict_update PySem.F.type_dict_update Bf (pv 2) (a_ (fL hu (pv 0) (pv 1) (λ_ _=>rfl)) cG)))
  (cO (cS (pv 2))))),?_⟩
 ac_rfl
 refine⟨_,rfl,_,rfl,gw,λp1 ah=>?_⟩;have s1:Same H (upd H p1 (.lst [.str x])):=Same.new ah;refine⟨a,p1,f,ks,[x],rfl,s1 _ _ ha,ae,ab,cM.of cV,λp2 H2 s2 h2 n2=>?_⟩;refine⟨_,rfl,.inr (.inr (.inl ⟨rfl,.inl ⟨_,h2⟩⟩)),_,rfl,_,rfl,a,.ref c,rfl,?_,?_⟩
 . have:=d5.k (k:=Sum.inr x) (s2 _ _ (s1 _ _ ha));rw[i9,if_pos hx,hf] at this;exact this
 have np:H p2=none:=none_of s1 n2;refine⟨p2,c,_,_,rfl,rfl,(λz=>by rw[<-z,np] at hc;cases hc),h2,s2 _ _ (s1 _ _ hc),?_,?_⟩
 . have:=Q1t (λz=>decide (z ∉ [x])) ks;rw[lJ,lJ];have h3:(eU [x] ks).length<=60:=Q0b this ab;exact Q0t (eE (by omega))
 refine⟨_,rfl,q p2 _ (λb o e=>?_) (by rw[cV,Bg af ag]) np⟩;rw[cQ (c6 e np)];exact s2 _ _ (s1 _ _ e)
end Pb
namespace L2
open Spec PyProof.Rows
structure rF (K:W.Frag) (C:Addr):Prop where
 makes:W.makesIn K C=true
 init:W.findIn K (.ref C) "__init__"=some (some (.builtin "object.__init__"))
 kp:W.keepIn K (.ref C)=true
open W in
theorem Ii {K:Frag}{prog:Program}{w:World}{A:Around}{s:Shared}{C:Addr}{R:Result->Shared->Prop}(X:K.In s.heap)(hm:makesIn K C=true)(hi:findIn K (.ref C) "__init__"=some (some (.builtin "object.__init__")))
 (h:R (.ok (.ret (.ref (s.heap.objs.size+1)))) { s with heap:=(s.heap.push emptyDict).push (instObj C s.heap.objs.size) }):codeAny (model prog w) A (.call (.ref C) ⟨[],[]⟩) R s:=by
 have Y:=makes_of (M:=model prog w) X hm;refine DU X hm hi (λself=>Looks.of_pure (oi_bind self)) ?_;obtain⟨hh,g,d,t,os⟩:=s
 have g1:((hh.push emptyDict).push (instObj C hh.objs.size)).get? (hh.objs.size+1)=some (instObj C hh.objs.size):=by
  rw[<-Q18 hh emptyDict];exact Q0i _ rfl
 have t1:Looks (model prog w) ((hh.push emptyDict).push (instObj C hh.objs.size)) (typeOf (.ref (hh.objs.size+1))) (.ref C):=(Looks.ld g1).andThen .now;have t2:Looks (model prog w) ((hh.push emptyDict).push (instObj C hh.objs.size)) (isInstance (.ref (hh.objs.size+1)) (.type "object")) true:=t1.andThen (Y.top.keeps λb o e=>Q06 _ (Q06 _ e));refine codeAny_call_builtin oi_plain entry_oi (@check_slot (model prog w) _ _ _ "object.__init__" "object" "__init__" (.ref (hh.objs.size+1)) [] [] _ oi_kind oi_split t2 (oi_args (.ref (hh.objs.size+1))) ?_);rw[oi_run];exact Q0a (And.intro rfl h)
section
variable {X:Cx}{C:Addr}{x:Str}{p pos:Pos}
theorem Bk (M:rF X.K C)(hg:Gl X x)(hm:X.mg x=some (.ref C))(aa:(x == ("__debug__":Str))=false:=by decide):
 PE X (.Call (.Name x p) [] [] pos) (λσ H Q=>∀y dx,H y=none->H dx=none->dx≠y->Q (.ref y) (upd (upd H dx (.own y)) y (.ins C dx []))):=by
 intro pins s σ H Q I h;refine wpAny_Call_Name_kw (qo I hg hm ?_ aa);refine W.callWith_K0 I.fm M.kp (wpAny_call (Ii I.fm M.makes M.init ?_));have hq:=h (s.heap.objs.size+1) s.heap.objs.size (I.hok.fresh (Q15 _)) (I.hok.fresh (Q0 _)) (Q08 (Q14 _));exact⟨V.ref (s.heap.objs.size+1),_,Inv.made (C:=C) I,rfl,hq⟩
end
noncomputable def pQ (lo:Int) (n:Nat):It:=⟨λi _=>i<n,λi H x H'=>H'=H/\x=.int (lo - i),λi _=>n<=i⟩
theorem Ij {P:Program}{w:World}{K:PySem.W.Frag}{tg:Expr}(it:Addr)(lo:Int)(n:Nat):Turn P w K tg (pQ lo n) [it] it (λi h=>IsRangeIter h it (lo+(i:Nat) * (-1)) ((n:Int) - (i:Nat)) (-1)) where
 mem:=by simp
 obj:=λi h st b hb=>by
  have e:b=it:=by simpa using hb
  subst e
  exact⟨_,st,λv z=>by
   have z':Data.fields _=Data.cell v:=z
   cases z'⟩
 keep:=λi h h' st k=>k it (by simp) _ st
 item:=by
  intro X hP hw hK hc i pins s σ H E I hf st hg;subst hP hw hK;obtain⟨f0,f1,f2,f3,f4,f5⟩:=hf it (by simp);have W:=Walks.range (prog:=X.prog) (w:=X.w) (I.ok.hd hc) it lo (-1) n;refine W.item i s _ _ hg st λv h' tk hv aa kk=>?_;obtain⟨t,rfl⟩:=hv;have I1:Inv X pins σ H { s with heap:=h',toks:=tk }:=I.turned (λb o hb e=>kk b o (by simpa using hb) e) f0 f1 f3 f4 f5;refine⟨_,rfl,oK (s:={ s with heap:=h',toks:=tk }) (n:="range_iterator") aa rfl rfl (by decide) ⟨.int (lo - i),H,I1,⟨t,?_⟩,⟨rfl,rfl⟩,aa,λb hb=>(hf b hb).1⟩⟩;rw[Int.mul_neg,Int.mul_one];rfl
 done:=by
  intro X hP hw hK hc i pins s σ H E I hf st hg;subst hP hw hK;obtain⟨f0,f1,f2,f3,f4,f5⟩:=hf it (by simp);exact wpAny_pyNext_range_end (I.ok.hd hc) st (by have:n<=i:=hg;omega) λh' eb=>⟨rfl,I.turned (t':=s.toks) (λb o hb e=>eb b o hb e) f0 f1 f3 f4 f5⟩
 self:=λ_ _ _ _ _ st h=>wpAny_pyIter_rangeiter st h
section
variable {X:Cx}{tg:Expr}
inductive Bl (R:It->Hp->Prop) (vs:List V) (H1:Hp):Prop
 |mk (n:Nat) (h0:vs=[.int ((n:Int) - 1),.int (-1),.int (-1)]) (h1:n<=1000000) (h2:R (pQ ((n:Int) - 1) n) H1):Bl R vs H1
def Ik (ta:TA):TI:=λσ H R=>ta σ H (Bl R)
theorem Il(hg:Gl X "range")(hm:X.mg "range"=none)(ha:PA X [a,b,c] ta)(hs:starEach [a,b,c] X.env=[(false,eval a X.env),(false,eval b X.env),(false,eval c X.env)]:=by rfl)(aa:starEach [b,c] X.env=[(false,eval b X.env),(false,eval c X.env)]:=by rfl):
 PI X tg (.Call (.Name "range" p) [a,b,c] [] pos) (Ik ta):=by
 intro pins s σ H R I h;refine Call_ (jD I hg hm boot_range (PyProof.Rows.callWith_type1 (dg (ha pos pins s σ H _ I h) λus s1 zq=>?_) (by rw[hs,aa]) (by rw[aa];rfl)));obtain⟨vs,H1,I1,r1,q1⟩:=zq;obtain⟨n,e,hn,q⟩:=q1;subst e
 cases r1 with
 |cons r rr=>
  cases rr with
  |cons r' rr=>
   cases rr with
   |cons r2 rr=>
    cases rr;obtain⟨t,rfl⟩:=r;obtain⟨u,rfl⟩:=r';obtain⟨v,rfl⟩:=r2;refine call_range_3 (by decide) ?_ (.inl ?_)
    . have hz:Builtin.Range.rangeSize ((n:Int) - 1) (-1) (-1)=n:=by
       unfold Builtin.Range.rangeSize;rw[if_neg (by decide)];split
       . show((n:Int) - 1 - (-1) - 1) / 1+1=_;rw[Int.ediv_one];omega
       . omega
      have ab:Builtin.Range.small ((n:Int) - 1) (-1) (-1)=true:=by
       unfold Builtin.Range.small;rw[hz]
       have h1:Builtin.Range.rangeFitsLong ((n:Int) - 1)=true:=by
        unfold Builtin.Range.rangeFitsLong;simp only[Bool.and_eq_true,decide_eq_true_eq];omega
       have h2:Builtin.Range.rangeFitsLong (n:Int)=true:=by
        unfold Builtin.Range.rangeFitsLong;simp only[Bool.and_eq_true,decide_eq_true_eq];omega
       rw[h1,h2,show Builtin.Range.rangeFitsLong (-1)=true by decide,if_neg (by decide),show Builtin.Range.rangeFitsLong (-1+(-1+1))=true by decide,Bool.or_true];rfl
      refine wpAny_pyIter_range (IsRange.new ..) ab ?_;have I2:Inv X pins σ H1 { s1 with heap:=s1.heap.push { cls:=.type "range",data:=.fields #[.int ((n:Int) - 1) t,.int (-1) u,.int (-1) v] },toks:=s1.toks }:=I1.kept λb o e=>Q06 _ e
      refine⟨(s1.heap.push { cls:=.type "range",data:=.fields #[.int ((n:Int) - 1) t,.int (-1) u,.int (-1) v] }).objs.size,[(s1.heap.push { cls:=.type "range",data:=.fields #[.int ((n:Int) - 1) t,.int (-1) u,.int (-1) v] }).objs.size],_,_,H1,rfl,
       I2.kept (t':=s1.toks) λb o e=>Q06 _ e,Ij _ ((n:Int) - 1) n,?_,λb hb=>?_,q⟩
      . show IsRangeIter _ _ ((n:Int) - 1+((0:Nat):Int) * (-1)) ((n:Int) - ((0:Nat):Int)) (-1);have e1:(n:Int) - 1+((0:Nat):Int) * (-1)=(n:Int) - 1:=by simp
        have e2:(n:Int) - ((0:Nat):Int)=Builtin.Range.rangeSize ((n:Int) - 1) (-1) (-1):=by rw[hz];simp
        rw[e1,e2];exact Q0i _ rfl
      . have e:b=(s1.heap.push { cls:=.type "range",data:=.fields #[.int ((n:Int) - 1) t,.int (-1) u,.int (-1) v] }).objs.size:=by simpa using hb
        subst e;exact I2.j8 (Q0 _) (I2.hok.fresh (Q0 _))
    . unfold Builtin.divisionGoesByPylong;rfl
theorem Im {lo:Int}{n:Nat}{g:TG}{tb:TS}{D:Ends}{σ:St}(Pv:Nat->St->Hp->Prop)(h0:Pv 0 σ H)
 (hs:∀i σ H,i<n->Pv i σ H->g (.int (lo - i)) σ H λaa H2=>tb { D with nx:=Pv (i+1),ct:=Pv (i+1),bk:=D.nx } aa H2) (hd:∀σ H,Pv n σ H->D.nx σ H):
 ∃W:Nat->Nat->St->Hp->Prop,(∃m,W 0 m σ H)/\∀i m σ H,W i m σ H->
  ((pQ lo n).stop i H/\D.nx σ H)\/((pQ lo n).go i H/\∃N:St->Hp->Prop,(∀ab H',N ab H'->∃m',m'<m/\W (i+1) m' ab H')/\∀x H',(pQ lo n).iP i H x H'->g x σ H' λaa H2=>tb { D with nx:=N,ct:=N,bk:=D.nx } aa H2):=by
 refine⟨λi m σ H=>m=n - i/\i<=n/\Pv i σ H,⟨n,by simp,Q0c _,h0⟩,?_⟩;rintro i m σ H ⟨rfl,hi,p⟩;by_cases ae:i<n
 . refine .inr ⟨ae,Pv (i+1),λab H' p'=>⟨n - (i+1),by omega,rfl,ae,p'⟩,λx H' y=>?_⟩;obtain⟨rfl,rfl⟩:=y;exact hs i σ H' ae p
 . have e:i=n:=by omega
   subst e;exact .inl ⟨Q0 _,hd σ H p⟩
end
end L2
namespace Pb
open L2 PyProof.Rows
theorem nV(h:once ss l=true):ss.Nodup/\∀x∈ss,x∈cR l:=by
 unfold once at h;obtain⟨h1,h2⟩:=Bool.and_eq_true_iff.mp h;refine⟨of_decide_eq_true h1,λx hx=>?_⟩;have:=List.all_eq_true.mp h2 x hx;rw[rg] at this;exact of_decide_eq_true this
mutual
def VA (c:CA) (H:Hp):V->Vw->Prop
 |v,.vw=>∃a dx,v=.ref a/\H a=some (.ins c.vw dx [])
 |v,.tk ss=>∃a dx p,v=.ref a/\H a=some (.ins c.tk dx [("names",.ref p)])/\H p=some (.lst (ss.map V.str))/\ss.length<=60
 |v,.rn o n=>∃a dx,v=.ref a/\H a=some (.ins c.rn dx [("old",.str o),("new",.str n)])
 |v,.ne ss y=>∃a dx p,v=.ref a/\H a=some (.ins c.ne dx [("names",.ref p),("into",.str y)])/\H p=some (.lst (ss.map V.str))/\ss.length<=60
 |v,.un f=>∃a dx,v=.ref a/\H a=some (.ins c.un dx [("field",.str f)])
 |v,.wi f w=>∃a dx u,v=.ref a/\H a=some (.ins c.wi dx [("field",.str f),("inner",u)])/\VA c H u w
 |v,.aT n=>∃a dx,v=.ref a/\H a=some (.ins c.aT dx [("name",.str n)])
 |v,.ch vs=>∃a dx p us,v=.ref a/\H a=some (.ins c.ch dx [("steps",.ref p)])/\H p=some (.lst us)/\us.length<=40/\dM c H us vs
def dM (c:CA) (H:Hp):List V->Vs->Prop
 |us,.nil=>us=[]
 |us,.cons v r=>∃u ur,us=u::ur/\VA c H u v/\dM c H ur r
end
def VK (H H':Hp):Prop:=∀c o,(∀n,o≠ .lst [.int n])->(∀ps,o≠ .eX ps)->H c=some o->H' c=some o
theorem VK.of(s:Same H H'):VK H H':=λc o _ _ e=>s _ _ e
theorem VK.kp(x:fj Pt H H')(hT:dc Pt lp ql H):VK H H':=λc o _ h e=>by
 obtain⟨ps,hP⟩:=hT.tab;exact x c o (eK e hP (h ps)) e
theorem VK.trans(x:VK H H1)(y:VK H1 H2):VK H H2:=λc o h1 h2 e=>y c o h1 h2 (x c o h1 h2 e)
theorem VK.tu(x:VK H H'):Tu H H':=λc xs e=>x c _ (by intro n z;cases z) (by intro ps z;cases z) e
theorem VK.ins(x:VK H H')(e:H a=some (.ins C dx fs)):H' a=some (.ins C dx fs):=x a _ (by intro n z;cases z) (by intro ps z;cases z) e
theorem VK.strs {H H':Hp}(x:VK H H'){ss:List Str}(e:H p=some (.lst (ss.map V.str))):H' p=some (.lst (ss.map V.str)):=x p _ (by intro n z;injection z with z;cases ss with|nil=>cases z|cons y r=>cases z) (by intro ps z;cases z) e
noncomputable def Vw.cl (c:CA):Vw->Addr
 | .vw=>c.vw
 | .tk _=>c.tk
 | .rn _ _=>c.rn
 | .ne _ _=>c.ne
 | .un _=>c.un
 | .wi _ _=>c.wi
 | .aT _=>c.aT
 | .ch _=>c.ch
theorem VA.cls(h:VA c H v w):∃a dx fs,v=.ref a/\H a=some (.ins (w.cl c) dx fs)/\fs.lookup ("behind":Str)=none/\fs.lookup ("see":Str)=none/\fs.lookup ("put":Str)=none/\fs.lookup ("keeps":Str)=none/\fs.lookup ("grade":Str)=none:=by
 cases w <;> unfold VA at h
 . obtain⟨a,dx,e,h⟩:=h;exact⟨a,dx,_,e,h,rfl,rfl,rfl,rfl,rfl⟩
 . obtain⟨a,dx,p,e,h,_⟩:=h;exact⟨a,dx,_,e,h,rfl,rfl,rfl,rfl,rfl⟩
 . obtain⟨a,dx,e,h⟩:=h;exact⟨a,dx,_,e,h,rfl,rfl,rfl,rfl,rfl⟩
 . obtain⟨a,dx,p,e,h,_⟩:=h;exact⟨a,dx,_,e,h,rfl,rfl,rfl,rfl,rfl⟩
 . obtain⟨a,dx,e,h⟩:=h;exact⟨a,dx,_,e,h,rfl,rfl,rfl,rfl,rfl⟩
 . obtain⟨a,dx,p,e,h,_⟩:=h;exact⟨a,dx,_,e,h,rfl,rfl,rfl,rfl,rfl⟩
 . obtain⟨a,dx,e,h⟩:=h;exact⟨a,dx,_,e,h,rfl,rfl,rfl,rfl,rfl⟩
 . obtain⟨a,dx,p,us,e,h,_⟩:=h;exact⟨a,dx,_,e,h,rfl,rfl,rfl,rfl,rfl⟩
theorem dM.shape:∀{us:List V}{vs:Vs},dM c H us vs->∀u∈us,∃a,u=.ref a
 |us,.nil,h,u,hu=>by unfold dM at h;rw[h] at hu;exact(nomatch hu)
 |us,.cons v r,h,u,hu=>by
  unfold dM at h;obtain⟨w,ur,rfl,h1,h2⟩:=h;rcases List.mem_cons.mp hu with rfl|z
  . obtain⟨a,_,_,e,_⟩:=h1.cls;exact⟨a,e⟩
  . exact dM.shape h2 u z
mutual
theorem VA.mono(x:VK H H'):∀{v:V}(w:Vw),VA c H v w->VA c H' v w
 |v,.vw,h=>by unfold VA at h ⊢;obtain⟨a,dx,e,h1⟩:=h;exact⟨a,dx,e,x.ins h1⟩
 |v,.tk ss,h=>by unfold VA at h ⊢;obtain⟨a,dx,p,e,h1,h2,h3⟩:=h;exact⟨a,dx,p,e,x.ins h1,x.strs h2,h3⟩
 |v,.rn o n,h=>by unfold VA at h ⊢;obtain⟨a,dx,e,h1⟩:=h;exact⟨a,dx,e,x.ins h1⟩
 |v,.ne ss y,h=>by unfold VA at h ⊢;obtain⟨a,dx,p,e,h1,h2,h3⟩:=h;exact⟨a,dx,p,e,x.ins h1,x.strs h2,h3⟩
 |v,.un f,h=>by unfold VA at h ⊢;obtain⟨a,dx,e,h1⟩:=h;exact⟨a,dx,e,x.ins h1⟩
 |v,.wi f w,h=>by unfold VA at h ⊢;obtain⟨a,dx,u,e,h1,h2⟩:=h;exact⟨a,dx,u,e,x.ins h1,VA.mono x w h2⟩
 |v,.aT n,h=>by unfold VA at h ⊢;obtain⟨a,dx,e,h1⟩:=h;exact⟨a,dx,e,x.ins h1⟩
 |v,.ch vs,h=>by
  unfold VA at h ⊢;obtain⟨a,dx,p,us,e,h1,h2,aa,h3⟩:=h;refine⟨a,dx,p,us,e,x.ins h1,x p _ (λn z=>?_) (by intro ps z;cases z) h2,aa,dM.mono x vs h3⟩;injection z with z
  obtain⟨a',ea⟩:=dM.shape h3 (.int n) (by rw[z];exact Q04)
  cases ea
theorem dM.mono(x:VK H H'):∀{us:List V}(vs:Vs),dM c H us vs->dM c H' us vs
 |us,.nil,h=>by unfold dM at h ⊢;exact h
 |us,.cons v r,h=>by unfold dM at h ⊢;obtain⟨u,ur,e,h1,h2⟩:=h;exact⟨u,ur,e,VA.mono x v h1,dM.mono x r h2⟩
end
mutual
noncomputable def Vw.dp:Vw->Nat
 | .wi _ v=>v.dp+1
 | .ch vs=>vs.dp+1
 |_=>0
noncomputable def Vs.dp:Vs->Nat
 | .nil=>0
 | .cons v r=>max v.dp r.dp
end
structure CF (K:W.Frag) (C:Addr) (as:List Str):Prop where
 ct:Cls K C
 na:∀a∈as,l_ K C a
def KG (Pt:Addr) (H:Hp) (kv:V) (k:Kd):Prop:=KA H kv k/\k.O/\dc Pt d_ eh H
theorem KG.kp(h:KG Pt H kv k)(kp:fj Pt H H')(hT:dc Pt d_ eh H'):KG Pt H' kv k:=⟨h.1.mono (VK.kp kp h.2.2).tu,h.2.1,hT⟩
theorem KG.same(h:KG Pt H kv k)(s:Same H H'):KG Pt H' kv k:=⟨h.1.mono (Tu.of s),h.2.1,h.2.2.same s⟩
def WD (d:Nat) (w:Vw) (k:Kd):Prop:=w.dp<=d/\k.sz+w.nn<=55
theorem fV(e:du k=some l)(hO:k.O)(h:k.sz<=55):(cR l).Nodup/\l.length<=55:=by
 obtain⟨h1,h2,_⟩:=dD e hO;have:=jt l;exact⟨h1.1,by omega⟩
theorem WD.sz(h:WD d w k):k.sz<=55:=by have:=h.2;omega
theorem WD.wi(h:WD (d+1) (.wi f v) k)(hO:k.O)(e:du k=some l)(eq:cZ l f=some q):WD d v q:=by
 obtain⟨h1,h2⟩:=h;obtain⟨_,h3,_⟩:=dD e hO;have a1:dh dA (bt [f] l)+q.sz<=dh dA l:=gy (f:=dA) eq;unfold Vw.dp at h1;unfold Vw.nn at h2;exact⟨by omega,by omega⟩
abbrev MG (P:Program) (w:World) (K:PySem.W.Frag) (mg:Str->Option Value) (base:Heap) (m:Str) (ps:List Str) (sp:(Vw->Kd->Prop)->Sp) (n:Nat) (W:Vw->Kd->Prop) (C:Addr):Prop:=Om P w K mg base cH C m ps n (sp W)
def MA (P:Program) (w:World) (K:PySem.W.Frag) (mg:Str->Option Value) (base:Heap) (c:CA) (m:Str) (ps:List Str) (sp:(Vw->Kd->Prop)->Sp) (n d:Nat):Prop:=∀v k,WD d v k->∃W,MG P w K mg base m ps sp n W (v.cl c)/\W v k
inductive Bm (P:Program) (w:World) (K:PySem.W.Frag) (mg:Str->Option Value) (base:Heap) (m:Str) (ps:List Str) (sp:(Vw->Kd->Prop)->Sp) (n:Nat) (ta:TE) (t:TA) (σ:L2.St) (H:Hp) (Q:V->Hp->Prop):Prop
 |mk (W:_) (C:_) (h0:MG P w K mg base m ps sp n W C) (h1:sT C m (sp W) [] E0 ta t σ H Q):Bm P w K mg base m ps sp n ta t σ H Q
def tM (P:Program) (w:World) (K:W.Frag) (mg:Str->Option Value) (base:Heap) (m:Str) (ps:List Str) (sp:(Vw->Kd->Prop)->Sp) (n:Nat) (ta:TE) (t:TA):TE:=λσ H Q=>Bm P w K mg base m ps sp n ta t σ H Q
section
variable {X:Cx}{o e:Expr}{es:List Expr}{ta:TE}{t:TA}{apos pos:Pos}
theorem iJ(he:PE X o ta)(hr:d4 n X.A)(ha:PA X (e::es) t)
 (aa:starEach (e::es) X.env=(false,eval e X.env)::starEach es X.env:=by rfl) (ab:(backTo pos (starEach es X.env)).any (·.1)=false:=by rfl)
 (ht:eval (.Call (.Attribute o m apos) (e::es) [] pos) X.env=(do
   let ov <-eval o X.env
   standAt apos.atName
   let(f,first) <-holding [ov] (getMethod ov m pl)
   callWith pos f first (backTo pos (starEach (e::es) X.env)) (backToKw pos (keywordEach [] X.env))):=by rfl):PE X (.Call (.Attribute o m apos) (e::es) [] pos) (tM X.prog X.w X.K X.mg X.base m ps sp n ta t):=by
 intro pins s σ H Q I h;obtain⟨W,C,B,h⟩:=h;exact iZ (pl:=pl) he B hr fG ha aa ab ht pins s σ H Q I h
end
inductive Bo (c:CA) (Pt:Addr) (W:Vw->Kd->Prop) (vs:List V) (H:Hp) (Q:V->Hp->Prop):Prop
 |mk (v:_) (kv:_) (w:_) (k:_) (k':_) (h0:vs=[v,kv]) (h1:W w k) (h2:VA c H v w) (h3:KG Pt H kv k) (h4:bh w k=.inr k') (h5:∀u H',fj Pt H H'->dc Pt d_ eh H'->KA H' u k'->Q u H'):Bo c Pt W vs H Q
def gj (c:CA) (Pt:Addr) (W:Vw->Kd->Prop):Sp:=λvs H Q _=>Bo c Pt W vs H Q
noncomputable abbrev mL:List Str:=XH
noncomputable abbrev mM:List Str:=XB
noncomputable abbrev pR:List Str:=XA
noncomputable abbrev jU:List Str:=XE
end Pb
namespace Pb
open L2
noncomputable def Ds.gt (m:Ds) (x:Str):D:=(m.get x).getD (.int 0)
noncomputable def Ds.eO (f:Str->D):List Str->Ds
 |[]=>.nil
 |x::r=>.cons x (f x) (Ds.eO f r)
noncomputable def setG (f:Str->D) (x:Str) (d:D):Str->D:=λy=>if y=x then d else f y
theorem rG (f:Str->D):∀l:List Str,(Ds.eO f l).names=l
 |[]=>rfl
 |x::r=>congrArg (x:: ·) (rG f r)
theorem vb (f:Str->D):∀{l:List Str}{x:Str},(Ds.eO f l).get x=if x∈l then some (f x) else none
 |[],x=>by rw[if_neg (λz=>nomatch z)];rfl
 |y::r,x=>by
  show(if x=y then some (f y) else(Ds.eO f r).get x)=_;by_cases e:x=y
  . rw[if_pos e,if_pos (by rw[e];exact Q04),e]
  . rw[if_neg e,vb f];by_cases h:x∈r
    . rw[if_pos h,if_pos (Q09 _ h)]
    . rw[if_neg h,if_neg λz=>(List.mem_cons.mp z).elim e h]
theorem Ds.get_mem:∀{m:Ds}{x:Str},x∈m.names->∃d,m.get x=some d
 | .nil,_,h=>nomatch h
 | .cons y d r,x,h=>by
   show ∃e,(if x=y then some d else r.get x)=some e;by_cases e:x=y
   . exact⟨d,if_pos e⟩
   . obtain⟨d',h'⟩:=Ds.get_mem (m:=r) ((List.mem_cons.mp h).resolve_left e);exact⟨d',by rw[if_neg e];exact h'⟩
theorem lK {m:Ds}(h:m.get x=some d):m.gt x=d:=by unfold Ds.gt;rw[h];rfl
noncomputable def nestD (ss:List Str) (y:Str) (m:Ds):D:=.dct (Ds.eO (setG m.gt y (.dct (Ds.eO m.gt ss))) (fP y (eU ss m.names)))
noncomputable def D.ds:D->Ds
 | .dct m=>m
 |_=>.nil
noncomputable def D.fld (d:D) (x:Str):D:=d.ds.gt x
noncomputable def lL (f:Str) (m:Ds):D:=.dct (Ds.eO (λx=>((m.gt f).ds.get x).getD (m.gt x)) (eU [f] m.names++(m.gt f).ds.names))
noncomputable def kn (k:Kd):List NK:=(du k).getD []
noncomputable def kf (k:Kd) (f:Str):Kd:=(cZ (kn k) f).getD .num
noncomputable def i_ (v:Vw) (k:Kd):Kd:=match bh v k with
 | .inr k'=>k'
 | .inl _=>k
theorem pS(e:du k=some l):kn k=l:=by unfold kn;rw[e];rfl
theorem mN(e:du k=some l)(h:cZ l f=some q):kf k f=q:=by unfold kf;rw[pS e,h];rfl
theorem ja(h:bh v k=.inr k'):i_ v k=k':=by unfold i_;rw[h]
mutual
noncomputable def dN:Vw->D->D
 | .vw,d=>d
 | .tk ss,d=>.dct (Ds.eO d.ds.gt ss)
 | .rn o n,d=>.dct (Ds.eO (setG d.ds.gt n (d.fld o)) (fP n (eU [o] d.ds.names)))
 | .ne ss y,d=>nestD ss y d.ds
 | .un f,d=>lL f d.ds
 | .wi f v,d=>.dct (Ds.eO (setG d.ds.gt f (dN v (d.fld f))) (fP f d.ds.names))
 | .aT x,d=>d.fld x
 | .ch vs,d=>iz vs d
noncomputable def iz:Vs->D->D
 | .nil,d=>d
 | .cons v r,d=>iz r (dN v d)
end
mutual
noncomputable def dE:Vw->Kd->D->D->D
 | .vw,_,_,s=>s
 | .tk _,_,d,s=>.dct (Ds.eO (λx=>(s.ds.get x).getD (d.fld x)) d.ds.names)
 | .rn o n,_,_,s=>.dct (Ds.eO (setG s.ds.gt o (s.fld n)) (fP o (eU [n] s.ds.names)))
 | .ne _ y,_,_,s=>lL y s.ds
 | .un f,k,_,s=>nestD (cR (kn (kf k f))) f s.ds
 | .wi f v,k,d,s=>.dct (Ds.eO (setG s.ds.gt f (dE v (kf k f) (d.fld f) (s.fld f))) (fP f s.ds.names))
 | .aT x,_,d,s=>.dct (Ds.eO (setG d.ds.gt x s) (fP x d.ds.names))
 | .ch vs,k,d,s=>gz vs k d s
noncomputable def gz:Vs->Kd->D->D->D
 | .nil,_,_,s=>s
 | .cons v r,k,d,s=>dE v k d (gz r (i_ v k) (dN v d) s)
end
mutual
noncomputable def kps:Vw->Str->Bool
 | .vw,_=>true
 | .tk ss,x=>decide (x∈ss)
 | .rn o n,x=> !decide (x=o) && !decide (x=n)
 | .ne ss y,x=> !decide (x∈ss) && !decide (x=y)
 | .un f,x=> !decide (x=f)
 | .wi f _,x=> !decide (x=f)
 | .aT _,_=>false
 | .ch vs,x=>lM vs x
noncomputable def lM:Vs->Str->Bool
 | .nil,_=>true
 | .cons v r,x=>kps v x && lM r x
end
theorem Bp:∀{kvs:List (Key × V)}{m:Ds}{fp:List Addr},dk H kvs m fp->m.names.Nodup->∃g:Str->V,kvs=dv g m.names/\∀x∈m.names,∃f,Own H (g x) (m.gt x) f/\∀a∈f,a∈fp
 |kvs,m,fp,h,hn=>by
  have hk:=dk.keys m h;refine⟨λx=>(e6 kvs (Sum.inr x)).getD .non,?_,λx hx=>?_⟩
  . have nk:(kvs.map (·.1)).Nodup:=by
     rw[hk,Q3j,Q1g];exact(List.nodup_iff_pairwise_ne.mp hn).imp λab e=>ab (Sum.inr.inj e)
    obtain⟨f,l,rfl,hl⟩:=A7 nk (λk aa=>by rw[hk] at aa;obtain⟨x,_,rfl⟩:=List.mem_map.mp aa;exact⟨x,rfl⟩)
    have el:l=m.names:=by
     have:l.map (Sum.inr:Str->Key)=m.names.map Sum.inr:=by
      rw[<-hk];unfold dv;rw[Q0q];rfl
     have h2:=congrArg (List.map λk:Key=>match k with| .inr x=>x| .inl _=>"") this;rw[Q0q,Q0q] at h2
     have e:∀z:List Str,z.map ((λk:Key=>match k with| .inr x=>x| .inl _=>"") ∘ Sum.inr)=z:=λz=>by
      induction z with
      |nil=>rfl
      |cons a r ih=>rw[Q0m,ih];rfl
     rw[e,e] at h2;exact h2
    subst el;unfold dv;refine Q1c λx hx=>?_;show(_,f x)=(_,(e6 (dv f m.names) (Sum.inr x)).getD .non);rw[i9,if_pos hx];rfl
  . obtain⟨d,hd⟩:∃d,m.get x=some d:=Ds.get_mem hx;obtain⟨v,f,h1,h2,h3⟩:=dk.val m h hd;refine⟨f,?_,h3⟩;rw[lK hd];show Own H ((e6 kvs (Sum.inr x)).getD .non) d f;rw[h1];exact h2
theorem Bq{g:Str->V}{f:Str->D}{P:Addr->Prop}:∀{l:List Str},(∀x∈l,∃fp,Own H (g x) (f x) fp/\∀a∈fp,P a)->∃fp,dk H (dv g l) (Ds.eO f l) fp/\∀a∈fp,P a
 |[],_=>⟨[],⟨rfl,rfl⟩,λa h=>nomatch h⟩
 |x::r,h=>by
  obtain⟨f1,h1,p1⟩:=h x Q04;obtain⟨f2,h2,p2⟩:=Bq (l:=r) λy hy=>h y (Q09 _ hy);exact⟨f1++f2,⟨g x,dv g r,f1,f2,rfl,rfl,h1,h2⟩,λa ha=>(List.mem_append.mp ha).elim (p1 a) (p2 a)⟩
theorem nW {α:Type} [DecidableEq α]:∀{l m:List α},l.Nodup->(∀x∈l,x∈m)->l.length<=m.length
 |[],m,_,_=>Q0c _
 |a::r,m,hn,hs=>by
  obtain⟨n1,n2⟩:=List.nodup_cons.mp hn;have hm:a∈m:=hs a Q04
  have:=nW n2 (m:=m.erase a) λy hy=>by
   rw[List.mem_erase_of_ne (show y≠a from λz=>n1 (by rw[<-z];exact hy))];exact hs y (Q09 _ hy)
  rw[Q3k hm] at this;have hp:0<m.length:=Q3l hm;rw[Q0j];omega
theorem Br {α:Type} [DecidableEq α]:∀{m l:List α},l.Nodup->(∀x∈l,x∈m)->m.length=l.length->m.Nodup/\∀x∈m,x∈l
 |[],l,_,_,hl=>⟨Q0s,λx h=>nomatch h⟩
 |a::r,l,hn,hs,hl=>by
  have ha:a∈l:=Classical.byContradiction λz=>by
   have:=nW (m:=r) hn λx hx=>(List.mem_cons.mp (hs x hx)).resolve_left λe=>z (e ▸ hx);rw[Q0j] at hl;omega
  have aa:(l.erase a).Nodup:=hn.erase a
  have ab:r.length=(l.erase a).length:=by
   rw[Q3k ha];rw[Q0j] at hl;omega
  obtain⟨h1,h2⟩:=Br (m:=r) aa (λx hx=>by
   have ae:x≠a:=λe=>by rw[e] at hx;exact(hn.mem_erase_iff.mp hx).1 rfl
   exact(List.mem_cons.mp (hs x ((Q3m) hx))).resolve_left ae) ab
  refine⟨List.nodup_cons.mpr ⟨λz=>?_,h1⟩,λx hx=>?_⟩
  . exact(hn.mem_erase_iff.mp (h2 a z)).1 rfl
  . rcases List.mem_cons.mp hx with e|e
    . rw[e];exact ha
    . exact Q3m (h2 x e)
theorem nX:∀(l:List NK) (x:Str),(Fs.fT l).get x=cZ l x
 |[],_=>rfl
 |p::r,x=>by
  show(if x=p.1 then some p.2 else(Fs.fT r).get x)=_;rw[lD,nX r x];by_cases e:x=p.1
  . rw[if_pos e,if_pos e.symm]
  . rw[if_neg e,if_neg (λz=>e z.symm)]
theorem jv(hn:(cR l).Nodup):cZ l x=some k↔(x,k)∈l:=by
 refine⟨nQ,λh=>?_⟩
 induction l with
 |nil=>exact nomatch h
 |cons p r ih=>
  obtain⟨n1,n2⟩:=List.nodup_cons.mp (show(p.1::cR r).Nodup from hn);rw[lD];rcases List.mem_cons.mp h with e|e
  . rw[<-e,if_pos rfl]
  . rw[if_neg λz=>n1 (by rw[z];exact List.mem_map.mpr ⟨_,e,rfl⟩)];exact ih n2 e
def gA (l:List NK) (m:Ds):Prop:=m.names.length=l.length/\∀x k,cZ l x=some k->∃e,m.get x=some e/\dm k e
theorem dm.g{l:List NK}(e:du k=some l)(h:dm k d):∃m,d=.dct m/\gA l m:=by
 cases k with
 |c8 fs=>
  cases e;obtain⟨m,rfl,h1,h2⟩:=h.r;refine⟨m,rfl,?_,λx k hx=>h2 x k ?_⟩
  . rw[h1,<-mD fs,Q01]
  . rw[<-pK fs,nX];exact hx
 |_=>cases e
theorem rH(hn:(cR l).Nodup)(h:gA l m):dm (dP l) (.dct m):=by
 have pm:=kH (λp:NK=>p.1) l;refine lC.n ⟨?_,λx k hx=>h.2 x k ?_⟩
 . rw[h.1,uL,Q01,pm.length_eq]
 . rw[nX] at hx;exact(jv hn).mpr (pm.mem_iff.mp (nQ hx))
theorem Ds.jw:∀{m:Ds}{x:Str}{d:D},m.get x=some d->x∈m.names
 | .nil,_,_,h=>by cases h
 | .cons y e r,x,d,h=>by
   have h:(if x=y then some e else r.get x)=some d:=h;by_cases c:x=y
   . rw[c];exact Q04
   . rw[if_neg c] at h;exact Q09 _ (Ds.jw h)
theorem gA.nm(hn:(cR l).Nodup)(h:gA l m):m.names.Nodup/\∀x,x∈m.names↔x∈cR l:=by
 have hs:∀x∈cR l,x∈m.names:=λx hx=>by
  obtain⟨k,hk⟩:=i6 hx;obtain⟨e,he,_⟩:=h.2 x k hk;exact Ds.jw he
 obtain⟨h1,h2⟩:=Br hn hs (by rw[h.1];unfold cR;rw[Q01]);exact⟨h1,λx=>⟨h2 x,hs x⟩⟩
theorem iK:y∈fP x l↔y=x\/y∈l:=by
 unfold fP;split
 . rename_i h;exact⟨.inr,λz=>z.elim (λe=>e ▸ h) id⟩
 . rw[Q25,Q2m];exact⟨λz=>z.elim .inr .inl,λz=>z.elim .inr .inl⟩
theorem eV(h:gA l m)(e:cZ l x=some k):m.get x=some (m.gt x)/\dm k (m.gt x):=by
 obtain⟨d,h1,h2⟩:=h.2 x k e;rw[lK h1];exact⟨h1,h2⟩
theorem dS(h:cZ l x=some k):x∈cR l:=List.mem_map.mpr ⟨_,nQ h,rfl⟩
theorem Bs {α:Type} [DecidableEq α]{l m:List α}(h1:l.Nodup)(h2:m.Nodup)(h:∀x,x∈l↔x∈m):l.length=m.length:=
 Q3i (nW h1 λx hx=>(h x).mp hx) (nW h2 λx hx=>(h x).mpr hx)
theorem kT(hl:(cR l).Nodup)(hn:ns.Nodup)(hm:∀x,x∈ns↔x∈cR l)(h:∀x k,cZ l x=some k->dm k (f x)):gA l (Ds.eO f ns):=
 ⟨by rw[rG,Bs hn hl hm];unfold cR;rw[Q01],λx k e=>⟨f x,by rw[vb,if_pos ((hm x).mpr (dS e))],h x k e⟩⟩
theorem mO(e:du k=some l)(h:gA l m):dm k (.dct m):=by
 cases k with
 |c8 fs=>
  cases e;refine lC.n ⟨?_,λx k hx=>h.2 x k ?_⟩
  . rw[h.1,<-mD fs,Q01]
  . rw[<-pK fs,nX] at hx;exact hx
 |_=>cases e
theorem gp(hn:(cR l).Nodup)(h:dm (dP l) d):∃m,d=.dct m/\gA l m:=by
 have pm:=kH (λp:NK=>p.1) l;obtain⟨m,rfl,h1,h2⟩:=h.r;refine⟨m,rfl,?_,λx k hx=>h2 x k ?_⟩
 . rw[h1,uL,Q01,pm.length_eq]
 . rw[nX];exact(jv ((pm.map _).nodup_iff.mpr hn)).mpr (pm.mem_iff.mpr (nQ hx))
theorem eB(s:a.Sublist b)(h:(cR b).Nodup):(cR a).Nodup:=h.sublist (s.map _)
theorem jy(hn:(cR l).Nodup):cZ (bt ss l) x=some k↔cZ l x=some k/\x ∉ ss:=by
 rw[jv (eB (eF ss l) hn),jv hn];unfold bt;rw[Q1s];exact⟨λh=>⟨h.1,of_decide_eq_true h.2⟩,λh=>⟨h.1,decide_eq_true h.2⟩⟩
theorem pT(hn:(cR l).Nodup):cZ (dW ss l) x=some k↔cZ l x=some k/\x∈ss:=by
 rw[jv (eB (fN ss l) hn),jv hn];unfold dW;rw[Q1s];exact⟨λh=>⟨h.1,of_decide_eq_true h.2⟩,λh=>⟨h.1,decide_eq_true h.2⟩⟩
theorem mP(ha:(cR a).Nodup)(hb:(cR b).Nodup)(d:∀x∈cR b,x ∉ cR a):(cR (a++b)).Nodup:=by
 unfold cR;rw[Q0h];exact List.nodup_append.mpr ⟨ha,hb,λx hx y hy e=>d y hy (e ▸ hx)⟩
theorem kU:x∈cR (a++b)↔x∈cR a\/x∈cR b:=by
 unfold cR;rw[Q0h,Q25]
theorem fQ(hn:(cR (a++b)).Nodup)(ha:(cR a).Nodup)(hb:(cR b).Nodup):cZ (a++b) x=some k↔cZ a x=some k\/cZ b x=some k:=by
 rw[jv hn,jv ha,jv hb,Q25]
theorem gB (y:Str)(q:Kd):(cR [(y,q)]).Nodup:=List.nodup_cons.mpr ⟨λz=>(nomatch z),Q0s⟩
theorem lN:x∈cR [(y,q)]↔x=y:=⟨λh=>List.mem_singleton.mp h,λh=>by rw[h];exact Q04⟩
theorem iB:cZ [(y,q)] x=some k↔x=y/\k=q:=by
 rw[lD];by_cases e:y=x
 . rw[if_pos e];exact⟨λh=>⟨e.symm,(Option.some.inj h).symm⟩,λh=>by rw[h.2]⟩
 . rw[if_neg e];exact⟨λh=>(by cases h),λh=>absurd h.1.symm e⟩
theorem vc(h:l.Nodup):(eU ss l).Nodup:=h.filter _
theorem pU(h:l.Nodup):(fP x l).Nodup:=by
 unfold fP;split
 . exact h
 . rename_i hx;exact List.nodup_append.mpr ⟨h,List.nodup_cons.mpr ⟨λz=>(nomatch z),Q0s⟩,λa ha b hb e=>hx (by rw[<-List.mem_singleton.mp hb,<-e];exact ha)⟩
theorem nY:setG f x d x=d:=if_pos rfl
theorem jb(h:y≠x):setG f x d y=f y:=if_neg h
theorem Bt(hn:(cR l).Nodup)(ho:ss.Nodup)(hi:∀x∈ss,x∈cR l)(h:gA l m):dm (dP (dW ss l)) (.dct (Ds.eO m.gt ss)):=
 rH (eB (fN ss l) hn) (kT (eB (fN ss l) hn) ho (λx=>by rw[lE];exact⟨λz=>⟨hi x z,z⟩,λz=>z.2⟩) λx k e=>(eV h ((pT hn).mp e).1).2)
theorem gM(hn:(cR l).Nodup)(hy:y ∉ cR (bt ss l)):(cR (bt ss l++[(y,q)])).Nodup:=mP (eB (eF ss l) hn) (gB y q) λx hx=>by rw[lN.mp hx];exact hy
theorem vd(hn:(cR l).Nodup)(hy:y ∉ cR (bt ss l))(h:gA l m)(hd:dm q d):dm (dP (bt ss l++[(y,q)])) (.dct (Ds.eO (setG m.gt y d) (fP y (eU ss m.names)))):=by
 obtain⟨n1,n2⟩:=h.nm hn;have nd:=gM (q:=q) hn hy;refine rH nd (kT nd (pU (vc n1)) (λx=>?_) λx k e=>?_)
 . rw[iK,fU,n2,kU,lN,f7];exact⟨λz=>z.elim .inr .inl,λz=>z.elim .inr .inl⟩
 . rcases(fQ nd (eB (eF ss l) hn) (gB y q)).mp e with e|e
   . have hx:x≠y:=λz=>hy (by rw[<-z];exact dS e);rw[jb hx];exact(eV h ((jy hn).mp e).1).2
   . obtain⟨rfl,rfl⟩:=iB.mp e;rw[nY];exact hd
theorem Io(hn:(cR l).Nodup)(hx:cZ l x=some k0)(h:gA l m)(hd:dm q d):dm (dP (bt [x] l++[(x,q)])) (.dct (Ds.eO (setG m.gt x d) (fP x m.names))):=by
 obtain⟨n1,n2⟩:=h.nm hn;have nd:=gM (q:=q) hn (kP (f:=x) (l:=l));refine rH nd (kT nd (pU n1) (λz=>?_) λz k e=>?_)
 . rw[iK,n2,kU,lN,f7];refine⟨λc=>?_,λc=>c.elim (λc=>.inr c.1) .inl⟩;by_cases e:z=x
   . exact .inr e
   . exact .inl ⟨c.resolve_left e,λt=>e (List.mem_singleton.mp t)⟩
 . rcases(fQ nd (eB (eF [x] l) hn) (gB x q)).mp e with e|e
   . have hx:z≠x:=λc=>(f7.mp (dS e)).2 (by rw[c];exact Q04);rw[jb hx];exact(eV h ((jy hn).mp e).1).2
   . obtain⟨rfl,rfl⟩:=iB.mp e;rw[nY];exact hd
theorem Bu(hn:(cR l).Nodup)(hg:(cR g).Nodup)(hf:cZ l f=some q)(hd:∀x∈cR g,x ∉ cR (bt [f] l))(h:gA l m)(em:m.gt f=.dct mi)(hi:gA g mi)(aa:(cR l').Nodup)(ml:∀x k,cZ l' x=some k↔cZ (bt [f] l) x=some k\/cZ g x=some k):gA l' (lL f m).ds:=by
 obtain⟨n1,n2⟩:=h.nm hn;obtain⟨i1,i2⟩:=hi.nm hg;show gA l' (Ds.eO (λx=>((m.gt f).ds.get x).getD (m.gt x)) (eU [f] m.names++(m.gt f).ds.names));rw[em];show gA l' (Ds.eO (λx=>(mi.get x).getD (m.gt x)) (eU [f] m.names++mi.names));have hb:∀x,x∈eU [f] m.names↔x∈cR (bt [f] l):=λx=>by rw[fU,f7,n2]
 refine kT aa (List.nodup_append.mpr ⟨vc n1,i1,λx hx y hy e=>hd y ((i2 y).mp hy) ((hb y).mp (e ▸ hx))⟩) (λx=>?_) λx k e=>?_
 . rw[Q25,hb,i2];constructor
   . rintro(z|z)
     . obtain⟨k,hk⟩:=i6 z;exact dS ((ml x k).mpr (.inl hk))
     . obtain⟨k,hk⟩:=i6 z;exact dS ((ml x k).mpr (.inr hk))
   . intro z;obtain⟨k,hk⟩:=i6 z;exact((ml x k).mp hk).elim (λc=>.inl (dS c)) λc=>.inr (dS c)
 . rcases(ml x k).mp e with c|c
   . have hx:mi.get x=none:=by
      cases z:mi.get x with
      |none=>rfl
      |some u=>exact absurd (dS c) (hd x ((i2 x).mp (Ds.jw z)))
     show dm k ((mi.get x).getD (m.gt x));rw[hx];exact(eV h ((jy hn).mp c).1).2
   . obtain⟨u,h1,h2⟩:=hi.2 x k c;show dm k ((mi.get x).getD (m.gt x));rw[h1];exact h2
mutual
theorem gY:∀(v:Vw) (k k':Kd) (d:D),k.O->bh v k=.inr k'->dm k d->dm k' (dN v d)
 | .vw,k,k',d,hO,h,hF=>by
   unfold bh at h
   cases h;unfold dN;exact hF
 | .tk ss,k,k',d,hO,h,hF=>by
   obtain⟨l,e,ho,rfl⟩:=kJ h;obtain⟨m,rfl,hG⟩:=hF.g e;obtain⟨o1,o2⟩:=nV ho;unfold dN;exact Bt (dD e hO).1.1 o1 o2 hG
 | .rn o n,k,k',d,hO,h,hF=>by
   obtain⟨l,q,e,eq,aa,rfl⟩:=kK h;obtain⟨m,rfl,hG⟩:=hF.g e;unfold dN;exact vd (dD e hO).1.1 (λz=>aa (f7.mp z).1) hG (eV hG eq).2
 | .ne ss y,k,k',d,hO,h,hF=>by
   obtain⟨l,e,ho,aa,rfl⟩:=kL h;obtain⟨m,rfl,hG⟩:=hF.g e;obtain⟨o1,o2⟩:=nV ho;unfold dN nestD;exact vd (dD e hO).1.1 aa hG (Bt (dD e hO).1.1 o1 o2 hG)
 | .un f,k,k',d,hO,h,hF=>by
   obtain⟨l,q,g,e,eq,er,hd,rfl⟩:=kM h;obtain⟨m,rfl,hG⟩:=hF.g e;have hn:=(dD e hO).1;have hg:=(dD er (hn.get eq)).1.1;obtain⟨mi,em,hi⟩:=(eV hG eq).2.g er;have nd:=mP (eB (eF [f] l) hn.1) hg hd;unfold dN;exact rH nd (Bu hn.1 hg eq hd hG em hi nd λx k=>fQ nd (eB (eF [f] l) hn.1) hg)
 | .wi f v,k,k',d,hO,h,hF=>by
   obtain⟨l,q,s,e,eq,es,rfl⟩:=kN h;obtain⟨m,rfl,hG⟩:=hF.g e;have hn:=(dD e hO).1;unfold dN;exact Io hn.1 eq hG (gY v q s _ (hn.get eq) es (eV hG eq).2)
 | .aT x,k,k',d,hO,h,hF=>by
   obtain⟨l,e,eq⟩:=lF h;obtain⟨m,rfl,hG⟩:=hF.g e;unfold dN;exact(eV hG eq).2
 | .ch vs,k,k',d,hO,h,hF=>by
   unfold dN;exact Bv vs 0 k k' d hO (jS h) hF
theorem Bv:∀(vs:Vs) (i:Nat) (k k':Kd) (d:D),k.O->fh vs i k=.inr k'->dm k d->dm k' (iz vs d)
 | .nil,_,k,k',d,hO,h,hF=>by
   unfold fh at h
   cases h;unfold iz;exact hF
 | .cons v r,i,k,k',d,hO,h,hF=>by
   obtain⟨k1,e1,h⟩:=i7 h;unfold iz;exact Bv r _ k1 k' _ (gK v k k1 hO e1).1 h (gY v k k1 d hO e1 hF)
end
theorem Iq(e:du k=some l)(hl:(cR l).Nodup)(aa:(cR l').Nodup)(ml:∀x q,cZ l x=some q↔cZ l' x=some q)(h:dm (dP l') (.dct m)):dm k (.dct m):=by
 obtain⟨m',e',hG⟩:=gp aa h
 cases e';refine mO e ⟨?_,λx q hx=>hG.2 x q ((ml x q).mp hx)⟩;rw[hG.1];have:(cR l').length=(cR l).length:=Bs aa hl λx=>⟨λz=>by obtain⟨q,hq⟩:=i6 z;exact dS ((ml x q).mpr hq),λz=>by obtain⟨q,hq⟩:=i6 z;exact dS ((ml x q).mp hq)⟩;unfold cR at this;rw[Q01,Q01] at this;exact this
theorem Ir(hn:(cR l).Nodup)(ho:cZ l o=some q)(ab:n ∉ cR l)(x:Str)(k:Kd):cZ l x=some k↔cZ (bt [n] (bt [o] l++[(n,q)])++[(o,q)]) x=some k:=by
 have aa:=gM (q:=q) hn (λz=>ab (f7.mp z).1:n ∉ cR (bt [o] l))
 have ob:o ∉ cR (bt [n] (bt [o] l++[(n,q)])):=λz=>by
  obtain⟨z1,z2⟩:=f7.mp z;rcases kU.mp z1 with c|c
  . exact kP c
  . exact z2 (by rw[lN.mp c];exact Q04)
 rw[fQ (gM aa ob) (eB (eF _ _) aa) (gB o q),jy aa,fQ aa (eB (eF _ _) hn) (gB n q),jy hn,iB,iB];constructor
 . intro h;by_cases e:x=o
   . rw[e,ho] at h;cases h;exact .inr ⟨e,rfl⟩
   . refine .inl ⟨.inl ⟨h,λz=>e (List.mem_singleton.mp z)⟩,λz=>ab ?_⟩;rw[<-List.mem_singleton.mp z];exact dS h
 . rintro(⟨h|⟨rfl,rfl⟩,h2⟩|⟨rfl,rfl⟩)
   . exact h.1
   . exact absurd Q04 h2
   . exact ho
theorem Iu(e:du k=some l)(hn:(cR l).Nodup)(hG:gA l m)(aa:gA (dW ss l) m2):dm k (.dct (Ds.eO (λx=>(m2.get x).getD (m.gt x)) m.names)):=by
 obtain⟨n1,n2⟩:=hG.nm hn;refine mO e (kT hn n1 n2 λx q hx=>?_)
 cases z:m2.get x with
 |none=>exact(eV hG hx).2
 |some u=>
  have hm:=(aa.nm (eB (fN ss l) hn)).2 x |>.mp (Ds.jw z);obtain⟨u',h1,h2⟩:=aa.2 x q ((pT hn).mpr ⟨hx,(lE.mp hm).2⟩);rw[z] at h1
  cases h1;exact h2
mutual
theorem kX:∀(v:Vw) (k k':Kd) (d s:D),k.O->bh v k=.inr k'->dm k d->dm k' s->dm k (dE v k d s)
 | .vw,k,k',d,s,hO,h,hF,hS=>by
   unfold bh at h
   cases h;unfold dE;exact hS
 | .tk ss,k,k',d,s,hO,h,hF,hS=>by
   obtain⟨l,e,ho,rfl⟩:=kJ h;have hn:=(dD e hO).1.1;obtain⟨m,rfl,hG⟩:=hF.g e;obtain⟨m2,rfl,aa⟩:=gp (eB (fN ss l) hn) hS;unfold dE;exact Iu e hn hG aa
 | .rn o n,k,k',d,s,hO,h,hF,hS=>by
   obtain⟨l,q,e,eq,ae,rfl⟩:=kK h;have hn:=(dD e hO).1.1;have ab:=gM (q:=q) hn (λz=>ae (f7.mp z).1:n ∉ cR (bt [o] l));obtain⟨m2,rfl,aa⟩:=gp ab hS
   have ob:o ∉ cR (bt [n] (bt [o] l++[(n,q)])):=λz=>by
    obtain⟨z1,z2⟩:=f7.mp z;rcases kU.mp z1 with c|c
    . exact kP c
    . exact z2 (by rw[lN.mp c];exact Q04)
   have hq:=(eV aa ((fQ ab (eB (eF _ _) hn) (gB n q)).mpr (.inr (iB.mpr ⟨rfl,rfl⟩)))).2;unfold dE;exact Iq e hn (gM ab ob) (Ir hn eq ae) (vd ab ob aa hq)
 | .ne ss y,k,k',d,s,hO,h,hF,hS=>by
   obtain⟨l,e,ho,ae,rfl⟩:=kL h;have hn:=(dD e hO).1.1;have ab:=gM (q:=dP (dW ss l)) hn ae;have na:=eB (fN ss l) hn;obtain⟨m2,rfl,aa⟩:=gp ab hS;have hy:=(fQ ab (eB (eF _ _) hn) (gB y (dP (dW ss l)))).mpr (.inr (iB.mpr ⟨rfl,rfl⟩));obtain⟨mi,em,hi⟩:=gp na (eV aa hy).2
   have bk:∀x k,cZ (bt [y] (bt ss l++[(y,dP (dW ss l))])) x=some k↔cZ (bt ss l) x=some k:=λx k=>by
    rw[jy ab,fQ ab (eB (eF _ _) hn) (gB y _),iB];refine⟨λz=>z.1.resolve_right λc=>z.2 (by rw[c.1];exact Q04),λz=>⟨.inl z,λc=>ae ?_⟩⟩;rw[<-List.mem_singleton.mp c];exact dS z
   unfold dE;refine mO e (Bu ab na hy (λx hx z=>?_) aa em hi hn λx k=>?_)
   . obtain⟨q,hq⟩:=i6 z;exact(f7.mp (dS ((bk x q).mp hq))).2 (lE.mp hx).2
   . rw[bk,jy hn,pT hn];by_cases c:x∈ss
     . exact⟨λz=>.inr ⟨z,c⟩,λz=>z.elim (λz=>z.1) λz=>z.1⟩
     . exact⟨λz=>.inl ⟨z,c⟩,λz=>z.elim (λz=>z.1) λz=>z.1⟩
 | .un f,k,k',d,s,hO,h,hF,hS=>by
   obtain⟨l,q,g,e,eq,er,hd,rfl⟩:=kM h;have hn:=(dD e hO).1;have hg:=(dD er (hn.get eq)).1.1;have nb:=eB (eF [f] l) hn.1;have nd:=mP nb hg hd;obtain⟨m2,rfl,aa⟩:=gp nd hS;obtain⟨n1,n2⟩:=aa.nm nd;unfold dE nestD;rw[mN e eq,pS er];refine mO e (kT hn.1 (pU (vc n1)) (λx=>?_) λx k hx=>?_)
   . show x∈fP f (eU (cR g) m2.names)↔_;rw[iK,fU,n2,kU];constructor
     . rintro(rfl|⟨z|z,z2⟩)
       . exact dS eq
       . exact(f7.mp z).1
       . exact absurd z z2
     . intro z;by_cases c:x=f
       . exact .inl c
       . have:=f7.mpr ⟨z,(λt=>c (List.mem_singleton.mp t):x ∉ [f])⟩;exact .inr ⟨.inl this,λt=>hd x t this⟩
   . by_cases c:x=f
     . subst c;rw[nY];rw[eq] at hx
       cases hx;refine mO er (kT hg hg (λx=>Iff.rfl) λx k hx=>(eV aa ((fQ nd nb hg).mpr (.inr hx))).2)
     . rw[jb c];exact(eV aa ((fQ nd nb hg).mpr (.inl ((jy hn.1).mpr ⟨hx,λt=>c (List.mem_singleton.mp t)⟩)))).2
 | .wi f v,k,k',d,s,hO,h,hF,hS=>by
   obtain⟨l,q,t,e,eq,es,rfl⟩:=kN h;have hn:=(dD e hO).1;obtain⟨m,rfl,hG⟩:=hF.g e;have ab:=gM (q:=t) hn.1 (kP (f:=f));obtain⟨m2,rfl,aa⟩:=gp ab hS;have nb:=eB (eF [f] l) hn.1;have hf:=(fQ ab nb (gB f t)).mpr (.inr (iB.mpr ⟨rfl,rfl⟩));obtain⟨n1,n2⟩:=aa.nm ab;unfold dE;rw[mN e eq];have ih:=kX v q t _ _ (hn.get eq) es (eV hG eq).2 (eV aa hf).2;refine mO e (kT hn.1 (pU n1) (λx=>?_) λx k hx=>?_)
   . show x∈fP f m2.names↔_;rw[iK,n2,kU,lN,f7];constructor
     . rintro(rfl|z|rfl)
       . exact dS eq
       . exact z.1
       . exact dS eq
     . intro z;by_cases c:x=f
       . exact .inl c
       . exact .inr (.inl ⟨z,λt=>c (List.mem_singleton.mp t)⟩)
   . by_cases c:x=f
     . subst c;rw[nY];rw[eq] at hx
       cases hx;exact ih
     . rw[jb c];exact(eV aa ((fQ ab nb (gB f t)).mpr (.inl ((jy hn.1).mpr ⟨hx,λt=>c (List.mem_singleton.mp t)⟩)))).2
 | .aT x,k,k',d,s,hO,h,hF,hS=>by
   obtain⟨l,e,eq⟩:=lF h;have hn:=(dD e hO).1.1;obtain⟨m,rfl,hG⟩:=hF.g e;obtain⟨n1,n2⟩:=hG.nm hn;unfold dE;refine mO e (kT hn (pU n1) (λz=>?_) λz k hz=>?_)
   . show z∈fP x m.names↔_;rw[iK,n2];exact⟨λc=>c.elim (λc=>by rw[c];exact dS eq) id,.inr⟩
   . by_cases c:z=x
     . subst c;rw[nY];rw[eq] at hz
       cases hz;exact hS
     . rw[jb c];exact(eV hG hz).2
 | .ch vs,k,k',d,s,hO,h,hF,hS=>by
   unfold dE;exact pV vs 0 k k' d s hO (jS h) hF hS
theorem pV:∀(vs:Vs) (i:Nat) (k k':Kd) (d s:D),k.O->fh vs i k=.inr k'->dm k d->dm k' s->dm k (gz vs k d s)
 | .nil,_,k,k',d,s,hO,h,hF,hS=>by
   unfold fh at h
   cases h;unfold gz;exact hS
 | .cons v r,i,k,k',d,s,hO,h,hF,hS=>by
   obtain⟨k1,e1,h⟩:=i7 h;unfold gz;rw[ja e1];exact kX v k k1 _ _ hO e1 hF (pV r _ k1 k' _ _ (gK v k k1 hO e1).1 h (gY v k k1 d hO e1 hF) hS)
end
theorem jV(h:x∈ns):(D.dct (Ds.eO f ns)).fld x=f x:=by
 show(Ds.eO f ns).gt x=f x;exact lK (by rw[vb,if_pos h])
theorem nZ(e:du k=some l)(hx:cZ l x=some q)(hF:dm k d):∃m,d=.dct m/\x∈m.names/\m.get x=some (d.fld x)/\dm q (d.fld x):=by
 obtain⟨m,rfl,hG⟩:=hF.g e;obtain⟨h1,h2⟩:=eV hG hx;exact⟨m,rfl,Ds.jw h1,h1,h2⟩
theorem jW(hn:(cR l).Nodup):∃l',du (dP l)=some l'/\∀x k,cZ l' x=some k↔cZ l x=some k:=by
 have pm:=kH (λp:NK=>p.1) l;refine⟨gE (·.1) l,?_,λx k=>?_⟩
 . show some (Fs.fT _).toL=_;rw[pJ]
 . rw[jv ((pm.map _).nodup_iff.mpr hn),jv hn,pm.mem_iff]
structure Kept (v:Vw) (k k':Kd) (x:Str) (q:Kd):Prop where
 kd:∃l',du k'=some l'/\cZ l' x=some q
 se:∀d,dm k d->(dN v d).fld x=d.fld x
 pu:∀d s,dm k d->dm k' s->(dE v k d s).fld x=s.fld x
theorem not_of {a b:Str}(h:(!decide (a=b))=true):a≠b:=λe=>by rw[decide_eq_true e] at h;cases h
theorem ve {l:List NK}{f x:Str}{q t:Kd}(hn:(cR l).Nodup)(hx:cZ l x=some q)(hf:x≠f):cZ (bt [f] l) x=some q:=(jy hn).mpr ⟨hx,λz=>hf (List.mem_singleton.mp z)⟩
mutual
theorem Bw:∀(v:Vw) (k k':Kd) (x:Str) (l:List NK) (q:Kd),k.O->bh v k=.inr k'->du k=some l->cZ l x=some q->kps v x=true->Kept v k k' x q
 | .vw,k,k',x,l,q,hO,h,e,hx,hk=>by
   unfold bh at h
   cases h;exact⟨⟨l,e,hx⟩,λd _=>by unfold dN;rfl,λd s _ _=>by unfold dE;rfl⟩
 | .tk ss,k,k',x,l,q,hO,h,e,hx,hk=>by
   obtain⟨l1,e1,ho,rfl⟩:=kJ h;rw[e] at e1
   cases e1;have hn:=(dD e hO).1.1;unfold kps at hk;have hk:=of_decide_eq_true hk;have na:=eB (fN ss l) hn;obtain⟨l',e',af⟩:=jW na;refine⟨⟨l',e',(af x q).mpr ((pT hn).mpr ⟨hx,hk⟩)⟩,λd hF=>?_,λd s hF hS=>?_⟩
   . unfold dN;exact jV hk
   . obtain⟨m2,rfl,ae⟩:=gp na hS;obtain⟨m,rfl,hm,_⟩:=nZ e hx hF;unfold dE;refine(jV hm).trans ?_;show(m2.get x).getD _=m2.gt x;rw[(eV ae ((pT hn).mpr ⟨hx,hk⟩)).1];rfl
 | .rn o n,k,k',x,l,q,hO,h,e,hx,hk=>by
   obtain⟨l1,q1,e1,eq,ag,rfl⟩:=kK h;rw[e] at e1
   cases e1;have hn:=(dD e hO).1.1;unfold kps at hk;obtain⟨k1,k2⟩:=Bool.and_eq_true_iff.mp hk;have k1:=not_of k1;have k2:=not_of k2;have aa:=gM (q:=q1) hn (λz=>ag (f7.mp z).1:n ∉ cR (bt [o] l));have nb:=eB (eF [o] l) hn;obtain⟨l',e',af⟩:=jW aa;have ab:=(fQ aa nb (gB n q1)).mpr (.inl (ve (t:=q) hn hx k1));refine⟨⟨l',e',(af x q).mpr ab⟩,λd hF=>?_,λd s hF hS=>?_⟩
   . obtain⟨m,rfl,hm,_⟩:=nZ e hx hF;unfold dN;refine(jV (iK.mpr (.inr (fU.mpr ⟨hm,λz=>k1 (List.mem_singleton.mp z)⟩)))).trans ?_;rw[jb k2];rfl
   . obtain⟨m2,rfl,ae⟩:=gp aa hS;unfold dE;refine(jV (iK.mpr (.inr (fU.mpr ⟨((ae.nm aa).2 x).mpr (dS ab),λz=>k2 (List.mem_singleton.mp z)⟩)))).trans ?_;rw[jb k1];rfl
 | .ne ss y,k,k',x,l,q,hO,h,e,hx,hk=>by
   obtain⟨l1,e1,ho,ag,rfl⟩:=kL h;rw[e] at e1
   cases e1;have hn:=(dD e hO).1.1;unfold kps at hk;obtain⟨k1,k2⟩:=Bool.and_eq_true_iff.mp hk;have k1:x ∉ ss:=λz=>by rw[decide_eq_true z] at k1;cases k1
   have k2:=not_of k2;have aa:=gM (q:=dP (dW ss l)) hn ag;have nb:=eB (eF ss l) hn;have na:=eB (fN ss l) hn;obtain⟨l',e',af⟩:=jW aa;have ab:=(fQ aa nb (gB y (dP (dW ss l)))).mpr (.inl ((jy hn).mpr ⟨hx,k1⟩));refine⟨⟨l',e',(af x q).mpr ab⟩,λd hF=>?_,λd s hF hS=>?_⟩
   . obtain⟨m,rfl,hm,_⟩:=nZ e hx hF;unfold dN nestD;refine(jV (iK.mpr (.inr (fU.mpr ⟨hm,k1⟩)))).trans ?_;rw[jb k2];rfl
   . obtain⟨m2,rfl,ae⟩:=gp aa hS;have hy:=(fQ aa nb (gB y (dP (dW ss l)))).mpr (.inr (iB.mpr ⟨rfl,rfl⟩));obtain⟨mi,em,hi⟩:=gp na (eV ae hy).2;unfold dE lL;refine(jV (Q0o _ (fU.mpr ⟨((ae.nm aa).2 x).mpr (dS ab),λz=>k2 (List.mem_singleton.mp z)⟩))).trans ?_;show(((m2.gt y).ds.get x).getD (m2.gt x))=m2.gt x;rw[em]
     cases z:mi.get x with
     |none=>show((Ds.get mi x).getD _)=_;rw[z];rfl
     |some u=>exact absurd (lE.mp (((hi.nm na).2 x).mp (Ds.jw z))).2 k1
 | .un f,k,k',x,l,q,hO,h,e,hx,hk=>by
   obtain⟨l1,q1,g,e1,eq,er,hd,rfl⟩:=kM h;rw[e] at e1
   cases e1;have hn:=(dD e hO).1;have hg:=(dD er (hn.get eq)).1.1;unfold kps at hk;have k1:=not_of hk;have nb:=eB (eF [f] l) hn.1;have nd:=mP nb hg hd;have hb:=ve (t:=q) hn.1 hx k1;obtain⟨l',e',af⟩:=jW nd;have ab:=(fQ nd nb hg).mpr (.inl hb);refine⟨⟨l',e',(af x q).mpr ab⟩,λd hF=>?_,λd s hF hS=>?_⟩
   . obtain⟨m,rfl,hG⟩:=hF.g e;obtain⟨mi,em,hi⟩:=(eV hG eq).2.g er;unfold dN lL;refine(jV (Q0o _ (fU.mpr ⟨((hG.nm hn.1).2 x).mpr (dS hx),λz=>k1 (List.mem_singleton.mp z)⟩))).trans ?_;show(((m.gt f).ds.get x).getD (m.gt x))=m.gt x;rw[em]
     cases z:mi.get x with
     |none=>show((Ds.get mi x).getD _)=_;rw[z];rfl
     |some u=>exact absurd (dS hb) (hd x (((hi.nm hg).2 x).mp (Ds.jw z)))
   . obtain⟨m2,rfl,ae⟩:=gp nd hS;unfold dE nestD;rw[mN e eq,pS er];refine(jV (iK.mpr (.inr (fU.mpr ⟨((ae.nm nd).2 x).mpr (dS ab),λz=>hd x z (dS hb)⟩)))).trans ?_;rw[jb k1];rfl
 | .wi f v,k,k',x,l,q,hO,h,e,hx,hk=>by
   obtain⟨l1,q1,t,e1,eq,es,rfl⟩:=kN h;rw[e] at e1
   cases e1;have hn:=(dD e hO).1.1;unfold kps at hk;have k1:=not_of hk;have aa:=gM (q:=t) hn (kP (f:=f));have nb:=eB (eF [f] l) hn;obtain⟨l',e',af⟩:=jW aa;have ab:=(fQ aa nb (gB f t)).mpr (.inl (ve (t:=q) hn hx k1));refine⟨⟨l',e',(af x q).mpr ab⟩,λd hF=>?_,λd s hF hS=>?_⟩
   . obtain⟨m,rfl,hm,_⟩:=nZ e hx hF;unfold dN;refine(jV (iK.mpr (.inr hm))).trans ?_;rw[jb k1];rfl
   . obtain⟨m2,rfl,ae⟩:=gp aa hS;unfold dE;refine(jV (iK.mpr (.inr (((ae.nm aa).2 x).mpr (dS ab))))).trans ?_;rw[jb k1];rfl
 | .aT f,k,k',x,l,q,hO,h,e,hx,hk=>by
   unfold kps at hk
   cases hk
 | .ch vs,k,k',x,l,q,hO,h,e,hx,hk=>by
   unfold kps at hk;obtain⟨h1,h2,h3⟩:=Bx vs 0 k k' x l q hO (jS h) e hx hk;exact⟨h1,λd hF=>by unfold dN;exact h2 d hF,λd s hF hS=>by unfold dE;exact h3 d s hF hS⟩
theorem Bx:∀(vs:Vs) (i:Nat) (k k':Kd) (x:Str) (l:List NK) (q:Kd),k.O->fh vs i k=.inr k'->du k=some l->cZ l x=some q->lM vs x=true->(∃l',du k'=some l'/\cZ l' x=some q)/\(∀d,dm k d->(iz vs d).fld x=d.fld x)/\∀d s,dm k d->dm k' s->(gz vs k d s).fld x=s.fld x
 | .nil,i,k,k',x,l,q,hO,h,e,hx,hk=>by
   unfold fh at h
   cases h;exact⟨⟨l,e,hx⟩,λd _=>by unfold iz;rfl,λd s _ _=>by unfold gz;rfl⟩
 | .cons v r,i,k,k',x,l,q,hO,h,e,hx,hk=>by
   obtain⟨k1,e1,h⟩:=i7 h;unfold lM at hk;obtain⟨ae,af⟩:=Bool.and_eq_true_iff.mp hk;have hv:=Bw v k k1 x l q hO e1 e hx ae;have aa:=(gK v k k1 hO e1).1;obtain⟨l1,el,hl⟩:=hv.kd;obtain⟨h1,h2,h3⟩:=Bx r (i+1) k1 k' x l1 q aa h el hl af;refine⟨h1,λd hF=>?_,λd s hF hS=>?_⟩
   . unfold iz;exact(h2 _ (gY v k k1 d hO e1 hF)).trans (hv.se d hF)
   . unfold gz;rw[ja e1];have ab:=gY v k k1 d hO e1 hF;exact(hv.pu d _ hF (pV r _ k1 k' _ s aa h ab hS)).trans (h3 _ s ab hS)
end
def DS (N:Nat) (d:D):Prop:=d.dep<=N/\d.Sm
theorem DS.mono(h:DS N d)(hm:N<=M):DS M d:=⟨Q0b h.1 hm,h.2⟩
theorem By:∀m:Ds,m.len=m.names.length
 | .nil=>rfl
 | .cons _ _ r=>congrArg (· +1) (By r)
theorem Bz:∀{m:Ds}{x:Str}{d:D},m.Sm->m.get x=some d->d.dep<=m.dep/\d.Sm
 | .nil,_,_,_,h=>by cases h
 | .cons y e r,x,d,w,h=>by
   unfold Ds.Sm at w;have h:(if x=y then some e else r.get x)=some d:=h;unfold Ds.dep;by_cases c:x=y
   . rw[if_pos c] at h;cases h;exact⟨by omega,w.1⟩
   . rw[if_neg c] at h;have:=Bz w.2 h;exact⟨by omega,this.2⟩
def PS (N:Nat) (m:Ds):Prop:=∀x∈m.names,DS N (m.gt x)
theorem DS.ps(h:DS N (.dct m)):∃M,N=M+1/\PS M m:=by
 obtain⟨h1,h2⟩:=h;unfold D.dep at h1;unfold D.Sm at h2;refine⟨N - 1,by omega,λx hx=>?_⟩;obtain⟨d,hd⟩:=Ds.get_mem hx;have:=Bz h2.2 hd;rw[lK hd];exact⟨by omega,this.2⟩
theorem BA:∀{ns:List Str},(∀x∈ns,DS N (f x))->(Ds.eO f ns).dep<=N/\(Ds.eO f ns).Sm
 |[],_=>by unfold Ds.eO Ds.dep Ds.Sm;exact⟨Q0c _,trivial⟩
 |x::r,h=>by
  obtain⟨h1,h2⟩:=BA (ns:=r) λy hy=>h y (Q09 _ hy);obtain⟨h3,h4⟩:=h x Q04;unfold Ds.eO Ds.dep Ds.Sm;exact⟨by omega,h4,h2⟩
theorem Iv(hO:k.O)(hs:k.sz<=60)(h:dm k (.dct m))(e:∃l,du k=some l):m.names.length<=60:=by
 obtain⟨l,e⟩:=e;obtain⟨m',e',hG⟩:=h.g e
 cases e';obtain⟨_,h2,_⟩:=dD e hO;have:=jt l;rw[hG.1];omega
theorem jX(h:∀x∈ns,DS N (f x))(hl:ns.length<=60):DS (N+1) (.dct (Ds.eO f ns)):=by
 obtain⟨h1,h2⟩:=BA h;refine⟨by unfold D.dep;omega,?_⟩;unfold D.Sm;exact⟨by rw[By,rG];omega,h2⟩
mutual
noncomputable def Vw.pp:Vw->Nat
 | .vw=>0
 | .tk _=>0
 | .wi _ v=>v.pp
 | .ch vs=>vs.pp
 |_=>1
noncomputable def Vs.pp:Vs->Nat
 | .nil=>0
 | .cons v r=>v.nn+v.pp+r.pp
end
theorem pW (l:List NK):∃l',du (dP l)=some l':=⟨_,rfl⟩
theorem fl(hO:k.O)(hs:k.sz<=60)(e:∃l,du k=some l)(h:dm k (.dct (Ds.eO f ns))):ns.length<=60:=by
 have:=Iv hO hs h e;rw[rG] at this;exact this
theorem n9(h:∀y∈ns,DS N (f y))(hd:DS N d):∀y∈fP x ns,DS N (setG f x d y):=λy hy=>by
 by_cases c:y=x
 . rw[c,nY];exact hd
 . rw[jb c];exact h y ((iK.mp hy).resolve_left c)
theorem BB(h:PS N m)(hf:f∈m.names)(em:m.gt f=.dct mi)(hl:(eU [f] m.names++(m.gt f).ds.names).length<=60):DS (N+1) (lL f m):=by
 refine jX (λx hx=>?_) hl;have aa:DS N (.dct mi):=by rw[<-em];exact h f hf
 show DS N (((m.gt f).ds.get x).getD (m.gt x));rw[em] at hx ⊢
 cases z:mi.get x with
 |none=>
  show DS N ((Ds.get mi x).getD (m.gt x));rw[z];refine h x ?_;rcases List.mem_append.mp hx with c|c
  . exact(fU.mp c).1
  . obtain⟨d,hd⟩:=Ds.get_mem c;have hd:mi.get x=some d:=hd;rw[z] at hd
    cases hd
 |some u=>
  show DS N ((Ds.get mi x).getD (m.gt x));rw[z];obtain⟨M,e,hp⟩:=aa.ps;have:=hp x (Ds.jw z);rw[lK z] at this;exact this.mono (by omega)
theorem BC(h:PS N m)(hi:∀x∈ss,x∈m.names)(hs:ss.length<=60)(hl:(fP y (eU ss m.names)).length<=60):DS (N+2) (nestD ss y m):=
 jX (n9 (λx hx=>(h x (fU.mp hx).1).mono (by omega)) (jX (λx hx=>h x (hi x hx)) hs)) hl
mutual
theorem n_:∀(v:Vw) (k k':Kd) (d:D) (N:Nat),k.O->bh v k=.inr k'->k.sz+v.nn<=60->dm k d->DS N d->DS (N+v.nn) (dN v d)
 | .vw,k,k',d,N,hO,h,hz,hF,hD=>by
   unfold dN;exact hD
 | .tk ss,k,k',d,N,hO,h,hz,hF,hD=>by
   have hK:=gK _ _ _ hO h;have aa:=gY _ _ _ _ hO h hF;obtain⟨l,e,ho,rfl⟩:=kJ h;obtain⟨m,rfl,hG⟩:=hF.g e;obtain⟨M,rfl,hp⟩:=hD.ps;have hn:=(dD e hO).1.1;obtain⟨_,o2⟩:=nV ho;unfold dN at aa ⊢;exact(jX (λx hx=>hp x (((hG.nm hn).2 x).mpr (o2 x hx))) (fl hK.1 (by omega) (pW _) aa)).mono (by omega)
 | .rn o n,k,k',d,N,hO,h,hz,hF,hD=>by
   have hK:=gK _ _ _ hO h;have aa:=gY _ _ _ _ hO h hF;obtain⟨l,q,e,eq,ae,rfl⟩:=kK h;obtain⟨m,rfl,hG⟩:=hF.g e;obtain⟨M,rfl,hp⟩:=hD.ps;have hn:=(dD e hO).1.1;unfold dN at aa ⊢;exact(jX (n9 (λx hx=>hp x (fU.mp hx).1) (hp o (((hG.nm hn).2 o).mpr (dS eq)))) (fl hK.1 (by omega) (pW _) aa)).mono (by omega)
 | .ne ss y,k,k',d,N,hO,h,hz,hF,hD=>by
   have hK:=gK _ _ _ hO h;have aa:=gY _ _ _ _ hO h hF;obtain⟨l,e,ho,ae,rfl⟩:=kL h;obtain⟨m,rfl,hG⟩:=hF.g e;obtain⟨M,rfl,hp⟩:=hD.ps;obtain⟨hn,h2,_⟩:=dD e hO;obtain⟨o1,o2⟩:=nV ho;have hl:=jt l;have ab:=nW o1 o2;unfold cR at ab;rw[Q01] at ab;unfold dN at aa ⊢;exact BC hp (λx hx=>((hG.nm hn.1).2 x).mpr (o2 x hx)) (by omega) (fl hK.1 (by omega) (pW _) aa)
 | .un f,k,k',d,N,hO,h,hz,hF,hD=>by
   have hK:=gK _ _ _ hO h;have aa:=gY _ _ _ _ hO h hF;obtain⟨l,q,g,e,eq,er,hd,rfl⟩:=kM h;obtain⟨m,rfl,hG⟩:=hF.g e;obtain⟨M,rfl,hp⟩:=hD.ps;have hn:=(dD e hO).1.1;obtain⟨mi,em,hi⟩:=(eV hG eq).2.g er;unfold dN at aa ⊢;exact(BB hp (((hG.nm hn).2 f).mpr (dS eq)) em (fl hK.1 (by omega) (pW _) aa)).mono (by omega)
 | .wi f v,k,k',d,N,hO,h,hz,hF,hD=>by
   have hK:=gK _ _ _ hO h;have aa:=gY _ _ _ _ hO h hF;obtain⟨l,q,s,e,eq,es,rfl⟩:=kN h;obtain⟨m,rfl,hG⟩:=hF.g e;obtain⟨M,rfl,hp⟩:=hD.ps;obtain⟨hn,h2,_⟩:=dD e hO;have a1:dh dA (bt [f] l)+q.sz<=dh dA l:=gy (f:=dA) eq;unfold Vw.nn at hz;have ih:=n_ v q s _ M (hn.get eq) es (by omega) (eV hG eq).2 (hp f (((hG.nm hn.1).2 f).mpr (dS eq)));unfold Vw.nn at hK;unfold dN at aa ⊢;unfold Vw.nn;exact(jX (n9 (λx hx=>(hp x hx).mono (by omega)) ih) (fl hK.1 (by omega) (pW _) aa)).mono (by omega)
 | .aT x,k,k',d,N,hO,h,hz,hF,hD=>by
   obtain⟨l,e,eq⟩:=lF h;obtain⟨m,rfl,hG⟩:=hF.g e;obtain⟨M,rfl,hp⟩:=hD.ps;have hn:=(dD e hO).1.1;unfold dN;exact(hp x (((hG.nm hn).2 x).mpr (dS eq))).mono (by omega)
 | .ch vs,k,k',d,N,hO,h,hz,hF,hD=>by
   unfold dN;unfold Vw.nn at hz ⊢;exact BD vs 0 k k' d N hO (jS h) hz hF hD
theorem BD:∀(vs:Vs) (i:Nat) (k k':Kd) (d:D) (N:Nat),k.O->fh vs i k=.inr k'->k.sz+vs.nn<=60->dm k d->DS N d->DS (N+vs.nn) (iz vs d)
 | .nil,i,k,k',d,N,hO,h,hz,hF,hD=>by
   unfold iz;exact hD
 | .cons v r,i,k,k',d,N,hO,h,hz,hF,hD=>by
   obtain⟨k1,e1,h⟩:=i7 h;unfold Vs.nn at hz ⊢;obtain⟨aa,ab,_⟩:=gK v k k1 hO e1;unfold iz;exact(BD r _ k1 k' _ _ aa h (by omega) (gY v k k1 d hO e1 hF) (n_ v k k1 d N hO e1 (by omega) hF hD)).mono (by omega)
end
mutual
theorem vf:∀(v:Vw) (k k':Kd) (d s:D) (N:Nat),k.O->bh v k=.inr k'->k.sz+v.nn<=60->dm k d->dm k' s->DS N d->DS N s->DS (N+v.pp) (dE v k d s)
 | .vw,k,k',d,s,N,hO,h,hz,hF,hS,hD,hE=>by
   unfold dE;exact hE
 | .tk ss,k,k',d,s,N,hO,h,hz,hF,hS,hD,hE=>by
   have aa:=kX _ _ _ _ _ hO h hF hS;obtain⟨l,e,ho,rfl⟩:=kJ h;have hn:=(dD e hO).1.1;obtain⟨m,rfl,hG⟩:=hF.g e;obtain⟨m2,rfl,ab⟩:=gp (eB (fN ss l) hn) hS;obtain⟨M,rfl,hp⟩:=hD.ps;obtain⟨M',e',af⟩:=hE.ps
   cases e';unfold dE at aa ⊢;refine(jX (N:=M) (λx hx=>?_) (fl hO (by omega) ⟨_,e⟩ aa)).mono (by omega);show DS M ((m2.get x).getD (m.gt x))
   cases z:m2.get x with
   |none=>exact hp x hx
   |some u=>
    have:=af x (Ds.jw z);rw[lK z] at this;exact this
 | .rn o n,k,k',d,s,N,hO,h,hz,hF,hS,hD,hE=>by
   have aa:=kX _ _ _ _ _ hO h hF hS;obtain⟨l,q,e,eq,ag,rfl⟩:=kK h;have hn:=(dD e hO).1.1;have ae:=gM (q:=q) hn (λz=>ag (f7.mp z).1:n ∉ cR (bt [o] l));obtain⟨m2,rfl,ab⟩:=gp ae hS;obtain⟨M,rfl,hp⟩:=hE.ps;have ah:n∈m2.names:=((ab.nm ae).2 n).mpr (kU.mpr (.inr (lN.mpr rfl)));unfold dE at aa ⊢;exact(jX (n9 (λx hx=>hp x (fU.mp hx).1) (hp n ah)) (fl hO (by omega) ⟨_,e⟩ aa)).mono (by omega)
 | .ne ss y,k,k',d,s,N,hO,h,hz,hF,hS,hD,hE=>by
   have aa:=kX _ _ _ _ _ hO h hF hS;obtain⟨l,e,ho,ag,rfl⟩:=kL h;have hn:=(dD e hO).1.1;have ae:=gM (q:=dP (dW ss l)) hn ag;have na:=eB (fN ss l) hn;obtain⟨m2,rfl,ab⟩:=gp ae hS;have hy:=(fQ ae (eB (eF _ _) hn) (gB y (dP (dW ss l)))).mpr (.inr (iB.mpr ⟨rfl,rfl⟩));obtain⟨mi,em,hi⟩:=gp na (eV ab hy).2;obtain⟨M,rfl,hp⟩:=hE.ps;unfold dE at aa ⊢;exact(BB hp (((ab.nm ae).2 y).mpr (dS hy)) em (fl hO (by omega) ⟨_,e⟩ aa)).mono (by omega)
 | .un f,k,k',d,s,N,hO,h,hz,hF,hS,hD,hE=>by
   have aa:=kX _ _ _ _ _ hO h hF hS;obtain⟨l,q,g,e,eq,er,hd,rfl⟩:=kM h;obtain⟨hn,h2,_⟩:=dD e hO;obtain⟨hg,g2,_⟩:=dD er (hn.get eq);have nd:=mP (eB (eF [f] l) hn.1) hg.1 hd;obtain⟨m2,rfl,ab⟩:=gp nd hS;obtain⟨M,rfl,hp⟩:=hE.ps;have a1:dh dA (bt [f] l)+q.sz<=dh dA l:=gy (f:=dA) eq;have ai:=jt g;unfold dE at aa ⊢;rw[mN e eq,pS er] at aa ⊢;exact BC hp (λx hx=>((ab.nm nd).2 x).mpr (kU.mpr (.inr hx))) (by unfold cR;rw[Q01];omega) (fl hO (by omega) ⟨_,e⟩ aa)
 | .wi f v,k,k',d,s,N,hO,h,hz,hF,hS,hD,hE=>by
   have aa:=kX _ _ _ _ _ hO h hF hS;obtain⟨l,q,t,e,eq,es,rfl⟩:=kN h;obtain⟨hn,h2,_⟩:=dD e hO;obtain⟨m,rfl,hG⟩:=hF.g e;have ae:=gM (q:=t) hn.1 (kP (f:=f));obtain⟨m2,rfl,ab⟩:=gp ae hS;have nb:=eB (eF [f] l) hn.1;have hf:=(fQ ae nb (gB f t)).mpr (.inr (iB.mpr ⟨rfl,rfl⟩));obtain⟨M,rfl,hp⟩:=hD.ps;obtain⟨M',e',af⟩:=hE.ps
   cases e';have a1:dh dA (bt [f] l)+q.sz<=dh dA l:=gy (f:=dA) eq;unfold Vw.nn at hz;have ih:=vf v q t _ _ M (hn.get eq) es (by omega) (eV hG eq).2 (eV ab hf).2 (hp f (((hG.nm hn.1).2 f).mpr (dS eq))) (af f (((ab.nm ae).2 f).mpr (dS hf)));unfold dE at aa ⊢;rw[mN e eq] at aa ⊢;unfold Vw.pp;exact(jX (n9 (λx hx=>(af x hx).mono (by omega)) ih) (fl hO (by omega) ⟨_,e⟩ aa)).mono (by omega)
 | .aT x,k,k',d,s,N,hO,h,hz,hF,hS,hD,hE=>by
   have aa:=kX _ _ _ _ _ hO h hF hS;obtain⟨l,e,eq⟩:=lF h;obtain⟨m,rfl,hG⟩:=hF.g e;obtain⟨M,rfl,hp⟩:=hD.ps;unfold dE at aa ⊢;exact jX (n9 (λx hx=>(hp x hx).mono (by omega)) hE) (fl hO (by omega) ⟨_,e⟩ aa)
 | .ch vs,k,k',d,s,N,hO,h,hz,hF,hS,hD,hE=>by
   unfold dE;unfold Vw.nn at hz;unfold Vw.pp;exact vg vs 0 k k' d s N hO (jS h) hz hF hS hD hE
theorem vg:∀(vs:Vs) (i:Nat) (k k':Kd) (d s:D) (N:Nat),k.O->fh vs i k=.inr k'->k.sz+vs.nn<=60->dm k d->dm k' s->DS N d->DS N s->DS (N+vs.pp) (gz vs k d s)
 | .nil,i,k,k',d,s,N,hO,h,hz,hF,hS,hD,hE=>by
   unfold gz;exact hE
 | .cons v r,i,k,k',d,s,N,hO,h,hz,hF,hS,hD,hE=>by
   obtain⟨k1,e1,h⟩:=i7 h;unfold Vs.nn at hz;obtain⟨aa,ae,_⟩:=gK v k k1 hO e1;have ab:=gY v k k1 d hO e1 hF;have ih:=vg r _ k1 k' (dN v d) s (N+v.nn) aa h (by omega) ab hS (n_ v k k1 d N hO e1 (by omega) hF hD) (hE.mono (by omega));unfold gz Vs.pp;rw[ja e1];exact(vf v k k1 d _ (N+v.nn+r.pp) hO e1 (by omega) hF (pV r _ k1 k' _ s aa h ab hS) (hD.mono (by omega)) ih).mono (by omega)
end
end Pb
namespace Pb
open L2 PyProof.Rows
theorem vh {u:V}(h:u≠ .non):(!decide (u=.non))=true:=by rw[decide_eq_false h];rfl
theorem ju.mk {H:Hp}{c:Addr}(h:H c=some (.tup [.str x,u]))(hk:KA H u k):ju H (.ref c) (x,k):=⟨c,u,rfl,h,hk⟩
theorem BE {K:W.Frag}{Q:V->Hp->Prop}{l m:List NK}(ha:H a=some (.lst xs))(hb:H b=some (.lst ys))(hl:FL H xs l)(hm:FL H ys m)(hn:(cR (l++m)).Nodup)(aa:l.length+m.length<=60)(hT:dc Pt d_ eh H)
 (q:∀r H',fj Pt H H'->dc Pt d_ eh H'->KA H' (.ref r) (dP (l++m))->Q (.ref r) H'):tf (.ref a) (.ref b) H λv H'=>kQ K Pt [v] H' Q E0:=by
 refine⟨a,b,xs,ys,rfl,rfl,ha,hb,Q0t (eE (by rw[hl.len,hm.len];omega)),λp hp=>?_⟩;have s:=Same.new (o:=.lst (xs++ys)) hp;exact uV (E:=E0) cV ((hl.app hm).mono (Tu.of s)) hn (by rw[Q0d];exact aa) (hT.same s) λr H' kp ab hk=>q r H' ((Kp.of s).trans kp) ab hk
theorem vj {σ:L2.St}{K:W.Frag}{Q:V->Hp->Prop}{l:List NK}(ha:H a=some (.lst xs))(hl:FL H xs l)(hu:KA H u k)(hn:(cR l).Nodup)(hx:x ∉ cR l)(ae:l.length<=59)(hT:dc Pt d_ eh H)
 (q:∀r H',fj Pt H H'->dc Pt d_ eh H'->KA H' (.ref r) (dP (l++[(x,k)]))->Q (.ref r) H'):sQ (sP gU σ (sS (v_ tf (sP gU σ (wG (kQ K Pt) [] E0 Q)) (.ref a)))) [V.str x,u] H:=by
 refine⟨gx,λp hp=>⟨gw,λp2 aa=>?_⟩⟩;have s1:=Same.new (o:=.tup [.str x,u]) hp;have s2:=Same.new (o:=.lst [.ref p]) aa;have s:=s1.trans s2;refine BE (s _ _ ha) cV (hl.mono (Tu.of s)) (.cons (ju.mk (s2 _ _ cV) (hu.mono (Tu.of s))) .nil) ?_ (by show _+1<=60;omega) (hT.same s) λr H' kp ab hk=>q r H' ((Kp.of s).trans kp) ab hk;unfold cR;rw[Q0h];exact List.nodup_append.mpr ⟨hn,List.nodup_cons.mpr ⟨λz=>(nomatch z),Q0s⟩,λy hy z hz e=>hx (by have:=e.trans (List.mem_singleton.mp hz);rw[show y=x from this] at hy;exact hy)⟩
theorem BF {u:V}(h:u≠ .non):[V.bl (!decide (u=.non))]=[V.bl true]:=congrArg (λb=>[V.bl b]) (vh h)
variable {P:Program}{w:World}{K:W.Frag}{mg:Str->Option Value}{base:Heap}
theorem Iw (Z:cW es K mg):Om P w K mg base cH c.vw "behind" XH (11) (gj c Pt (λw _=>w=.vw)):=by
 refine Z.om (k:=10) XH (dU 25 0) λvs H Q E h=>?_;obtain⟨v,kv,w,k,k',rfl,rfl,hV,hK,hb,q⟩:=h;refine⟨rfl,λql f aa A outer s _ nd hr hu=>?_⟩;refine⟨_,(cO (cS (pv 1))),?_⟩
 ac_rfl
 unfold bh at hb
 cases hb;exact⟨_,rfl,q kv H (Kp.refl _ _) hK.2.2 hK.1⟩
theorem Iy (T:Tb mg)(CT:CF K c.tk ["names"])(Z:cW es K mg)(aa:Ok P w K mg base cH "has_each_once" Xr (3) (uY K))(ae:Ok P w K mg base cH "ask_stands" ["stands"] (1) (mJ))(ab:Ok P w K mg base cH "fields_among" XJ (1) (uW K))(af:Ok P w K mg base cH "record_of" ["pairs"] (9) (kQ K Pt)):Om P w K mg base cH c.tk "behind" XH (11) (gj c Pt (λw k=>∃ss,w=.tk ss/\k.sz<=55)):=by
 refine Z.om (k:=10) XH (dU 39 1) λvs H Q E h=>?_;obtain⟨v,kv,w,k,k',rfl,⟨ss,rfl,hsz⟩,hV,⟨hk,hO,hT⟩,hb,q⟩:=h;refine⟨rfl,λql f aq A outer s _ nd hr hu=>?_⟩;unfold VA at hV;obtain⟨a,dx,p,rfl,ha,hp,ah⟩:=hV;have na:=CT.na "names" (by simp);obtain⟨l,e,ho,rfl⟩:=kJ hb;obtain⟨hn,ao⟩:=fV e hO hsz
 refine⟨_,(cK (ft (cT ae hr (a_ (cT aa hr (a_ (pv 1) (a_ (dI (pv 0) rfl) cG))) cG)))
  (cO (cS (cT af hr (a_ (cT ab hr (a_ (cX (pv 1) cI) (a_ (dI (pv 0) rfl) cG))) cG))))),?_⟩
 ac_rfl
 refine⟨_,rfl,_,rfl,a,c.tk,dx,_,_,rfl,ha,CT.ct,na,rfl,kv,k,p,ss,rfl,hk,cM.of hp,ah,λH1 s1=>?_⟩;have ai:lI ss k=true:=by unfold lI;rw[e];exact ho
 refine⟨congrArg (λb=>[V.bl b]) ai,?_⟩;obtain⟨kk,t,xs,rfl,h1,h2,h3⟩:=(hk.mono (Tu.of s1)).ig e;refine⟨_,rfl,kk,_,_,_,rfl,rfl,cJ.of h1,rfl,_,rfl,a,c.tk,dx,_,_,rfl,s1 _ _ ha,CT.ct,na,rfl,t,p,xs,l,ss,rfl,cJ.of h2,h3,by omega,cM.of (s1 _ _ hp),λr ys H2 s2 ar hr hF=>?_⟩;have ag:=s1.trans s2;exact uV (E:=E0) hr hF (hn.sublist ((fN ss l).map _)) (Q0b (fN ss l).length_le (by omega)) (hT.same ag) λr' H3 kp aj ak=>q _ H3 ((Kp.of ag).trans kp) aj ak
theorem Iz (T:Tb mg)(CT:CF K c.aT ["name"])(Z:cW es K mg)(aa:Ok P w K mg base cH "field_kind" XY (2) (lH K))(ab:Ok P w K mg base cH "ask_stands" ["stands"] (1) (mJ)):Om P w K mg base cH c.aT "behind" XH (11) (gj c Pt (λw _=>∃f,w=.aT f)):=by
 refine Z.om (k:=10) ["self","kind","there"] (dU 44 1) λvs H Q E h=>?_;obtain⟨v,kv,w,k,k',rfl,⟨f,rfl⟩,hV,⟨hk,hO,hT⟩,hb,q⟩:=h;refine⟨rfl,λql _ ae A outer s _ nd hr hu=>?_⟩;unfold VA at hV;obtain⟨a,dx,rfl,ha⟩:=hV;have na:=CT.na "name" (by simp);obtain⟨l,e1,e2⟩:=lF hb;have e:(du k).bind (λl=>cZ l f)=some k':=by rw[e1];exact e2
 refine⟨_,(cK (c_ 2 nd (cT aa hr (a_ (pv 1) (a_ (dI (pv 0) rfl) cG))))
  (cK (ft (cT ab hr (a_ (fX jj (pv 2) fF (c9 _)) cG)))
  (cO (cS (pv 2))))),?_⟩
 ac_rfl
 refine⟨_,rfl,_,rfl,a,c.aT,dx,_,_,rfl,ha,CT.ct,na,rfl,kv,k,f,rfl,hk,λk2 u e' hu=>?_,λe'=>by rw[e] at e';cases e'⟩;rw[e] at e'
 cases e';exact⟨_,rfl,rfl,BF hu.nn,_,rfl,q u H (Kp.refl _ _) hT hu⟩
theorem IA (T:Tb mg)(CT:CF K c.rn X5)(Z:cW es K mg)(aa:Ok P w K mg base cH "field_kind" XY (2) (lH K))(ag:Ok P w K mg base cH "kind_at" Xh (1) (rm K))(ab:Ok P w K mg base cH "ask_stands" ["stands"] (1) (mJ))(ae:Ok P w K mg base cH "fields_but" XJ (1) (pN K))(af:Ok P w K mg base cH "record_of" ["pairs"] (9) (kQ K Pt)):Om P w K mg base cH c.rn "behind" XH (11) (gj c Pt (λw k=>∃o n,w=.rn o n/\k.sz<=55)):=by
 refine Z.om (k:=10) ["self","kind","inner"] (dU 40 1) λvs H Q E h=>?_;obtain⟨v,kv,w,k,k',rfl,⟨o,n,rfl,hsz⟩,hV,⟨hk,hO,hT⟩,hb,q⟩:=h;refine⟨rfl,λql f aq A outer s _ nd hr hu=>?_⟩;unfold VA at hV;obtain⟨a,dx,rfl,ha⟩:=hV;have na:=CT.na "old" (by simp);have nb:=CT.na "new" (by simp);obtain⟨l,q0,e1,e2,ai,rfl⟩:=kK hb;have e:(du k).bind (λl=>cZ l o)=some q0:=by rw[e1];exact e2
 obtain⟨hn,ao⟩:=fV e1 hO hsz
 refine⟨_,(cK (c_ 2 nd (cT aa hr (a_ (pv 1) (a_ (dI (pv 0) rfl) cG))))
  (cK (ft (cT ab hr (a_ (jE (fX jj (pv 2) fF (c9 _)) (j4 (fX sN (cT ag hr (a_ (cX (pv 1) cI) (a_ (dI (pv 0) rfl) cG))) fF (c9 _)))) cG)))
  (cO (cS (cT af hr (a_ (cU oR (cT ae hr (a_ (cX (pv 1) cI) (a_ (eR (a_ (dI (pv 0) rfl) cG)) cG))) (eR (a_ (gc (a_ (dI (pv 0) rfl) (a_ (pv 2) cG))) cG))) cG)))))),?_⟩
 ac_rfl
 refine⟨_,rfl,_,rfl,a,c.rn,dx,_,_,rfl,ha,CT.ct,na,rfl,kv,k,o,rfl,hk,λk2 u e' hu=>?_,λe'=>by rw[e] at e';cases e'⟩;rw[e] at e'
 cases e';refine⟨_,rfl,rfl,_,rfl,?_⟩;rw[if_pos (vh hu.nn)];obtain⟨kk,t,xs,rfl,h1,h2,h3⟩:=hk.ig e1;refine⟨_,rfl,kk,_,_,_,rfl,rfl,cJ.of h1,rfl,_,rfl,a,c.rn,dx,_,_,rfl,ha,CT.ct,nb,rfl,.inl ⟨t,n,xs,l,rfl,cJ.of h2,h3,λk2 u2 e3 ar=>absurd (dS e3) ai,λe3=>⟨rfl,rfl,?_⟩⟩⟩;refine⟨_,rfl,kk,_,_,_,rfl,rfl,cJ.of h1,rfl,_,rfl,a,c.rn,dx,_,_,rfl,ha,CT.ct,na,rfl,gw,λq1 n1=>?_⟩;have s1:=Same.new (o:=.lst [.str o]) n1;refine⟨t,q1,xs,l,[o],rfl,cJ.of (s1 _ _ h2),h3.mono (Tu.of s1),by omega,cM.of cV,λr ys H2 s2 _ hr hF=>?_⟩;have ah:=s1.trans s2;exact⟨_,rfl,a,c.rn,dx,_,_,rfl,ah _ _ ha,CT.ct,nb,rfl,_,rfl,vj hr hF (hu.mono (Tu.of ah)) (hn.sublist ((eF [o] l).map _)) (λz=>ai (f7.mp z).1) (Q0b (eF [o] l).length_le (by omega)) (hT.same ah) λr' H3 kp aj ak=>q _ H3 ((Kp.of ah).trans kp) aj ak⟩
theorem IB (T:Tb mg)(CT:CF K c.ne Xs)(Z:cW es K mg)(ae:Ok P w K mg base cH "has_each_once" Xr (3) (uY K))(ah:Ok P w K mg base cH "kind_at" Xh (1) (rm K))(aa:Ok P w K mg base cH "ask_stands" ["stands"] (1) (mJ))(af:Ok P w K mg base cH "fields_among" XJ (1) (uW K))(ag:Ok P w K mg base cH "fields_but" XJ (1) (pN K))(ab:Ok P w K mg base cH "record_of" ["pairs"] (9) (kQ K Pt)):Om P w K mg base cH c.ne "behind" XH (11) (gj c Pt (λw k=>∃ss y,w=.ne ss y/\k.sz<=55)):=by
 refine Z.om (k:=10) ["self","kind","rest"] (dU 41 1) λvs H Q E h=>?_;obtain⟨v,kv,w,k,k',rfl,⟨ss,y,rfl,hsz⟩,hV,⟨hk,hO,hT⟩,hb,q⟩:=h;refine⟨rfl,λql f aB A outer s _ nd hr hu=>?_⟩;unfold VA at hV;obtain⟨a,dx,p,rfl,ha,hp,ao⟩:=hV;have na:=CT.na "names" (by simp);have nb:=CT.na "into" (by simp);obtain⟨l,e,ho,ak,rfl⟩:=kL hb;obtain⟨hn,aA⟩:=fV e hO hsz
 refine⟨_,(cK (ft (cT aa hr (a_ (cT ae hr (a_ (pv 1) (a_ (dI (pv 0) rfl) cG))) cG)))
  (cK (c_ 2 nd (cT ag hr (a_ (cX (pv 1) cI) (a_ (dI (pv 0) rfl) cG))))
  (cK (ft (cT aa hr (a_ (fX sN (cT ah hr (a_ (pv 2) (a_ (dI (pv 0) rfl) cG))) fF (c9 _)) cG)))
  (cO (cS (cT ab hr (a_ (cU oR (pv 2) (eR (a_ (gc (a_ (dI (pv 0) rfl) (a_ (cT ab hr (a_ (cT af hr (a_ (cX (pv 1) cI) (a_ (dI (pv 0) rfl) cG))) cG)) cG))) cG))) cG))))))),?_⟩
 ac_rfl
 refine⟨_,rfl,_,rfl,a,c.ne,dx,_,_,rfl,ha,CT.ct,na,rfl,kv,k,p,ss,rfl,hk,cM.of hp,ao,λH1 s1=>?_⟩;have aq:lI ss k=true:=by unfold lI;rw[e];exact ho
 refine⟨congrArg (λb=>[V.bl b]) aq,?_⟩;obtain⟨kk,t,xs,rfl,h1,h2,h3⟩:=(hk.mono (Tu.of s1)).ig e;refine⟨_,rfl,kk,_,_,_,rfl,rfl,cJ.of h1,rfl,_,rfl,a,c.ne,dx,_,_,rfl,s1 _ _ ha,CT.ct,na,rfl,t,p,xs,l,ss,rfl,cJ.of h2,h3,by omega,cM.of (s1 _ _ hp),λr ys H2 s2 aC hr hF=>?_⟩;have ai:=s1.trans s2;refine⟨_,rfl,_,rfl,a,c.ne,dx,_,_,rfl,ai _ _ ha,CT.ct,nb,rfl,.inr ⟨r,y,ys,bt ss l,rfl,cM.of hr,hF,λk2 u2 e3 aD=>absurd (dS e3) ak,λe3=>⟨rfl,rfl,?_⟩⟩⟩;refine⟨_,rfl,_,rfl,a,c.ne,dx,_,_,rfl,ai _ _ ha,CT.ct,nb,rfl,_,rfl,kk,_,_,_,rfl,rfl,cJ.of (s2 _ _ h1),rfl,_,rfl,a,c.ne,dx,_,_,rfl,ai _ _ ha,CT.ct,na,rfl,t,p,xs,l,ss,rfl,cJ.of (s2 _ _ h2),h3.mono (Tu.of s2),by omega,cM.of (ai _ _ hp),λr2 zs H3 s3 _ ar au=>?_⟩;have aj:=ai.trans s3;dsimp only[gU,List.cons_append,List.nil_append];refine uV (E:=E0) ar au (hn.sublist ((fN ss l).map _)) (Q0b (fN ss l).length_le (by omega)) (hT.same aj) λru H4 kp av hu=>?_;obtain⟨ps,hP⟩:=(hT.same aj).tab;have aw:=kp r _ (eK (s3 _ _ hr) hP (by intro z;cases z)) (s3 _ _ hr);exact vj aw ((hF.mono (Tu.of s3)).mono (kp.tu (hT.same aj))) hu (hn.sublist ((eF ss l).map _)) ak (Q0b (eF ss l).length_le (by omega)) av λr' H5 ax ay az=>q _ H5 (((Kp.of aj).trans kp).trans ax) ay az
theorem IC (T:Tb mg)(CT:CF K c.un ["field"])(Z:cW es K mg)(ae:Ok P w K mg base cH "field_kind" XY (2) (lH K))(ah:Ok P w K mg base cH "names_of" ["fields"] (1) (uX K))(aa:Ok P w K mg base cH "ask_stands" ["stands"] (1) (mJ))(ab:Ok P w K mg base cH "fields_among" XJ (1) (Ao K))(af:Ok P w K mg base cH "fields_but" XJ (1) (pN K))(ag:Ok P w K mg base cH "record_of" ["pairs"] (9) (kQ K Pt)):Om P w K mg base cH c.un "behind" XH (11) (gj c Pt (λw k=>∃f,w=.un f/\k.sz<=55)):=by
 refine Z.om (k:=10) ["self","kind","inner","rest"] (dU 42 1) λvs H Q E h=>?_;obtain⟨v,kv,w,k,k',rfl,⟨f,rfl,hsz⟩,hV,⟨hk,hO,hT⟩,hb,q⟩:=h;refine⟨rfl,λql _ ay A outer s _ nd hr hu=>?_⟩;unfold VA at hV;obtain⟨a,dx,rfl,ha⟩:=hV;have na:=CT.na "field" (by simp);obtain⟨l,q0,g,e1,e2,e4,hd,rfl⟩:=kM hb;have e:(du k).bind (λl=>cZ l f)=some q0:=by rw[e1];exact e2
 obtain⟨hn,ax⟩:=fV e1 hO hsz
 refine⟨_,(cK (c_ 2 nd (cT ae hr (a_ (pv 1) (a_ (dI (pv 0) rfl) cG))))
  (cK (ft (cT aa hr (a_ (jE (fX jj (pv 2) fF (c9 _)) (j4 (fX dO (cX (pv 2) cI) d0 (c9 _)))) cG)))
  (cK (c_ 3 nd (cT af hr (a_ (cX (pv 1) cI) (a_ (eR (a_ (dI (pv 0) rfl) cG)) cG))))
  (cK (ft (cT aa hr (a_ (fX dO (dG fC (by rfl) T.eT PySem.boot_len (a_ (cT ab hr (a_ (pv 3) (a_ (cT ah hr (a_ (cX (pv 2) cI) cG)) cG))) cG)) cI (c9 _)) cG)))
  (cO (cS (cT ag hr (a_ (cU oR (pv 3) (jG qH (by rfl) T.lA boot_list (a_ (cX (pv 2) cI) cG))) cG)))))))),?_⟩
 ac_rfl
 refine⟨_,rfl,_,rfl,a,c.un,dx,_,_,rfl,ha,CT.ct,na,rfl,kv,k,f,rfl,hk,λk2 u e' hu=>?_,λe'=>by rw[e] at e';cases e'⟩;rw[e] at e'
 cases e';refine⟨_,rfl,rfl,_,rfl,?_⟩;rw[if_pos (vh hu.nn)];obtain⟨c',t',zs,rfl,h4,h5,h6⟩:=hu.ig e4;obtain⟨ho,az,_⟩:=dD e1 hO;obtain⟨g1,g2,_⟩:=dD e4 (ho.get e2)
 have gl:(bt [f] l).length+g.length<=55:=by
  have a1:dh dA (bt [f] l)+q0.sz<=dh dA l:=gy (f:=dA) e2;have:=jt g;have:=jt (bt [f] l);omega
 obtain⟨kk,t,xs,rfl,h1,h2,h3⟩:=hk.ig e1;refine⟨_,rfl,c',_,_,_,rfl,rfl,cJ.of h4,fe (j:=0) rfl,rfl,rfl,?_⟩;refine⟨_,rfl,kk,_,_,_,rfl,rfl,cJ.of h1,rfl,_,rfl,a,c.un,dx,_,_,rfl,ha,CT.ct,na,rfl,gw,λq1 n1=>?_⟩;have s1:=Same.new (o:=.lst [.str f]) n1;refine⟨t,q1,xs,l,[f],rfl,cJ.of (s1 _ _ h2),h3.mono (Tu.of s1),by omega,cM.of cV,λr ys H2 s2 _ hr hF=>?_⟩;have ai:=s1.trans s2;refine⟨_,rfl,_,rfl,c',_,_,_,rfl,rfl,cJ.of (ai _ _ h4),rfl,t',zs,g,rfl,cJ.of (ai _ _ h5),h6.mono (Tu.of ai),by omega,λr3 H3 s3 _ ao=>?_⟩;have aq:=ai.trans s3;refine⟨r,r3,ys,_,_,rfl,cM.of (s3 _ _ hr),hF.mono (Tu.of s3),by omega,cM.of ao,λr4 ws H4 s4 _ ar au=>?_⟩;have aj:=aq.trans s4
 have hz:ws=[]:=by
  have:(dW (cR g) (bt [f] l))=[]:=by
   cases ez:dW (cR g) (bt [f] l) with
   |nil=>rfl
   |cons p r=>
    have:=lE.mp (show p.1∈cR (dW (cR g) (bt [f] l)) by rw[ez];exact Q04);exact absurd this.1 (hd _ this.2)
  have hl:=au.len;rw[this] at hl;exact Q3d hl
 subst hz;refine⟨r4,[],rfl,.inl (cM.of ar),rfl,rfl,?_⟩;refine⟨_,rfl,_,rfl,c',_,_,_,rfl,rfl,cJ.of (aj _ _ h4),rfl,t',zs,rfl,.inr (cJ.of (aj _ _ h5)),λr5 n5=>?_⟩;have s5:=Same.new (o:=.lst zs) n5;have ak:=aj.trans s5;exact BE (s5 _ _ (s4 _ _ (s3 _ _ hr))) cV (((hF.mono (Tu.of s3)).mono (Tu.of s4)).mono (Tu.of s5)) (h6.mono (Tu.of ak)) (mP (eB (eF [f] l) hn) g1.1 hd) (by omega) (hT.same ak) λr' H6 kp av aw=>q _ H6 ((Kp.of ak).trans kp) av aw
end Pb
namespace Pb
open L2
noncomputable def Vs.dr:Nat->Vs->Vs
 |0,v=>v
 |_+1,.nil=>.nil
 |n+1,.cons _ r=>Vs.dr n r
noncomputable def Vs.len:Vs->Nat
 | .nil=>0
 | .cons _ r=>r.len+1
noncomputable def eW:Vs->Nat->Kd->Kd
 | .cons v r,j+1,k=>eW r j (i_ v k)
 |_,_,k=>k
noncomputable def gC:Vs->Nat->D->D
 | .cons v r,j+1,d=>gC r j (dN v d)
 |_,_,d=>d
noncomputable def gq (ws:Vs) (k:Kd) (d s:D) (j:Nat):D:=gz (ws.dr j) (eW ws j k) (gC ws j d) s
theorem pX (ws:Vs)(k:Kd):eW ws 0 k=k:=by cases ws <;> rfl
theorem rJ (ws:Vs)(d:D):gC ws 0 d=d:=by cases ws <;> rfl
theorem BG (ws:Vs):ws.dr 0=ws:=by cases ws <;> rfl
theorem BH:∀ws:Vs,ws.dr ws.len=.nil
 | .nil=>rfl
 | .cons _ r=>BH r
theorem BJ:∀(ws:Vs) (i:Nat) (k k':Kd),fh ws i k=.inr k'->eW ws ws.len k=k'
 | .nil,i,k,k',h=>by unfold fh at h;cases h;rfl
 | .cons v r,i,k,k',h=>by
   obtain⟨k1,e1,h⟩:=i7 h;show eW r r.len (i_ v k)=k';rw[ja e1];exact BJ r _ k1 k' h
theorem BK:∀(ws:Vs) (d:D),gC ws ws.len d=iz ws d
 | .nil,d=>by unfold iz;rfl
 | .cons v r,d=>by unfold iz;exact BK r (dN v d)
theorem vn:∀(ws:Vs) (i:Nat) (k k':Kd) (d:D) (j:Nat) (v:Vw) (r:Vs),fh ws i k=.inr k'->k.O->dm k d->ws.dr j=.cons v r->dm (eW ws j k) (gC ws j d)/\gC ws (j+1) d=dN v (gC ws j d)
 | .nil,i,k,k',d,j,v,r,h,hO,hF,e=>by cases j <;> cases e
 | .cons w q,i,k,k',d,0,v,r,h,hO,hF,e=>by
   cases e;exact⟨hF,rJ q (dN w d)⟩
 | .cons w q,i,k,k',d,j+1,v,r,h,hO,hF,e=>by
   obtain⟨k1,e1,h⟩:=i7 h;have ih:=vn q (i+1) k1 k' (dN w d) j v r h (gK w k k1 hO e1).1 (gY w k k1 d hO e1 hF) e;refine⟨?_,ih.2⟩;show dm (eW q j (i_ w k)) _;rw[ja e1];exact ih.1
structure ID (ws:Vs) (k:Kd) (j:Nat) (v:Vw):Prop where
 bh:bh v (eW ws j k)=.inr (eW ws (j+1) k)
 o:(eW ws j k).O
 sz:(eW ws j k).sz+v.nn<=k.sz+ws.nn
 dp:v.dp<=ws.dp
theorem rK:∀(ws:Vs) (i:Nat) (k k':Kd) (j:Nat) (v:Vw) (r:Vs),fh ws i k=.inr k'->k.O->ws.dr j=.cons v r->ID ws k j v
 | .nil,i,k,k',j,v,r,h,hO,e=>by cases j <;> cases e
 | .cons w q,i,k,k',0,v,r,h,hO,e=>by
   cases e;obtain⟨k1,e1,h⟩:=i7 h;refine⟨?_,hO,?_,?_⟩
   . show bh w k=.inr (eW q 0 (i_ w k));rw[pX,ja e1];exact e1
   . show k.sz+w.nn<=k.sz+(Vs.cons w q).nn;unfold Vs.nn;omega
   . unfold Vs.dp;omega
 | .cons w q,i,k,k',j+1,v,r,h,hO,e=>by
   obtain⟨k1,e1,h⟩:=i7 h;obtain⟨aa,ab,_⟩:=gK w k k1 hO e1;have ih:=rK q (i+1) k1 k' j v r h aa e;have ek:∀j,eW (.cons w q) (j+1) k=eW q j k1:=λj=>by show eW q j (i_ w k)=_;rw[ja e1]
   refine⟨?_,?_,?_,?_⟩
   . rw[ek,ek];exact ih.bh
   . rw[ek];exact ih.o
   . rw[ek];have:=ih.sz;unfold Vs.nn;omega
   . have:=ih.dp;unfold Vs.dp;omega
theorem BL:∀(ws:Vs) (i:Nat) (k k':Kd) (d s:D) (N j:Nat) (v:Vw) (r:Vs),fh ws i k=.inr k'->k.O->k.sz+ws.nn<=60->dm k d->dm k' s->DS N d->DS N s->ws.dr j=.cons v r->dm (eW ws (j+1) k) (gq ws k d s (j+1))/\(∃M,DS M (gC ws j d)/\DS M (gq ws k d s (j+1))/\M+v.pp<=N+ws.pp)/\gq ws k d s j=dE v (eW ws j k) (gC ws j d) (gq ws k d s (j+1))
 | .nil,i,k,k',d,s,N,j,v,r,h,hO,hz,hF,hS,hD,hE,e=>by cases j <;> cases e
 | .cons w q,i,k,k',d,s,N,0,v,r,h,hO,hz,hF,hS,hD,hE,e=>by
   cases e;obtain⟨k1,e1,h⟩:=i7 h;obtain⟨aa,ae,_⟩:=gK w k k1 hO e1;unfold Vs.nn at hz;have ab:=gY w k k1 d hO e1 hF
   have ed:gq (.cons w q) k d s (0+1)=gz q k1 (dN w d) s:=by
    show gz (q.dr 0) (eW q 0 (i_ w k)) (gC q 0 (dN w d)) s=_;rw[BG,pX,rJ,ja e1]
   rw[ed];refine⟨?_,⟨N+w.nn+q.pp,hD.mono (by omega),(vg q _ k1 k' _ s (N+w.nn) aa h (by omega) ab hS (n_ w k k1 d N hO e1 (by omega) hF hD) (hE.mono (by omega))),?_⟩,?_⟩
   . show dm (eW q 0 (i_ w k)) _;rw[pX,ja e1];exact pV q _ k1 k' _ s aa h ab hS
   . show _<=N+(Vs.cons w q).pp
     conv=>rhs;unfold Vs.pp
     omega
   . show gz (.cons w q) k d s=_
     conv=>lhs;unfold gz
     rw[ja e1];rfl
 | .cons w q,i,k,k',d,s,N,j+1,v,r,h,hO,hz,hF,hS,hD,hE,e=>by
   obtain⟨k1,e1,h⟩:=i7 h;obtain⟨aa,ae,_⟩:=gK w k k1 hO e1;unfold Vs.nn at hz;have ih:=BL q (i+1) k1 k' (dN w d) s (N+w.nn) j v r h aa (by omega) (gY w k k1 d hO e1 hF) hS (n_ w k k1 d N hO e1 (by omega) hF hD) (hE.mono (by omega)) e;have ek:∀j,eW (.cons w q) (j+1) k=eW q j k1:=λj=>by show eW q j (i_ w k)=_;rw[ja e1]
   have ep:∀j,gq (.cons w q) k d s (j+1)=gq q k1 (dN w d) s j:=λj=>by
    show gz (q.dr j) (eW q j (i_ w k)) (gC q j (dN w d)) s=_;rw[ja e1];rfl
   obtain⟨h1,⟨M,m1,m2,m3⟩,h3⟩:=ih;refine⟨?_,⟨M,m1,?_,?_⟩,?_⟩
   . rw[ek,ep];exact h1
   . rw[ep];exact m2
   . conv=>rhs;unfold Vs.pp
     omega
   . rw[ep,ep,ek];exact h3
theorem IE:gq ws k d s ws.len=s:=by
 unfold gq;rw[BH];unfold gz;rfl
theorem IF:gq ws k d s 0=gz ws k d s:=by
 unfold gq;rw[BG,pX,rJ]
theorem dM.len:∀{us:List V}{vs:Vs},dM c H us vs->us.length=vs.len
 |us,.nil,h=>by unfold dM at h;rw[h];rfl
 |us,.cons v r,h=>by
  unfold dM at h;obtain⟨u,ur,rfl,_,h2⟩:=h;show ur.length+1=r.len+1;rw[dM.len h2]
theorem dM.at:∀{us:List V}{vs:Vs}{j:Nat}{u:V},dM c H us vs->us[j]? =some u->∃v r,vs.dr j=.cons v r/\VA c H u v
 |us,.nil,j,u,h,e=>by unfold dM at h;rw[h] at e;simp at e
 |us,.cons v r,0,u,h,e=>by
  unfold dM at h;obtain⟨u',ur,rfl,h1,_⟩:=h
  cases e;exact⟨v,r,rfl,h1⟩
 |us,.cons v r,j+1,u,h,e=>by
  unfold dM at h;obtain⟨u',ur,rfl,_,h2⟩:=h;exact dM.at h2 (j:=j) e
end Pb
namespace Pb
open L2 PyProof.Rows
structure rL (K:W.Frag) (mg:Str->Option Value) (x:Str) (C:Addr):Prop where
 m:mg x=some (.ref C)
 ty:W.typeIn K (.ref C)=some (.type "type")
 is:(W.clsIn K C).isSome=true
 bx:W.subIn K (.ref C) (.type "BaseException")=some true
inductive BN (c:CA) (Pt:Addr) (d:Nat) (vs:List V) (H:Hp) (Q:V->Hp->Prop):Prop
 |mk (p:_) (v:_) (kv:_) (w:_) (k:_) (k':_) (h0:vs=[p,v,kv]) (h1:WD d w k) (h2:VA c H v w) (h3:KG Pt H kv k) (h4:bh w k=.inr k') (h5:∀u H',fj Pt H H'->dc Pt d_ eh H'->KA H' u k'->Q u H'):BN c Pt d vs H Q
def vo (c:CA) (Pt:Addr) (d:Nat):Sp:=λvs H Q _=>BN c Pt d vs H Q
def og (H:Hp) (ws:Vs) (k:Kd) (us:List V) (i:Nat):Prop:=us.length=i+1/\∀(j:Nat) u,us[j]? =some u->KA H u (eW ws j k)
theorem og.mono(h:og H ws k us i)(t:Tu H H'):og H' ws k us i:=⟨h.1,λj u e=>(h.2 j u e).mono t⟩
theorem jz {α:Type}{l:List α}(h:i<l.length):∃x,l[i]? =some x:=⟨l[i],Q03 h⟩
theorem BO {α:Type}{l:List α}{x y:α}(hl:l.length=i)(h:(l++[x])[j]? =some y):(j<i/\l[j]? =some y)\/(j=i/\y=x):=by
 by_cases c:j<i
 . rw[Q2a (by omega)] at h;exact .inl ⟨c,h⟩
 . have hj:j=i:=by
    have:=(List.getElem?_eq_some_iff.mp h).1;rw[Q0d,hl,Q1l] at this;omega
   subst hj;rw[<-hl,Q1w (Q0 _),Nat.sub_self] at h
   cases h;exact .inr ⟨rfl,rfl⟩
inductive BP (c:CA) (Pt:Addr) (d:Nat) (vs:List V) (H:Hp) (Q:V->Hp->Prop):Prop
 |mk (v:_) (kv:_) (ws:_) (k:_) (k':_) (h0:vs=[v,kv]) (h1:WD (d+1) (.ch ws) k) (h2:VA c H v (.ch ws)) (h3:KG Pt H kv k) (h4:fh ws 0 k=.inr k') (h5:∀r us H',fj Pt H H'->dc Pt d_ eh H'->H r=none->H' r=some (.lst us)->og H' ws k us ws.len->Q (.ref r) H'):BP c Pt d vs H Q
def pY (c:CA) (Pt:Addr) (d:Nat):Sp:=λvs H Q _=>BP c Pt d vs H Q
variable {P:Program}{w:World}{K:W.Frag}{mg:Str->Option Value}{base:Heap}
theorem IG(B:MA P w K mg base c "behind" mL (gj c Pt) n d)(XC:rL K mg "NoView" ab)(Z:cW es K mg):Ok P w K mg base cH "behind_inner" YG (n+1) (vo c Pt d):=by
 refine Z.ok (k:=n) ["ahead","inner","kind","e"] (top 22) λvs H Q E h=>?_;obtain⟨p,v,kv,w,k,k',rfl,hW,hV,hK,hb,q⟩:=h;refine⟨rfl,λql f ae A outer s _ nd hr hu=>?_⟩;obtain⟨W,G,aa⟩:=B w k hW;obtain⟨a,dx,fs,rfl,ha,h1,h2,h3,h4,h5⟩:=hV.cls;refine⟨_,(cO (z_ (Ek:=λ_ _ _=>False) (i:=3) rfl rfl (z9 (Aa (iJ (m:="behind") (ps:=mL) (sp:=(gj c Pt)) (n:=n) (pv 1) (hr.mono (by omega)) (a_ (pv 2) cG)))) rfl XC.m XC.ty XC.is XC.bx (λ_ _ _ z=>z.elim) nd rfl rfl (λa=>sx))),?_⟩
 ac_rfl
 refine⟨?_,λa C' dd H' na hE=>hE.elim⟩;exact⟨W,_,G,_,rfl,a,dx,fs,rfl,ha,h1,_,rfl,_,kv,w,k,k',rfl,aa,hV,hK,hb,q⟩
theorem IH(h9:9<=n)(T:Tb mg)(CT:CF K c.wi Xi)(Z:cW es K mg)(ab:Ok P w K mg base cH "field_kind" XY (2) (lH K))(ae:Ok P w K mg base cH "ask_stands" ["stands"] (1) (mJ))(aa:Ok P w K mg base cH "behind_inner" YG (n+1) (vo c Pt d))(af:Ok P w K mg base cH "fields_but" XJ (1) (pN K))(ag:Ok P w K mg base cH "record_of" ["pairs"] (9) (kQ K Pt)):Om P w K mg base cH c.wi "behind" XH (n+2) (gj c Pt (λw k=>∃f v,w=.wi f v/\WD (d+1) w k)):=by
 refine Z.om (k:=n+1) ["self","kind","there","shown"] (dU 43 1) λvs H Q E h=>?_;obtain⟨v,kv,w,k,k',rfl,⟨f,iv,rfl,hW⟩,hV,⟨hk,hO,hT⟩,hb,q⟩:=h;refine⟨rfl,λql _ aw A outer s _ nd hr hu=>?_⟩;unfold VA at hV;obtain⟨a,dx,vi,rfl,ha,aj⟩:=hV;have na:=CT.na "field" (by simp);have nb:=CT.na "inner" (by simp);obtain⟨l,q0,s0,e1,e2,es,rfl⟩:=kN hb;have e:(du k).bind (λl=>cZ l f)=some q0:=by rw[e1];exact e2
 obtain⟨hn,av⟩:=fV e1 hO hW.sz;have ho:=(dD e1 hO).1
 refine⟨_,(cK (c_ 2 nd (cT ab hr (a_ (pv 1) (a_ (dI (pv 0) rfl) cG))))
  (cK (ft (cT ae hr (a_ (fX jj (pv 2) fF (c9 _)) cG)))
  (cK (c_ 3 nd (cT aa hr (a_ (eR (a_ (dI (pv 0) rfl) cG)) (a_ (dI (pv 0) rfl) (a_ (pv 2) cG)))))
  (cO (cS (cT ag hr (a_ (cU oR (cT af hr (a_ (cX (pv 1) cI) (a_ (eR (a_ (dI (pv 0) rfl) cG)) cG))) (eR (a_ (gc (a_ (dI (pv 0) rfl) (a_ (pv 3) cG))) cG))) cG))))))),?_⟩
 ac_rfl
 refine⟨_,rfl,_,rfl,a,c.wi,dx,_,_,rfl,ha,CT.ct,na,rfl,kv,k,f,rfl,hk,λk2 u e' hu=>?_,λe'=>by rw[e] at e';cases e'⟩;rw[e] at e'
 cases e';refine⟨_,rfl,rfl,BF hu.nn,?_⟩;refine⟨_,rfl,a,c.wi,dx,_,_,rfl,ha,CT.ct,na,rfl,gw,λq1 n1=>?_⟩;have s1:=Same.new (o:=.lst [.str f]) n1;refine⟨_,rfl,a,c.wi,dx,_,_,rfl,s1 _ _ ha,CT.ct,nb,rfl,_,rfl,.ref q1,vi,u,iv,q0,s0,rfl,hW.wi hO e1 e2,VA.mono (.of s1) iv aj,⟨hu.mono (Tu.of s1),ho.get e2,hT.same s1⟩,es,λu2 H2 kp ak ao=>?_⟩;have tu:=Tu.of s1;have vk:=VK.kp kp (hT.same s1);obtain⟨kk,t,xs,rfl,h1,h2,h3⟩:=((hk.mono tu).mono vk.tu).ig e1;have ai:=vk.ins (s1 _ _ ha);refine⟨_,rfl,kk,_,_,_,rfl,rfl,cJ.of h1,rfl,_,rfl,a,c.wi,dx,_,_,rfl,ai,CT.ct,na,rfl,gw,λq2 n2=>?_⟩;have s2:=Same.new (o:=.lst [.str f]) n2;refine⟨t,q2,xs,l,[f],rfl,cJ.of (s2 _ _ h2),h3.mono (Tu.of s2),by omega,cM.of cV,λr ys H3 s3 _ hr hF=>?_⟩;have ah:=s2.trans s3;exact⟨_,rfl,a,c.wi,dx,_,_,rfl,ah _ _ ai,CT.ct,na,rfl,_,rfl,vj hr hF (ao.mono (Tu.of ah)) (hn.sublist ((eF [f] l).map _)) kP (Q0b (eF [f] l).length_le (by omega)) (ak.same ah) λr' H4 aq ar au=>q _ H4 (((Kp.of s1).trans kp).trans ((Kp.of ah).trans aq)) ar au⟩
theorem II(T:Tb mg)(CT:CF K c.ch ["steps"])(Z:cW es K mg)(ab:Ok P w K mg base cH "behind_inner" YG (n+1) (vo c Pt d)):Om P w K mg base cH c.ch "kinds_row" XH (n+2) (pY c Pt d):=by
 refine Z.om (k:=n+1) ["self","kind","kinds","number","step"] (dU 26 6) λvs H Q E h=>?_;obtain⟨v,kv,ws,k,k',rfl,⟨ar,hz⟩,hV,⟨hk,hO,hT⟩,hb,q⟩:=h;refine⟨rfl,λql f az A outer s _ nd hr hu=>?_⟩;unfold VA at hV;obtain⟨a,dx,p,us,rfl,ha,hp,aA,ao⟩:=hV;have na:=CT.na "steps" (by simp);unfold Vw.dp at ar;unfold Vw.nn at hz;have au:=ao.len
 refine⟨_,(cK (c_ 2 nd (eR (a_ (pv 1) cG)))
  (cK (fR PassesOwn.never rfl (qN rfl T.qZ (a_ (dI (pv 0) rfl) cG)) (hZ rfl (eY (dy (i:=3) nd rfl d9) (eY (dy (i:=4) nd rfl d9) hX))) (cO (ft (jI PySem.F.plainAttrs_list PySem.F.slot_list_append PySem.F.type_list_append mj (pv 2) (a_ (cT ab hr (a_ (eR (a_ (pv 3) cG)) (a_ (pv 4) (a_ (fE (pv 2) (pv 3)) cG)))) cG)))))
  (cO (cS (pv 2))))),?_⟩
 ac_rfl
 refine⟨_,rfl,gw,λq1 n1=>?_⟩;have s1:=Same.new (o:=.lst [kv]) n1;refine⟨_,rfl,a,c.ch,dx,_,_,rfl,s1 _ _ ha,CT.ct,na,rfl,p,rfl,⟨_,cM.of (s1 _ _ hp)⟩,rq (xs:=us) (λi σ H'=>∃x y aa,σ=[some (.ref a),some kv,some (.ref q1),x,y]/\fj Pt H H'/\dc Pt d_ eh H'/\H' p=some (.lst us)/\q1≠p/\H' q1=some (.lst aa)/\og H' ws k aa i) ?_ ?_ ?_ ?_⟩
 . exact⟨_,_,[kv],rfl,Kp.of s1,hT.same s1,s1 _ _ hp,(c6 hp n1).symm,cV,rfl,λj u e=>by
    cases j with
    |zero=>cases e;rw[pX];exact hk.mono (Tu.of s1)
    |succ j=>cases e⟩
 . intro i σ H' _ zq;obtain⟨x,z,aa,rfl,kp,af,ag,_⟩:=zq;exact cM.of ag
 . rintro i y σ H' t hy ⟨x,z,aa,rfl,kp,af,ag,aj,hq,hl,ah⟩ ht;have st:=Same.new (o:=.tup [.int i,y]) ht;obtain⟨v,r,e1,hv⟩:=dM.at ao hy;have kj:=rK ws 0 k k' i v r hb hO e1;have hi:i<us.length:=(List.getElem?_eq_some_iff.mp hy).1;have av:=VA.mono ((VK.kp kp hT).trans (VK.of st)) v hv;obtain⟨u,hu⟩:=jz (l:=aa) (i:=i) (by omega);refine⟨t,_,rfl,cJ.of cV,rfl,_,_,rfl,_,_,rfl,rfl,?_⟩;refine⟨_,rfl,.inl ⟨rfl,_,cM.of (st _ _ hq)⟩,_,rfl,gw,λq3 n3=>?_⟩;have s3:=Same.new (o:=.lst [.int i]) n3;have ae:=st.trans s3;refine⟨_,rfl,_,rfl,_,rfl,q1,aa,i,u,rfl,rfl,cM.of (ae _ _ hq),fe hu,.ref q3,y,u,v,eW ws i k,eW ws (i+1) k,rfl,⟨by have:=kj.dp;omega,by have:=kj.sz;omega⟩,VA.mono (.of s3) v av,⟨(ah i u hu).mono (Tu.of ae),kj.o,af.same ae⟩,kj.bh,λu2 H5 ai aw ax=>?_⟩;obtain⟨ps,hP⟩:=(af.same ae).tab;have ak:=ai q1 _ (eK (ae _ _ hq) hP (by intro z;cases z)) (ae _ _ hq);have ay:=ai p _ (eK (ae _ _ ag) hP (by intro z;cases z)) (ae _ _ ag);have aq:Tu H5 (upd H5 q1 (.lst (aa++[u2]))):=λc xs h=>by rw[cQ (eK h ak (by intro z;cases z))];exact h
   have tu:Tu H' (upd H5 q1 (.lst (aa++[u2]))):=λc xs h=>aq _ _ (ai c _ (eK (ae _ _ h) hP (by intro z;cases z)) (ae _ _ h));refine⟨q1,aa,u2,rfl,rfl,ak,eE (by omega),?_⟩;refine⟨_,_,aa++[u2],rfl,λc o hc h=>?_,aw.keep (λc o hn h=>by rw[cQ (eK h ak (hn aa))];exact h),?_,aj,cV,by rw[Q0d,hl];rfl,λj w e=>?_⟩
   . rw[cQ (c6 h n1)];exact ai c o hc (ae _ _ (kp c o hc h))
   . rw[cQ aj.symm];exact ay
   . rcases BO hl e with⟨c1,c2⟩|⟨rfl,rfl⟩
     . exact(ah j w c2).mono tu
     . exact ax.mono aq
 . intro σ H' zq;obtain⟨x,z,aa,rfl,kp,af,ag,aj,hq,ah⟩:=zq;rw[au] at ah;exact⟨_,rfl,q q1 aa H' kp af n1 hq ah⟩
theorem IJ(Z:cW es K mg)(aa:Om P w K mg base cH c.ch "kinds_row" XH (n+2) (pY c Pt d)):Om P w K mg base cH c.ch "behind" XH (n+3) (gj c Pt (λw k=>∃ws,w=.ch ws/\WD (d+1) w k)):=by
 refine Z.om (k:=n+2) XH (dU 26 1) λvs H Q E h=>?_;obtain⟨v,kv,w,k,k',rfl,⟨ws,rfl,hW⟩,hV,hK,hb,q⟩:=h;refine⟨rfl,λql f ag A outer s _ nd hr hu=>?_⟩;obtain⟨a,dx,fs,rfl,ha,_⟩:=hV.cls;refine⟨_,(cO (cS (fE (iZ (pv 0) aa (hr.mono (by omega)) fG (a_ (pv 1) cG)) (oN oO cI)))),?_⟩
 ac_rfl
 refine⟨_,rfl,a,dx,fs,rfl,ha,?_,_,rfl,_,kv,ws,k,k',rfl,hW,hV,hK,jS hb,λr ae H' kp hT _ hr ab=>?_⟩
 . unfold VA at hV;obtain⟨a',ah,p,us,e,h,_⟩:=hV
   cases e;rw[h] at ha
   cases ha;rfl
 obtain⟨hl,ab⟩:=ab;obtain⟨u,hu⟩:=jz (l:=ae) (i:=ws.len) (by omega);have af:=ab _ u hu;rw[BJ ws 0 k k' (jS hb)] at af;exact⟨1,rfl,r,ae,-1,u,rfl,rfl,cM.of hr,Aw (by rw[hl];exact hu),q u H' kp hT af⟩
inductive BQ (c:CA) (Pt:Addr) (W:Vw->Kd->Prop) (vs:List V) (H:Hp) (Q:V->Hp->Prop):Prop
 |mk (v:_) (kv:_) (src:_) (w:_) (k:_) (k':_) (d:_) (fp:_) (h0:vs=[v,kv,src]) (h1:W w k) (h2:VA c H v w) (h3:KG Pt H kv k) (h4:bh w k=.inr k') (h5:Own H src d fp) (h6:dm k d) (h7:∀u fp' H',fj Pt H H'->dc Pt d_ eh H'->Own H' u (dN w d) fp'->(∀a∈fp',a∈fp\/H a=none)->Q u H'):BQ c Pt W vs H Q
def ij (c:CA) (Pt:Addr) (W:Vw->Kd->Prop):Sp:=λvs H Q _=>BQ c Pt W vs H Q
theorem ik(hd:Own H src d fp)(hF:dm k d)(e:du k=some l)(hn:(cR l).Nodup)(aa:l.length<=55):∃(r:Addr) (m:Ds) (g:Str->V),src=.ref r/\d=.dct m/\gA l m/\H r=some (.dK (dv g m.names))/\m.names.Nodup/\(∀x,x∈m.names↔x∈cR l)/\m.names.length<=55/\∀x∈m.names,∃f,Own H (g x) (m.gt x) f/\∀a∈f,a∈fp:=by
 obtain⟨m,rfl,hG⟩:=hF.g e;obtain⟨n1,n2⟩:=hG.nm hn;unfold Own at hd;obtain⟨r,kvs,fq,rfl,ab,rfl,hM⟩:=hd;obtain⟨g,rfl,hg⟩:=Bp hM n1;exact⟨r,m,g,rfl,rfl,hG,ab,n1,n2,by rw[hG.1];exact aa,λx hx=>let⟨f,h1,h2⟩:=hg x hx;⟨f,h1,λa ha=>Q09 _ (h2 a ha)⟩⟩
def fW (H:Hp) (P:Addr->Prop) (v:V) (d:D):Prop:=∃fp,Own H v d fp/\∀a∈fp,P a
theorem oh{P:Addr->Prop}{g:Str->V}{f:Str->D}(hP:P p)(hp:H p=some (.dK (dv g ns)))(h:∀x∈ns,fW H P (g x) (f x)):fW H P (.ref p) (.dct (Ds.eO f ns)):=by
 obtain⟨fp,hO,h2⟩:=Bq h;refine⟨p::fp,?_,λa ha=>(List.mem_cons.mp ha).elim (λe=>e ▸ hP) (h2 a)⟩;unfold Own;exact⟨p,_,fp,rfl,hp,rfl,hO⟩
theorem mQ{P:Addr->Prop}{g:Str->V}{f:Str->D}(hP:P p)(hp:H p=some (.dK (dv (iy g x u) (fP x ns))))(h:∀y∈ns,fW H P (g y) (f y))(hu:fW H P u d):fW H P (.ref p) (.dct (Ds.eO (setG f x d) (fP x ns))):=
 oh hP hp λy hy=>by
  unfold iy setG;by_cases cx:y=x
  . rw[if_pos cx,if_pos cx];exact hu
  . rw[if_neg cx,if_neg cx];exact h y ((iK.mp hy).resolve_left cx)
theorem BR{P:Addr->Prop}{g gi:Str->V}(hP:P p)(em:m.gt f=.dct mi)(hp:H' p=some (.dK (dv (λx=>if x∈mi.names then gi x else g x) (eU [f] m.names++mi.names))))(h:∀x∈m.names,fW H' P (g x) (m.gt x))(hi:∀x∈mi.names,fW H' P (gi x) (mi.gt x)):fW H' P (.ref p) (lL f m):=by
 unfold lL;rw[em];refine oh (f:=λx=>(mi.get x).getD (m.gt x)) hP hp λx hx=>?_;show fW H' P (if x∈mi.names then gi x else g x) ((mi.get x).getD (m.gt x));by_cases c:x∈mi.names
 . obtain⟨e,he⟩:=Ds.get_mem c;have ho:=hi x c;rw[if_pos c,he];rw[lK he] at ho;exact ho
 . have hz:mi.get x=none:=by
    cases z:mi.get x with
    |none=>rfl
    |some u=>exact absurd (Ds.jw z) c
   rw[if_neg c,hz];exact h x (fU.mp ((List.mem_append.mp hx).resolve_right c)).1
abbrev Fr (H:Hp) (fp:List Addr):Addr->Prop:=λa=>a∈fp\/H a=none
theorem pZ {H H':Hp}{g:Str->V}{f:Str->D}{ns:List Str}(s:Same H H')(h:∀x∈ns,∃f',Own H (g x) (f x) f'/\∀a∈f',a∈fp):∀x∈ns,fW H' (Fr H fp) (g x) (f x):=λx hx=>let⟨f',ho,h2⟩:=h x hx;⟨f',ho.same s,λa ha=>.inl (h2 a ha)⟩
section
variable {P:Program}{w:World}{K:W.Frag}{mg:Str->Option Value}{base:Heap}{Pt:Addr}
theorem IK (Z:cW es K mg):Om P w K mg base cH c.vw "see" XB (4) (ij c Pt (λw _=>w=.vw)):=by
 refine Z.om (k:=3) XB (dU 25 1) λvs H Q E h=>?_;obtain⟨v,kv,src,w,k,k',d,fp,rfl,rfl,hV,⟨hk,hO,hT⟩,hb,hd,hF,q⟩:=h;refine⟨rfl,λql f aa A outer s _ nd hr hu=>?_⟩;refine⟨_,(cO (cS (pv 2))),?_⟩
 ac_rfl
 exact⟨_,rfl,q _ _ _ (Kp.refl _ _) hT (by unfold dN;exact hd) λa ha=>.inl ha⟩
theorem IL (T:Tb mg)(CT:CF K c.tk ["names"])(Z:cW es K mg)(aa:Ok P w K mg base cH "part_of" XT (1) (rB K)):Om P w K mg base cH c.tk "see" XB (4) (ij c Pt (λw k=>∃ss,w=.tk ss/\k.sz<=55)):=by
 refine Z.om (k:=3) XB (dU 39 2) λvs H Q E h=>?_;obtain⟨v,kv,src,w,k,k',d,fp,rfl,⟨ss,rfl,hsz⟩,hV,⟨hk,hO,hT⟩,hb,hd,hF,q⟩:=h;refine⟨rfl,λql f ak A outer s _ nd hr hu=>?_⟩;unfold VA at hV;obtain⟨a,dx,p,rfl,ha,hp,ao⟩:=hV;obtain⟨l,e,ho,rfl⟩:=kJ hb;obtain⟨hn,ab⟩:=fV e hO hsz;obtain⟨o1,o2⟩:=nV ho;obtain⟨r,m,g,rfl,rfl,hG,ae,n1,n2,n3,hg⟩:=ik hd hF e hn ab;refine⟨_,(cO (cS (cT aa hr (a_ (pv 2) (a_ (dI (pv 0) rfl) cG))))),?_⟩
 ac_rfl
 refine⟨_,rfl,_,rfl,a,c.tk,dx,_,_,rfl,ha,CT.ct,CT.na "names" (by simp),rfl,r,p,_,ss,g,rfl,ae,cM.of hp,o1,by omega,λx hx=>?_,λp' H' s' af ag=>?_⟩
 . rw[i9,if_pos ((n2 x).mpr (o2 x hx))]
 . obtain⟨ah,ai,aj⟩:=oh (f:=m.gt) (.inr ag) af (pZ s' λx hx=>hg x ((n2 x).mpr (o2 x hx)));exact q _ ah _ (Kp.of s') (hT.same s') (by unfold dN;exact ai) aj
theorem IM (T:Tb mg)(CT:CF K c.rn X5)(Z:cW es K mg)(aa:Ok P w K mg base cH "renamed" Xp (3) (u9)):Om P w K mg base cH c.rn "see" XB (4) (ij c Pt (λw k=>∃o n,w=.rn o n/\k.sz<=55)):=by
 refine Z.om (k:=3) XB (dU 40 2) λvs H Q E h=>?_;obtain⟨v,kv,src,w,k,k',d,fp,rfl,⟨o,n,rfl,hsz⟩,hV,⟨hk,hO,hT⟩,hb,hd,hF,q⟩:=h;refine⟨rfl,λql f aq A outer s _ nd hr hu=>?_⟩;unfold VA at hV;obtain⟨a,dx,rfl,ha⟩:=hV;obtain⟨l,q0,e,eq,ar,rfl⟩:=kK hb;obtain⟨hn,af⟩:=fV e hO hsz;obtain⟨r,m,g,rfl,rfl,hG,ag,n1,n2,n3,hg⟩:=ik hd hF e hn af;have ab:o∈m.names:=(n2 o).mpr (dS eq);refine⟨_,(cO (cS (cT aa hr (a_ (pv 2) (a_ (dI (pv 0) rfl) (a_ (dI (pv 0) rfl) cG)))))),?_⟩
 ac_rfl
 refine⟨_,rfl,_,rfl,a,c.rn,dx,_,_,rfl,ha,CT.ct,CT.na "old" (by simp),rfl,_,rfl,a,c.rn,dx,_,_,rfl,ha,CT.ct,CT.na "new" (by simp),rfl,r,o,n,g,m.names,rfl,ag,n1,by omega,ab,λp' H' s' ah ai=>?_⟩;have ae:=pZ s' hg;obtain⟨aj,ak,ao⟩:=mQ (f:=m.gt) (.inr ai) ah (λx hx=>ae x (fU.mp hx).1) (ae o ab);exact q _ aj _ (Kp.of s') (hT.same s') (by unfold dN;exact ak) ao
theorem IP (T:Tb mg)(CT:CF K c.ne Xs)(Z:cW es K mg)(aa:Ok P w K mg base cH "nested" Xj (3) (u_ K)):Om P w K mg base cH c.ne "see" XB (4) (ij c Pt (λw k=>∃ss y,w=.ne ss y/\k.sz<=55)):=by
 refine Z.om (k:=3) XB (dU 41 2) λvs H Q E h=>?_;obtain⟨v,kv,src,w,k,k',d,fp,rfl,⟨ss,y,rfl,hsz⟩,hV,⟨hk,hO,hT⟩,hb,hd,hF,q⟩:=h;refine⟨rfl,λql f au A outer s _ nd hr hu=>?_⟩;unfold VA at hV;obtain⟨a,dx,p,rfl,ha,hp,ae⟩:=hV;obtain⟨l,e,ho,av,rfl⟩:=kL hb;obtain⟨hn,af⟩:=fV e hO hsz;obtain⟨o1,o2⟩:=nV ho;obtain⟨r,m,g,rfl,rfl,hG,ag,n1,n2,n3,hg⟩:=ik hd hF e hn af;refine⟨_,(cO (cS (cT aa hr (a_ (pv 2) (a_ (dI (pv 0) rfl) (a_ (dI (pv 0) rfl) cG)))))),?_⟩
 ac_rfl
 refine⟨_,rfl,_,rfl,a,c.ne,dx,_,_,rfl,ha,CT.ct,CT.na "names" (by simp),rfl,_,rfl,a,c.ne,dx,_,_,rfl,ha,CT.ct,CT.na "into" (by simp),rfl,r,p,y,g,m.names,ss,rfl,ag,n1,by omega,cM.of hp,o1,ae,λx hx=>(n2 x).mpr (o2 x hx),λp' c' H' s' ah ai aj ak=>?_⟩;have ab:=pZ s' hg;obtain⟨ao,aq,ar⟩:=mQ (f:=m.gt) (.inr aj) ah (λx hx=>ab x (fU.mp hx).1) (oh (f:=m.gt) (.inr ak) ai λx hx=>ab x ((n2 x).mpr (o2 x hx)));exact q _ ao _ (Kp.of s') (hT.same s') (by unfold dN nestD;exact aq) ar
theorem IQ (T:Tb mg)(CT:CF K c.un ["field"])(Z:cW es K mg)(aa:Ok P w K mg base cH "unnested" ["record","field"] (3) (va)):Om P w K mg base cH c.un "see" XB (4) (ij c Pt (λw k=>∃f,w=.un f/\k.sz<=55)):=by
 refine Z.om (k:=3) XB (dU 42 2) λvs H Q E h=>?_;obtain⟨v,kv,src,w,k,k',d,fp,rfl,⟨f,rfl,hsz⟩,hV,⟨hk,hO,hT⟩,hb,hd,hF,q⟩:=h;refine⟨rfl,λql _ az A outer s _ nd hr hu=>?_⟩;unfold VA at hV;obtain⟨a,dx,rfl,ha⟩:=hV;obtain⟨l,q0,gl,e,eq,er,ae,rfl⟩:=kM hb;obtain⟨hn,af⟩:=fV e hO hsz;obtain⟨r,m,g,rfl,rfl,hG,ag,n1,n2,n3,hg⟩:=ik hd hF e hn af;obtain⟨ho,aA,_⟩:=dD e hO;obtain⟨ah,aB,_⟩:=dD er (ho.get eq);have a1:dh dA (bt [f] l)+q0.sz<=dh dA l:=gy (f:=dA) eq;have aC:=jt gl;have ab:f∈m.names:=(n2 f).mpr (dS eq);obtain⟨fi,ai,aj⟩:=hg f ab;obtain⟨ri,mi,gi,ak,ao,aD,aq,i1,i2,i3,ar⟩:=ik ai (eV hG eq).2 er ah.1 (by omega);refine⟨_,(cO (cS (cT aa hr (a_ (pv 2) (a_ (dI (pv 0) rfl) cG))))),?_⟩
 ac_rfl
 refine⟨_,rfl,_,rfl,a,c.un,dx,_,_,rfl,ha,CT.ct,CT.na "field" (by simp),rfl,r,ri,f,g,gi,m.names,mi.names,rfl,ag,n1,by omega,ab,ak,aq,by omega,i1,λy hy z=>ae y ((i2 y).mp hy) (f7.mpr ⟨(n2 y).mp (fU.mp z).1,(fU.mp z).2⟩),λp' H' s' au av=>?_⟩;obtain⟨aw,ax,ay⟩:=BR (.inr av) ao au (pZ s' hg) (pZ s' λx hx=>let⟨f',a1,a2⟩:=ar x hx;⟨f',a1,λa ha=>aj a (a2 a ha)⟩);exact q _ aw _ (Kp.of s') (hT.same s') (by unfold dN;exact ax) ay
theorem IS (T:Tb mg)(CT:CF K c.aT ["name"])(Z:cW es K mg):Om P w K mg base cH c.aT "see" XB (4) (ij c Pt (λw k=>∃x,w=.aT x/\k.sz<=55)):=by
 refine Z.om (k:=3) XB (dU 44 2) λvs H Q E h=>?_;obtain⟨v,kv,src,w,k,k',d,fp,rfl,⟨x,rfl,hsz⟩,hV,⟨hk,hO,hT⟩,hb,hd,hF,q⟩:=h;refine⟨rfl,λql f af A outer s _ nd hr hu=>?_⟩;unfold VA at hV;obtain⟨a,dx,rfl,ha⟩:=hV;obtain⟨l,e,eq⟩:=lF hb;obtain⟨hn,ab⟩:=fV e hO hsz;obtain⟨r,m,g,rfl,rfl,hG,ae,n1,n2,n3,hg⟩:=ik hd hF e hn ab;have aa:x∈m.names:=(n2 x).mpr (dS eq);obtain⟨f1,h1,h2⟩:=hg x aa;refine⟨_,(cO (cS (fL hu (pv 2) (dI (pv 0) rfl) (λ_ _=>rfl)))),?_⟩
 ac_rfl
 refine⟨_,rfl,_,rfl,a,c.aT,dx,_,_,rfl,ha,CT.ct,CT.na "name" (by simp),rfl,r,g x,rfl,?_,q _ f1 _ (Kp.refl _ _) hT (by unfold dN;exact h1) λa ha=>.inl (h2 a ha)⟩;have:=d5.k (k:=Sum.inr x) ae;rw[i9,if_pos aa] at this;exact this
end
theorem fH(h:Own H v d fp)(kp:fj Pt H H')(hT:dc Pt lp ql H):Own H' v d fp:=by
 obtain⟨ps,hP⟩:=hT.tab;refine Own.keep (VK.kp kp hT).tu d (λa ha o e=>kp a o (λz=>?_) e) h;rcases Own.alive d h a ha with⟨xs,q⟩|⟨xs,q⟩ <;> rw[z,hP] at q <;> cases q
theorem rM(kp:fj Pt H H')(hT:dc Pt lp ql H)(e:H a=some o)(ho:∀ps,o≠ .eX ps):H' a=some o:=by
 obtain⟨ps,hP⟩:=hT.tab;exact kp a o (eK e hP (ho ps)) e
theorem jY(kp:fj Pt H H')(hT:dc Pt lp ql H')(e:H' a=none):H a=none:=by
 cases z:H a with
 |none=>rfl
 |some o=>
  by_cases c:a=Pt
  . obtain⟨ps,hP⟩:=hT.tab;rw[c,hP] at e;cases e
  . rw[kp a o c z] at e;cases e
theorem jc(kp:fj Pt H H')(hT:dc Pt lp ql H)(e:H a=some (.lst xs)):H' a=some (.lst xs):=rM kp hT e (by intro ps z;cases z)
def IT (c:CA) (H:Hp) (ws:Vs) (us:List V):Prop:=us.length<=ws.len/\∀(j:Nat) u,us[j]? =some u->∃v r,ws.dr j=.cons v r/\VA c H u v
def p0 (H:Hp) (P:Addr->Prop) (f:Nat->D) (us:List V) (i:Nat):Prop:=us.length=i+1/\∀(j:Nat) u,us[j]? =some u->fW H P u (f j)
structure IU (c:CA) (Pt:Addr) (d:Nat) (H:Hp) (ws:Vs) (k k':Kd):Prop where
 w:WD (d+1) (.ch ws) k
 o:k.O
 t:dc Pt d_ eh H
 b:fh ws 0 k=.inr k'
inductive BS (c:CA) (Pt:Addr) (d:Nat) (vs:List V) (H:Hp) (Q:V->Hp->Prop):Prop
 |mk (ps:_) (pk:_) (src:_) (ws:_) (k:_) (k':_) (us:_) (ks:_) (dd:_) (fp:_) (h0:vs=[.ref ps,.ref pk,src]) (h1:IU c Pt d H ws k k') (h2:H ps=some (.lst us)) (h3:us.length<=40) (h4:IT c H ws us) (h5:H pk=some (.lst ks)) (h6:og H ws k ks ws.len) (h7:Own H src dd fp) (h8:dm k dd) (h9:∀r xs H',fj Pt H H'->dc Pt d_ eh H'->H r=none->H' r=some (.lst xs)->p0 H' (Fr H fp) (λj=>gC ws j dd) xs us.length->Q (.ref r) H'):BS c Pt d vs H Q
def rN (c:CA) (Pt:Addr) (d:Nat):Sp:=λvs H Q _=>BS c Pt d vs H Q
inductive BU (c:CA) (Pt:Addr) (d:Nat) (vs:List V) (H:Hp) (Q:V->Hp->Prop):Prop
 |mk (v:_) (kv:_) (src:_) (ws:_) (k:_) (k':_) (dd:_) (fp:_) (h0:vs=[v,kv,src]) (h1:WD (d+1) (.ch ws) k) (h2:VA c H v (.ch ws)) (h3:KG Pt H kv k) (h4:fh ws 0 k=.inr k') (h5:Own H src dd fp) (h6:dm k dd) (h7:∀r xs H',fj Pt H H'->dc Pt d_ eh H'->H r=none->H' r=some (.lst xs)->p0 H' (Fr H fp) (λj=>gC ws j dd) xs ws.len->Q (.ref r) H'):BU c Pt d vs H Q
def BV (c:CA) (Pt:Addr) (d:Nat):Sp:=λvs H Q _=>BU c Pt d vs H Q
section
variable {P:Program}{w:World}{K:W.Frag}{mg:Str->Option Value}{base:Heap}{Pt:Addr}
theorem IV(h2:2<=n)(S:MA P w K mg base c "see" mM (ij c Pt) n d)(T:Tb mg)(CT:CF K c.wi Xi)(Z:cW es K mg)(aa:Ok P w K mg base cH "field_kind" XY (2) (lH K))(ab:Ok P w K mg base cH "with_field" Xf (1) (nU)):Om P w K mg base cH c.wi "see" XB (n+1) (ij c Pt (λw k=>∃f v,w=.wi f v/\WD (d+1) w k)):=by
 refine Z.om (k:=n) ["self","kind","source","there"] (dU 43 2) λvs H Q E h=>?_;obtain⟨v,kv,src,w,k,k',dd,fp,rfl,⟨f,iv,rfl,hW⟩,hV,⟨hk,hO,hT⟩,hb,hd,hF,q⟩:=h;refine⟨rfl,λql _ aD A outer s _ nd hr hu=>?_⟩;unfold VA at hV;obtain⟨a,dx,u,rfl,ha,ae⟩:=hV;obtain⟨l,k0,s0,e,ek,es,rfl⟩:=kN hb;obtain⟨hn,aj⟩:=fV e hO hW.sz;obtain⟨r,m,g,rfl,rfl,hG,af,n1,n2,n3,hg⟩:=ik hd hF e hn aj;have ag:f∈m.names:=(n2 f).mpr (dS ek);have ah:(du k).bind (λl=>cZ l f)=some k0:=by rw[e];exact ek
 obtain⟨W,B,ak⟩:=S iv k0 (hW.wi hO e ek);obtain⟨a',ao,fs',rfl,aq,l1,l2,l3,l4,l5⟩:=ae.cls;obtain⟨f1,h1,ar⟩:=hg f ag
 refine⟨_,(cK (c_ 3 nd (cT aa hr (a_ (pv 1) (a_ (dI (pv 0) rfl) cG))))
  (cO (cS (cT ab hr (a_ (pv 2) (a_ (dI (pv 0) rfl) (a_ (iJ (m:="see") (ps:=mM) (sp:=(ij c Pt)) (n:=n) (dI (pv 0) rfl) (hr.mono (by omega)) (a_ (pv 3) (a_ (fL hu (pv 2) (dI (pv 0) rfl) (λ_ _=>rfl)) cG))) cG))))))),?_⟩
 ac_rfl
 refine⟨_,rfl,_,rfl,a,c.wi,dx,_,_,rfl,ha,CT.ct,CT.na "field" (by simp),rfl,kv,k,f,rfl,hk,λq0 u0 eq au=>?_,λen=>by rw[ah] at en;cases en⟩;rw[ah] at eq
 cases eq;refine⟨_,rfl,_,rfl,a,c.wi,dx,_,_,rfl,ha,CT.ct,CT.na "field" (by simp),rfl,W,_,B,_,rfl,a,c.wi,dx,_,_,rfl,ha,CT.ct,CT.na "inner" (by simp),rfl,a',ao,fs',rfl,aq,l2,_,rfl,_,rfl,_,rfl,a,c.wi,dx,_,_,rfl,ha,CT.ct,CT.na "field" (by simp),rfl,r,g f,rfl,?_,_,u0,g f,iv,k0,s0,m.gt f,f1,rfl,ak,ae,⟨au,(dD e hO).1.get ek,hT⟩,es,h1,(eV hG ek).2,λu' av H' kp ai aw ax=>?_⟩
 . have:=d5.k (k:=Sum.inr f) af;rw[i9,if_pos ag] at this;exact this
 refine⟨r,f,u',g,m.names,rfl,rM kp hT af (by intro ps z;cases z),by omega,λp' H2 s2 ay az=>?_⟩;obtain⟨aA,aB,aC⟩:=mQ (P:=Fr H fp) (f:=m.gt) (.inr (jY kp ai az)) ay (λx hx=>let⟨f3,h3,h4⟩:=hg x hx;⟨f3,(fH h3 kp hT).same s2,λa ha=>.inl (h4 a ha)⟩) ⟨av,aw.same s2,λa ha=>(ax a ha).elim (λz=>.inl (ar a z)) .inr⟩;exact q _ aA _ (kp.trans (Kp.of s2)) (ai.same s2) (by unfold dN;exact aB) aC
theorem IW(S:MA P w K mg base c "see" mM (ij c Pt) n d)(T:Tb mg)(Z:cW es K mg):Ok P w K mg base cH "seen_along" Xv (n+1) (rN c Pt d):=by
 refine Z.ok (k:=n) YB (top 24) λvs H Q E h=>?_;obtain⟨ps,pk,src,ws,k,k',us,ks,dd,fp,rfl,⟨⟨ak,hz⟩,hO,hT,hb⟩,ag,aD,⟨aE,ao⟩,aq,⟨aF,ar⟩,hd,hF,q⟩:=h;refine⟨rfl,λql f aG A outer s _ nd hr hu=>?_⟩;unfold Vw.dp at ak;unfold Vw.nn at hz
 refine⟨_,(cK (c_ 3 nd (eR (a_ (pv 2) cG)))
  (cK (fR PassesOwn.never rfl (qN rfl T.qZ (a_ (pv 0) cG)) (hZ rfl (eY (dy (i:=4) nd rfl d9) (eY (dy (i:=5) nd rfl d9) hX))) (cO (ft (jI PySem.F.plainAttrs_list PySem.F.slot_list_append PySem.F.type_list_append mj (pv 3) (a_ (iJ (m:="see") (ps:=mM) (sp:=(ij c Pt)) (n:=n) (pv 5) (hr.mono (by omega)) (a_ (fE (pv 1) (pv 4)) (a_ (fE (pv 3) (pv 4)) cG))) cG)))))
  (cO (cS (pv 3))))),?_⟩
 ac_rfl
 refine⟨_,rfl,gw,λq1 n1=>?_⟩;have s1:=Same.new (o:=.lst [src]) n1;refine⟨_,rfl,ps,rfl,⟨_,cM.of (s1 _ _ ag)⟩,rq (xs:=us) (λi σ H'=>∃x y xs,σ=[some (.ref ps),some (.ref pk),some src,some (.ref q1),x,y]/\fj Pt H H'/\dc Pt d_ eh H'/\H' q1=some (.lst xs)/\p0 H' (Fr (upd H q1 (.lst [src])) fp) (λj=>gC ws j dd) xs i) ?_ ?_ ?_ ?_⟩
 . refine⟨_,_,[src],rfl,Kp.of s1,hT.same s1,cV,rfl,λj u e=>?_⟩
   cases j with
   |zero=>cases e;exact⟨fp,by show Own _ _ (gC ws 0 dd) _;rw[rJ];exact hd.same s1,λa ha=>.inl ha⟩
   |succ j=>cases e
 . intro i σ H' _ zq;obtain⟨x,z,xs,rfl,kp,aa,_⟩:=zq;exact cM.of (jc kp hT ag)
 . rintro i y σ H' t hy ⟨x,z,xs,rfl,kp,aa,hq,hl,ab⟩ ht;have st:=Same.new (o:=.tup [.int i,y]) ht;obtain⟨v,r,e1,hv⟩:=ao i y hy;have kj:=rK ws 0 k k' i v r hb hO e1;obtain⟨f1,f2⟩:=vn ws 0 k k' dd i v r hb hO hF e1;have hi:i<us.length:=(List.getElem?_eq_some_iff.mp hy).1;have vk:=(VK.kp kp hT).trans (VK.of st);have ah:=VA.mono vk v hv;obtain⟨u,hu⟩:=jz (l:=xs) (i:=i) (by omega);obtain⟨uk,ai⟩:=jz (l:=ks) (i:=i) (by omega);obtain⟨fu,au,av⟩:=ab i u hu;obtain⟨W,B,aw⟩:=S v (eW ws i k) ⟨by have:=kj.dp;omega,by have:=kj.sz;omega⟩;obtain⟨a',ax,fs',rfl,ay,l1,l2,l3,l4,l5⟩:=ah.cls;refine⟨t,_,rfl,cJ.of cV,rfl,_,_,rfl,_,_,rfl,rfl,?_⟩;refine⟨_,rfl,.inl ⟨rfl,_,cM.of (st _ _ hq)⟩,W,_,B,_,rfl,a',ax,fs',rfl,ay,l2,_,rfl,_,rfl,pk,ks,i,uk,rfl,rfl,cM.of (st _ _ (jc kp hT aq)),fe ai,_,rfl,_,rfl,q1,xs,i,u,rfl,rfl,cM.of (st _ _ hq),fe hu,_,uk,u,v,eW ws i k,eW ws (i+1) k,gC ws i dd,fu,rfl,aw,ah,⟨((ar i uk ai).mono (VK.kp kp hT).tu).mono (Tu.of st),kj.o,aa.same st⟩,kj.bh,au.same st,f1,λu2 aj H5 ae az aA aB=>?_⟩;have af:=jc ae (aa.same st) (st _ _ hq)
   have aC:∀a,Fr (upd H q1 (.lst [src])) fp a->a≠q1:=λa ha z=>by
    rcases ha with h|h
    . rcases Own.alive _ hd a h with⟨xs,q⟩|⟨xs,q⟩ <;> rw[z,n1] at q <;> cases q
    . rw[z,cV] at h;cases h
   have up:∀{v d},fW H5 (Fr (upd H q1 (.lst [src])) fp) v d->fW (upd H5 q1 (.lst (xs++[u2]))) (Fr (upd H q1 (.lst [src])) fp) v d:=λ{v d} ⟨f,h1,h2⟩=>⟨f,Own.keep (λc xs h=>by rw[cQ (eK h af (by intro z;cases z))];exact h) d (λa ha o e=>by rw[cQ (aC a (h2 a ha))];exact e) h1,h2⟩;refine⟨q1,xs,u2,rfl,rfl,af,eE (by omega),?_⟩;refine⟨_,_,xs++[u2],rfl,λc o hc h=>?_,az.keep (λc o hn h=>by rw[cQ (eK h af (hn xs))];exact h),cV,by rw[Q0d,hl];rfl,λj w e=>?_⟩
   . rw[cQ (c6 h n1)];exact ae c o hc (st _ _ (kp c o hc h))
   . rcases BO hl e with⟨c1,c2⟩|⟨rfl,rfl⟩
     . obtain⟨f,h1,h2⟩:=ab j w c2;exact up ⟨f,fH (h1.same st) ae (aa.same st),h2⟩
     . refine up ⟨aj,by show Own H5 w (gC ws (i+1) dd) aj;rw[f2];exact aA,λa ha=>?_⟩;rcases aB a ha with z|z
       . exact av a z
       . refine .inr ?_;have z1:=none_of st z;have z2:=jY kp aa z1;rw[cQ (λc=>by rw[c,hq] at z1;cases z1)];exact z2
 . intro σ H' zq;obtain⟨x,z,xs,rfl,kp,aa,hq,ab⟩:=zq;refine⟨_,rfl,q q1 xs H' kp aa n1 hq ⟨ab.1,λj u e=>?_⟩⟩;obtain⟨f,h1,h2⟩:=ab.2 j u e;exact⟨f,h1,λa ha=>(h2 a ha).imp id λz=>none_of s1 z⟩
theorem IX(CT:CF K c.ch ["steps"])(Z:cW es K mg)(aa:Om P w K mg base cH c.ch "kinds_row" XH (n+1) (pY c Pt d))(ab:Ok P w K mg base cH "seen_along" Xv (n+1) (rN c Pt d)):Om P w K mg base cH c.ch "seen_row" XB (n+2) (BV c Pt d):=by
 refine Z.om (k:=n+1) XB (dU 26 7) λvs H Q E h=>?_;obtain⟨v,kv,src,ws,k,k',dd,fp,rfl,hW,hV,hK,hb,hd,hF,q⟩:=h;refine⟨rfl,λql f ak A outer s _ nd hr hu=>?_⟩;have ag:=hV;unfold VA at hV;obtain⟨a,dx,p,us,rfl,ha,hp,ah,ae⟩:=hV;refine⟨_,(cO (cS (cT ab hr (a_ (dI (pv 0) rfl) (a_ (iZ (pv 0) aa (hr.mono (by omega)) fG (a_ (pv 1) cG)) (a_ (pv 2) cG)))))),?_⟩
 ac_rfl
 refine⟨_,rfl,a,c.ch,dx,_,_,rfl,ha,CT.ct,CT.na "steps" (by simp),rfl,_,rfl,a,dx,_,rfl,ha,rfl,_,rfl,_,kv,ws,k,k',rfl,hW,ag,hK,hb,λr ks H' kp hT ao hr ai=>?_⟩;have vk:=VK.kp kp hK.2.2;have af:=dM.mono vk _ ae;refine⟨_,rfl,p,r,src,ws,k,k',us,ks,dd,fp,rfl,⟨hW,hK.2.1,hT,hb⟩,jc kp hK.2.2 hp,ah,⟨by rw[ae.len];exact Q0 _,λj u e=>af.at e⟩,hr,ai,fH hd kp hK.2.2,hF,λr2 xs H2 dQ aj n2 h2 hx=>?_⟩;rw[ae.len] at hx;exact q r2 xs H2 (kp.trans dQ) aj (jY kp hT n2) h2 ⟨hx.1,λj u e=>let⟨f,a1,a2⟩:=hx.2 j u e;⟨f,a1,λa ha=>(a2 a ha).imp id λz=>jY kp hT z⟩⟩
theorem IY(Z:cW es K mg)(aa:Om P w K mg base cH c.ch "seen_row" XB (n+2) (BV c Pt d)):Om P w K mg base cH c.ch "see" XB (n+3) (ij c Pt (λw k=>∃ws,w=.ch ws/\WD (d+1) w k)):=by
 refine Z.om (k:=n+2) XB (dU 26 2) λvs H Q E h=>?_;obtain⟨v,kv,src,w,k,k',dd,fp,rfl,⟨ws,rfl,hW⟩,hV,hK,hb,hd,hF,q⟩:=h;refine⟨rfl,λql f ae A outer s _ nd hr hu=>?_⟩;have ab:=hV;unfold VA at hV;obtain⟨a,dx,p,us,rfl,ha,hp,af,ag⟩:=hV;refine⟨_,(cO (cS (fE (iZ (pv 0) aa (hr.mono (by omega)) fG (a_ (pv 1) (a_ (pv 2) cG))) (oN oO cI)))),?_⟩
 ac_rfl
 refine⟨_,rfl,a,dx,_,rfl,ha,rfl,_,rfl,_,rfl,_,kv,src,ws,k,k',dd,fp,rfl,hW,ab,hK,jS hb,hd,hF,λr xs H' kp hT _ hr hx=>?_⟩;obtain⟨hl,hx⟩:=hx;obtain⟨u,hu⟩:=jz (l:=xs) (i:=ws.len) (by omega);obtain⟨f,ho,hP⟩:=hx _ u hu;have ho:Own H' u (gC ws ws.len dd) f:=ho;rw[BK] at ho;exact⟨1,rfl,r,xs,-1,u,rfl,rfl,cM.of hr,Aw (by rw[hl];exact hu),q u f H' kp hT (by unfold dN;exact ho) hP⟩
end
inductive BW (vs:List V) (H:Hp) (Q:V->Hp->Prop):Prop
 |mk (kv:_) (v:_) (k:_) (d:_) (fp:_) (h0:vs=[kv,v]) (h1:KA H kv k) (h2:k.W) (h3:Own H v d fp) (h4:dm k d) (h5:DS 60 d) (h6:∀H',Same H H'->Q .non H'):BW vs H Q
def kY:Sp:=λvs H Q _=>BW vs H Q
inductive BX (c:CA) (Pt:Addr) (W:Vw->Kd->Prop) (vs:List V) (H:Hp) (Q:V->Hp->Prop):Prop
 |mk (v:_) (kv:_) (src:_) (sn:_) (w:_) (k:_) (k':_) (d:_) (s:_) (f1:_) (f2:_) (N:_) (h0:vs=[v,kv,src,sn]) (h1:W w k) (h2:VA c H v w) (h3:KG Pt H kv k) (h4:bh w k=.inr k') (h5:Own H src d f1) (h6:dm k d) (h7:Own H sn s f2) (h8:dm k' s) (h9:(DS N d/\DS N s/\N+w.pp<=60)) (h10:∀u fp' H',fj Pt H H'->dc Pt d_ eh H'->Own H' u (dE w k d s) fp'->Q u H'):BX c Pt W vs H Q
def iD (c:CA) (Pt:Addr) (W:Vw->Kd->Prop):Sp:=λvs H Q _=>BX c Pt W vs H Q
theorem WD.wz(h:WD d v k)(hO:k.O)(hb:bh v k=.inr k'):k'.W/\k'.O/\k'.sz<=55:=by
 obtain⟨h1,h2,_⟩:=gK v k k' hO hb;have:=h.2;exact⟨Kd.nS h1 (by omega),h1,by omega⟩
abbrev Tr:Addr->Prop:=λ_=>True
theorem fW.of(h:Own H v d fp):fW H Tr v d:=⟨fp,h,λ_ _=>trivial⟩
theorem mR {H H':Hp}{g:Str->V}{f:Str->D}{ns:List Str}{fp:List Addr}(s:Same H H')(h:∀x∈ns,∃f',Own H (g x) (f x) f'/\∀a∈f',a∈fp):∀x∈ns,fW H' Tr (g x) (f x):=λx hx=>let⟨f',ho,_⟩:=h x hx;⟨f',ho.same s,λ_ _=>trivial⟩
section
variable {P:Program}{w:World}{K:W.Frag}{mg:Str->Option Value}{base:Heap}{Pt:Addr}
theorem IZ (Z:cW es K mg)(aa:Ok P w K mg base cH "misfit" Xm (3 * 60+3) (mK 60)):Ok P w K mg base cH "ask_fit" Xg (184) (kY):=by
 refine Z.ok (k:=183) ["kind","seen","place"] (top 20) λvs H Q E h=>?_;obtain⟨kv,v,k,d,fp,rfl,hk,hW,hd,hF,hD,q⟩:=h;refine⟨rfl,λql f ab A outer s _ nd hr hu=>?_⟩
 refine⟨_,(cK (c_ 2 nd (cT aa hr (a_ (pv 0) (a_ (pv 1) cG))))
  (cO (dq (di jj (pv 2) fF (c9 _)) (cO su) dt))),?_⟩
 ac_rfl
 refine⟨_,rfl,_,rfl,kv,v,k,d,fp,rfl,hk,hW,hd,hF,hD.1,hD.2,λH1 s1=>?_⟩;refine⟨_,rfl,rfl,?_⟩;exact⟨_,rfl,dX (q H1 s1)⟩
theorem I0 (Z:cW es K mg)(aa:Ok P w K mg base cH "ask_fit" Xg (184) (kY)):Om P w K mg base cH c.vw "put" XA (186) (iD c Pt (λw k=>w=.vw/\WD 0 w k)):=by
 refine Z.om (k:=185) XA (dU 25 2) λvs H Q E h=>?_;obtain⟨v,kv,src,sn,w,k,k',d,s,f1,f2,N,rfl,⟨rfl,hW⟩,hV,⟨hk,hO,hT⟩,hb,hd,hF,hs,hS,⟨_,ab,hN⟩,q⟩:=h;refine⟨rfl,λql f ae A outer _ _ nd hr hu=>?_⟩;have hw:=hW.wz hO hb;unfold bh at hb
 cases hb
 refine⟨_,(cK (ft (cT aa hr (a_ (pv 1) (a_ (pv 3) cG))))
  (cO (cS (pv 3)))),?_⟩
 ac_rfl
 refine⟨_,rfl,_,rfl,kv,sn,k,s,f2,rfl,hk,hw.1,hs,hS,ab.mono (by omega),λH1 s1=>?_⟩;exact⟨_,rfl,q sn f2 H1 (Kp.of s1) (hT.same s1) (by unfold dE;exact hs.same s1)⟩
theorem I_ (Z:cW es K mg)(aa:Om P w K mg base cH c.tk "behind" XH (11) (gj c Pt (λw k=>∃ss,w=.tk ss/\k.sz<=55)))(ab:Ok P w K mg base cH "ask_fit" Xg (184) (kY))(T:Tb mg):Om P w K mg base cH c.tk "put" XA (186) (iD c Pt (λw k=>∃ss,w=.tk ss/\WD 0 w k)):=by
 refine Z.om (k:=185) ["self","kind","source","seen","fresh"] (dU 39 3) λvs H Q E h=>?_;obtain⟨v,kv,src,sn,w,k,k',d,s,f1,f2,N,rfl,⟨ss,rfl,hW⟩,hV,hK,hb,hd,hF,hs,hS,⟨_,aq,hN⟩,q⟩:=h;refine⟨rfl,λql f aB A outer _ _ nd hr hu=>?_⟩;obtain⟨hk,hO,hT⟩:=id hK;have hw:=hW.wz hO hb;obtain⟨a,dx,fs,rfl,ha,hl,_⟩:=hV.cls;obtain⟨l,e,ho,rfl⟩:=kJ hb;obtain⟨hn,af⟩:=fV e hO hW.sz;have na:=eB (fN ss l) hn
 refine⟨_,(cK (ft (cT ab hr (a_ (iZ (pv 0) aa (hr.mono (by decide)) fG (a_ (pv 1) cG)) (a_ (pv 3) cG))))
  (cK (c_ 4 nd (jG A5 (by rfl) T.q9 boot_dict (a_ (pv 2) cG)))
  (cK (ft (jI PySem.F.plainAttrs_dict PySem.F.slot_dict_update PySem.F.type_dict_update Bf (pv 4) (a_ (pv 3) cG)))
  (cO (cS (pv 4)))))),?_⟩
 ac_rfl
 refine⟨_,rfl,a,dx,fs,rfl,ha,hl,_,rfl,_,kv,_,k,_,rfl,⟨ss,rfl,hW.sz⟩,hV,hK,hb,λu H1 ae ar hu=>?_⟩;have ag:=fH hs ae hT;have au:=fH hd ae hT;refine⟨_,rfl,u,sn,_,s,f2,rfl,hu,hw.1,ag,hS,aq.mono (by omega),λH2 s2=>?_⟩;have ah:=ag.same s2;have hd2:=au.same s2;obtain⟨r,m,g,rfl,rfl,hG,av,n1,n2,n3,hg⟩:=ik hd2 hF e hn af;obtain⟨m2,rfl,ai⟩:=gp na hS;unfold Own at ah;obtain⟨r2,aA,fq,rfl,aj,rfl,hM⟩:=ah;obtain⟨j1,j2⟩:=ai.nm na;obtain⟨g2,rfl,aw⟩:=Bp hM j1;have jl:m2.names.length<=55:=by rw[ai.1];exact Q0b (fN ss l).length_le af
 refine⟨_,rfl,r,_,rfl,av,λp hp=>?_⟩;have sp:=Same.new (o:=.dK (dv g m.names)) hp;refine⟨_,rfl,.inr (.inr (.inl ⟨rfl,.inl ⟨_,cV⟩⟩)),_,rfl,p,r2,_,_,rfl,rfl,(c6 aj hp).symm,cV,sp _ _ aj,Q0t (eE (by rw[lJ,lJ];omega)),?_⟩;rw[Bh (λx hx=>(n2 x).mpr ((fN ss l).map _ |>.subset ((j2 x).mp hx)))];have sF:Same H2 (upd (upd H2 p (.dK (dv g m.names))) p (.dK (dv (λx=>if x∈m2.names then g2 x else g x) m.names))):=λc o e=>by rw[cQ (c6 e hp),cQ (c6 e hp)];exact e
 have ax:=mR sF hg;have ao:=mR sF aw
 obtain⟨ay,az,_⟩:=oh (P:=Tr) (f:=λx=>(m2.get x).getD (m.gt x)) trivial (cV (H:=upd H2 p (.dK (dv g m.names))) (a:=p)) λx hx=>by
  show fW _ _ (if x∈m2.names then g2 x else g x) ((m2.get x).getD (m.gt x));by_cases c:x∈m2.names
  . obtain⟨e',ak⟩:=Ds.get_mem c;have:=ao x c;rw[lK ak] at this;rw[if_pos c,ak];exact this
  . have hz:m2.get x=none:=by
     cases z:m2.get x with
     |none=>rfl
     |some u=>exact absurd (Ds.jw z) c
    rw[if_neg c,hz];exact ax x hx
 exact⟨_,rfl,q _ ay _ (ae.trans ((Kp.of s2).trans (Kp.of sF))) ((ar.same s2).same sF) (by unfold dE;exact az)⟩
theorem Ja (CT:CF K c.rn X5)(Z:cW es K mg)(aa:Om P w K mg base cH c.rn "behind" XH (11) (gj c Pt (λw k=>∃o n,w=.rn o n/\k.sz<=55)))(ab:Ok P w K mg base cH "ask_fit" Xg (184) (kY))(ae:Ok P w K mg base cH "renamed" Xp (3) (u9)):Om P w K mg base cH c.rn "put" XA (186) (iD c Pt (λw k=>∃o n,w=.rn o n/\WD 0 w k)):=by
 refine Z.om (k:=185) XA (dU 40 3) λvs H Q E h=>?_;obtain⟨v,kv,src,sn,w,k,k',d,s,f1,f2,N,rfl,⟨o,n,rfl,hW⟩,hV,hK,hb,hd,hF,hs,hS,⟨_,aq,hN⟩,q⟩:=h;refine⟨rfl,λql f aC A outer _ _ nd hr hu=>?_⟩;obtain⟨hk,hO,hT⟩:=id hK;have hw:=hW.wz hO hb;have ar:=hV;unfold VA at hV;obtain⟨a,dx,rfl,ha⟩:=hV;obtain⟨l,q0,e,eq,au,rfl⟩:=kK hb;obtain⟨hn,aD⟩:=fV e hO hW.sz;have ag:=gM (q:=q0) hn (λz=>au (f7.mp z).1:n ∉ cR (bt [o] l))
 refine⟨_,(cK (ft (cT ab hr (a_ (iZ (pv 0) aa (hr.mono (by decide)) fG (a_ (pv 1) cG)) (a_ (pv 3) cG))))
  (cO (cS (cT ae hr (a_ (pv 3) (a_ (dI (pv 0) rfl) (a_ (dI (pv 0) rfl) cG))))))),?_⟩
 ac_rfl
 refine⟨_,rfl,a,dx,_,rfl,ha,rfl,_,rfl,_,kv,_,k,_,rfl,⟨o,n,rfl,hW.sz⟩,ar,hK,hb,λu H1 af av hu=>?_⟩;have ah:=fH hs af hT;refine⟨_,rfl,u,sn,_,s,f2,rfl,hu,hw.1,ah,hS,aq.mono (by omega),λH2 s2=>?_⟩;have ai:=s2 _ _ ((VK.kp af hT).ins ha);obtain⟨lr,er,aw⟩:=jW ag;obtain⟨ax,ao⟩:=fV er hw.2.1 hw.2.2;obtain⟨r,m,g,rfl,rfl,hG,ay,n1,n2,n3,hg⟩:=ik (ah.same s2) hS er ax ao;have aj:n∈m.names:=(n2 n).mpr (dS ((aw n q0).mpr ((fQ ag (eB (eF _ _) hn) (gB n q0)).mpr (.inr (iB.mpr ⟨rfl,rfl⟩)))));refine⟨_,rfl,_,rfl,a,c.rn,dx,_,_,rfl,ai,CT.ct,CT.na "new" (by simp),rfl,_,rfl,a,c.rn,dx,_,_,rfl,ai,CT.ct,CT.na "old" (by simp),rfl,r,n,o,g,m.names,rfl,ay,n1,by omega,aj,λp' H' s' az aE=>?_⟩;have ak:=mR s' hg;obtain⟨aA,aB,_⟩:=mQ (P:=Tr) (f:=m.gt) trivial az (λx hx=>ak x (fU.mp hx).1) (ak n aj);exact q _ aA _ (af.trans ((Kp.of s2).trans (Kp.of s'))) ((av.same s2).same s') (by unfold dE;exact aB)
theorem Jb (CT:CF K c.ne Xs)(Z:cW es K mg)(aa:Om P w K mg base cH c.ne "behind" XH (11) (gj c Pt (λw k=>∃ss y,w=.ne ss y/\k.sz<=55)))(ae:Ok P w K mg base cH "ask_fit" Xg (184) (kY))(ab:Ok P w K mg base cH "unnested" ["record","field"] (3) (va)):Om P w K mg base cH c.ne "put" XA (186) (iD c Pt (λw k=>∃ss y,w=.ne ss y/\WD 0 w k)):=by
 refine Z.om (k:=185) XA (dU 41 3) λvs H Q E h=>?_;obtain⟨v,kv,src,sn,w,k,k',d,s,f1,f2,N,rfl,⟨ss,y,rfl,hW⟩,hV,hK,hb,hd,hF,hs,hS,⟨_,aq,hN⟩,q⟩:=h;refine⟨rfl,λql f aO A outer _ _ nd hr hu=>?_⟩;obtain⟨hk,hO,hT⟩:=id hK;have hw:=hW.wz hO hb;have ar:=hV;unfold VA at hV;obtain⟨a,dx,p,rfl,ha,hp,aP⟩:=hV;obtain⟨l,e,ho,au,rfl⟩:=kL hb;obtain⟨hn,aQ⟩:=fV e hO hW.sz;have ag:=gM (q:=dP (dW ss l)) hn au;have na:=eB (fN ss l) hn
 refine⟨_,(cK (ft (cT ae hr (a_ (iZ (pv 0) aa (hr.mono (by decide)) fG (a_ (pv 1) cG)) (a_ (pv 3) cG))))
  (cO (cS (cT ab hr (a_ (pv 3) (a_ (dI (pv 0) rfl) cG)))))),?_⟩
 ac_rfl
 refine⟨_,rfl,a,dx,_,rfl,ha,rfl,_,rfl,_,kv,_,k,_,rfl,⟨ss,y,rfl,hW.sz⟩,ar,hK,hb,λu H1 af av hu=>?_⟩;have ah:=fH hs af hT;refine⟨_,rfl,u,sn,_,s,f2,rfl,hu,hw.1,ah,hS,aq.mono (by omega),λH2 s2=>?_⟩;have aw:=s2 _ _ ((VK.kp af hT).ins ha);obtain⟨lr,er,ai⟩:=jW ag;obtain⟨ax,ak⟩:=fV er hw.2.1 hw.2.2;obtain⟨r,m,g,rfl,rfl,hG,ay,n1,n2,n3,hg⟩:=ik (ah.same s2) hS er ax ak;have az:=(fQ ag (eB (eF _ _) hn) (gB y (dP (dW ss l)))).mpr (.inr (iB.mpr ⟨rfl,rfl⟩));have hy:=(ai y _).mpr az;have aj:y∈m.names:=(n2 y).mpr (dS hy);obtain⟨fi,aA,_⟩:=hg y aj;obtain⟨la,ea,aB⟩:=jW na;have aC:=(dD e hO).1.sub (fN ss l)
 have aD:(dP (dW ss l)).sz<=55:=by
  rw[mF];have:=rh (f:=dA) (fN ss l);have:=(dD e hO).2.1;have:=hW.sz;omega
 obtain⟨aE,ao⟩:=fV ea (mG aC) aD;obtain⟨ri,mi,gi,aF,aG,aR,aH,i1,i2,i3,aI⟩:=ik aA (eV hG hy).2 ea aE ao;refine⟨_,rfl,_,rfl,a,c.ne,dx,_,_,rfl,aw,CT.ct,CT.na "into" (by simp),rfl,r,ri,y,g,gi,m.names,mi.names,rfl,ay,n1,by omega,aj,aF,aH,by omega,i1,λx hx z=>?_,λp' H' s' aJ aS=>?_⟩
 . obtain⟨k1,aK⟩:=i6 ((i2 x).mp hx);obtain⟨k2,aL⟩:=i6 ((n2 x).mp (fU.mp z).1);rcases kU.mp (dS ((ai x k2).mp aL)) with h|h
   . exact(f7.mp h).2 (lE.mp (dS ((aB x k1).mp aK))).2
   . exact(fU.mp z).2 (by rw[lN.mp h];exact Q04)
 obtain⟨aM,aN,_⟩:=BR (P:=Tr) trivial aG aJ (mR s' hg) (mR s' aI);exact q _ aM _ (af.trans ((Kp.of s2).trans (Kp.of s'))) ((av.same s2).same s') (by unfold dE;exact aN)
theorem Jc (T:Tb mg)(CT:CF K c.un ["field"])(Z:cW es K mg)(aa:Om P w K mg base cH c.un "behind" XH (11) (gj c Pt (λw k=>∃f,w=.un f/\k.sz<=55)))(af:Ok P w K mg base cH "ask_fit" Xg (184) (kY))(ag:Ok P w K mg base cH "nested" Xj (3) (u_ K))(ae:Ok P w K mg base cH "names_of" ["fields"] (1) (uX K))(ab:Ok P w K mg base cH "field_kind" XY (2) (lH K)):Om P w K mg base cH c.un "put" XA (186) (iD c Pt (λw k=>∃f,w=.un f/\WD 0 w k)):=by
 refine Z.om (k:=185) XA (dU 42 3) λvs H Q E h=>?_;obtain⟨v,kv,src,sn,w,k,k',d,s,f1,f2,N,rfl,⟨f,rfl,hW⟩,hV,hK,hb,hd,hF,hs,hS,⟨_,az,hN⟩,q⟩:=h;refine⟨rfl,λql _ aN A outer _ _ nd hr hu=>?_⟩;obtain⟨hk,hO,hT⟩:=id hK;have hw:=hW.wz hO hb;have aA:=hV;unfold VA at hV;obtain⟨a,dx,rfl,ha⟩:=hV;obtain⟨l,q0,gl,e,eq,er,aB,rfl⟩:=kM hb;obtain⟨hn,aO⟩:=fV e hO hW.sz;obtain⟨ho,aP,_⟩:=dD e hO;obtain⟨ah,aQ,_⟩:=dD er (ho.get eq);have a1:dh dA (bt [f] l)+q0.sz<=dh dA l:=gy (f:=dA) eq;have aR:=jt gl;have hsz:=hW.sz;have nb:=eB (eF [f] l) hn;have aj:=mP nb ah.1 aB;have ao:(du k).bind (λl=>cZ l f)=some q0:=by rw[e];exact eq
 refine⟨_,(cK (ft (cT af hr (a_ (iZ (pv 0) aa (hr.mono (by decide)) fG (a_ (pv 1) cG)) (a_ (pv 3) cG))))
  (cO (cS (cT ag hr (a_ (pv 3) (a_ (cT ae hr (a_ (cX (cT ab hr (a_ (pv 1) (a_ (dI (pv 0) rfl) cG))) cI) cG)) (a_ (dI (pv 0) rfl) cG))))))),?_⟩
 ac_rfl
 refine⟨_,rfl,a,dx,_,rfl,ha,rfl,_,rfl,_,kv,_,k,_,rfl,⟨f,rfl,hW.sz⟩,aA,hK,hb,λu H1 ai aC hu=>?_⟩;have aq:=fH hs ai hT;refine⟨_,rfl,u,sn,_,s,f2,rfl,hu,hw.1,aq,hS,az.mono (by omega),λH2 s2=>?_⟩;have ar:=s2 _ _ ((VK.kp ai hT).ins ha);have aD:=(hk.mono (VK.kp ai hT).tu).mono (Tu.of s2);obtain⟨lr,au,av⟩:=jW aj;obtain⟨aE,ay⟩:=fV au hw.2.1 hw.2.2;obtain⟨r,m,g,rfl,rfl,hG,aF,n1,n2,n3,hg⟩:=ik (aq.same s2) hS au aE ay;refine⟨_,rfl,_,rfl,_,rfl,a,c.un,dx,_,_,rfl,ar,CT.ct,CT.na "field" (by simp),rfl,kv,k,f,rfl,aD,λq1 u0 aw aG=>?_,λen=>by rw[ao] at en;cases en⟩;rw[ao] at aw
 cases aw;obtain⟨c',t',zs,rfl,h4,h5,h6⟩:=aG.ig er;refine⟨c',_,_,_,rfl,rfl,cJ.of h4,rfl,t',zs,gl,rfl,cJ.of h5,h6,by omega,λr3 H3 s3 _ aH=>?_⟩;refine⟨_,rfl,a,c.un,dx,_,_,rfl,s3 _ _ ar,CT.ct,CT.na "field" (by simp),rfl,r,r3,f,g,m.names,cR gl,rfl,s3 _ _ aF,n1,by omega,cM.of aH,ah.1,by unfold cR;rw[Q01];omega,λx hx=>?_,λp' c' H' s' aI aJ aS aU=>?_⟩
 . obtain⟨k1,ak⟩:=i6 hx;exact(n2 x).mpr (dS ((av x k1).mpr ((fQ aj nb ah.1).mpr (.inr ak))))
 have ax:=mR (s3.trans s') hg
 have aK:∀x∈cR gl,x∈m.names:=λx hx=>by
  obtain⟨k1,ak⟩:=i6 hx;exact(n2 x).mpr (dS ((av x k1).mpr ((fQ aj nb ah.1).mpr (.inr ak))))
 obtain⟨aL,aM,_⟩:=mQ (P:=Tr) (f:=m.gt) trivial aI (λx hx=>ax x (fU.mp hx).1) (oh (P:=Tr) (f:=m.gt) trivial aJ λx hx=>ax x (aK x hx));exact q _ aL _ (ai.trans ((Kp.of s2).trans ((Kp.of s3).trans (Kp.of s')))) (((aC.same s2).same s3).same s') (by unfold dE nestD;rw[mN e eq,pS er];exact aM)
theorem Jd (CT:CF K c.aT ["name"])(Z:cW es K mg)(aa:Om P w K mg base cH c.aT "behind" XH (11) (gj c Pt (λw _=>∃f,w=.aT f)))(ae:Ok P w K mg base cH "ask_fit" Xg (184) (kY))(ab:Ok P w K mg base cH "with_field" Xf (1) (nU)):Om P w K mg base cH c.aT "put" XA (186) (iD c Pt (λw k=>∃f,w=.aT f/\WD 0 w k)):=by
 refine Z.om (k:=185) XA (dU 44 3) λvs H Q E h=>?_;obtain⟨v,kv,src,sn,w,k,k',d,s,f1,f2,N,rfl,⟨f,rfl,hW⟩,hV,hK,hb,hd,hF,hs,hS,⟨_,ah,hN⟩,q⟩:=h;refine⟨rfl,λql _ aw A outer _ _ nd hr hu=>?_⟩;obtain⟨hk,hO,hT⟩:=id hK;have hw:=hW.wz hO hb;have ai:=hV;unfold VA at hV;obtain⟨a,dx,rfl,ha⟩:=hV;obtain⟨l,e,eq⟩:=lF hb;obtain⟨hn,aj⟩:=fV e hO hW.sz
 refine⟨_,(cK (ft (cT ae hr (a_ (iZ (pv 0) aa (hr.mono (by decide)) fG (a_ (pv 1) cG)) (a_ (pv 3) cG))))
  (cO (cS (cT ab hr (a_ (pv 2) (a_ (dI (pv 0) rfl) (a_ (pv 3) cG))))))),?_⟩
 ac_rfl
 refine⟨_,rfl,a,dx,_,rfl,ha,rfl,_,rfl,_,kv,_,k,_,rfl,⟨f,rfl⟩,ai,hK,hb,λu H1 af ak hu=>?_⟩;have ag:=fH hs af hT;refine⟨_,rfl,u,sn,_,s,f2,rfl,hu,hw.1,ag,hS,ah.mono (by omega),λH2 s2=>?_⟩;have ao:=s2 _ _ ((VK.kp af hT).ins ha);obtain⟨r,m,g,rfl,rfl,hG,aq,n1,n2,n3,hg⟩:=ik ((fH hd af hT).same s2) hF e hn aj;refine⟨_,rfl,_,rfl,a,c.aT,dx,_,_,rfl,ao,CT.ct,CT.na "name" (by simp),rfl,_,rfl,r,f,sn,g,m.names,rfl,aq,by omega,λp' H' s' ar ax=>?_⟩;obtain⟨au,av,_⟩:=mQ (P:=Tr) (f:=m.gt) trivial ar (mR s' hg) (fW.of ((ag.same s2).same s'));exact q _ au _ (af.trans ((Kp.of s2).trans (Kp.of s'))) ((ak.same s2).same s') (by unfold dE;exact av)
end
theorem BY {A B:TS}{D:Ends}(Pv:L2.St->Hp->Prop)(hB:∀aa H',Pv aa H'->B D aa H')(hA:∀N:L2.St->Hp->Prop,(∀aa H',Pv aa H'->N aa H')->A { D with nx:=N } σ H):qt A B D σ H:=hA _ hB
theorem Je (us:List V):kh us none (some (-1))=us.take (us.length - 1):=by
 unfold kh;have e1:HT.gI us.length 0 none=0:=rfl;rw[e1,List.drop_zero];congr 1;unfold HT.gI;simp only[];split <;> omega
inductive BZ (c:CA) (Pt:Addr) (d:Nat) (vs:List V) (H:Hp) (Q:V->Hp->Prop) (E:XK):Prop
 |mk (p:_) (r:_) (h0:vs=p::r) (h1:iD c Pt (WD d) r H Q E):BZ c Pt d vs H Q E
def vp (c:CA) (Pt:Addr) (d:Nat):Sp:=λvs H Q E=>BZ c Pt d vs H Q E
inductive B0 (c:CA) (Pt:Addr) (d:Nat) (vs:List V) (H:Hp) (Q:V->Hp->Prop):Prop
 |mk (v:_) (kv:_) (src:_) (sn:_) (ws:_) (k:_) (k':_) (dd:_) (s:_) (f1:_) (f2:_) (N:_) (h0:vs=[v,kv,src,sn]) (h1:WD (d+1) (.ch ws) k) (h2:VA c H v (.ch ws)) (h3:KG Pt H kv k) (h4:fh ws 0 k=.inr k') (h5:Own H src dd f1) (h6:dm k dd) (h7:Own H sn s f2) (h8:dm k' s) (h9:(DS N dd/\DS N s/\N+ws.pp<=60)) (h10:∀r xs H',fj Pt H H'->dc Pt d_ eh H'->H r=none->H' r=some (.lst xs)->p0 H' Tr (gq ws k dd s) xs ws.len->Q (.ref r) H'):B0 c Pt d vs H Q
def B1 (c:CA) (Pt:Addr) (d:Nat):Sp:=λvs H Q _=>B0 c Pt d vs H Q
section
variable {P:Program}{w:World}{K:W.Frag}{mg:Str->Option Value}{base:Heap}{Pt Jf:Addr}
theorem Jg(B:MA P w K mg base c "put" pR (iD c Pt) n d)(XC:rL K mg "CantPut" Jf)(Z:cW es K mg):Ok P w K mg base cH "put_inner" Xu (n+1) (vp c Pt d):=by
 refine Z.ok (k:=n) YK (top 23) λvs H Q E h=>?_;obtain⟨p,r,rfl,v,kv,src,sn,w,k,k',d,s,f1,f2,N,rfl,hW,hV,t1,t2,t3,t4,t5,t6,t7,t8⟩:=h;refine⟨rfl,λql f ab A outer _ _ nd hr hu=>?_⟩;obtain⟨W,G,aa⟩:=B w k hW;obtain⟨a,dx,fs,rfl,ha,h1,h2,h3,h4,h5⟩:=hV.cls;refine⟨_,(cO (z_ (Ek:=λ_ _ _=>False) (i:=5) rfl rfl (z9 (Aa (iJ (m:="put") (ps:=pR) (sp:=(iD c Pt)) (n:=n) (pv 1) (hr.mono (by omega)) (a_ (pv 2) (a_ (pv 3) (a_ (pv 4) cG)))))) rfl XC.m XC.ty XC.is XC.bx (λ_ _ _ z=>z.elim) nd rfl rfl (λa=>sx))),?_⟩
 ac_rfl
 refine⟨?_,λa C' dd H' na hE=>hE.elim⟩;exact⟨W,_,G,_,rfl,a,dx,fs,rfl,ha,h3,_,rfl,_,rfl,_,rfl,_,kv,src,sn,w,k,k',d,s,f1,f2,N,rfl,aa,hV,t1,t2,t3,t4,t5,t6,t7,t8⟩
theorem Jh(h9:184<=n)(T:Tb mg)(CT:CF K c.wi Xi)(Z:cW es K mg)(aa:Om P w K mg base cH c.wi "behind" XH (n+1) (gj c Pt (λw k=>∃f v,w=.wi f v/\WD (d+1) w k)))(ag:Ok P w K mg base cH "ask_fit" Xg (184) (kY))(ab:Ok P w K mg base cH "field_kind" XY (2) (lH K))(af:Ok P w K mg base cH "put_inner" Xu (n+1) (vp c Pt d))(ae:Ok P w K mg base cH "with_field" Xf (1) (nU)):Om P w K mg base cH c.wi "put" XA (n+2) (iD c Pt (λw k=>∃f v,w=.wi f v/\WD (d+1) w k)):=by
 refine Z.om (k:=n+1) YL (dU 43 3) λvs H Q E h=>?_;obtain⟨v,kv,src,sn,w,k,k',dd,s,f1,f2,N,rfl,⟨f,iv,rfl,hW⟩,hV,hK,hb,hd,hF,hs,hS,⟨aE,aq,hN⟩,q⟩:=h;refine⟨rfl,λql _ aX A outer _ _ nd hr hu=>?_⟩;have aj:=xC hr;have hu:=aj;obtain⟨hk,hO,hT⟩:=id hK;have hw:=hW.wz hO hb;have aF:=hV;unfold VA at hV;obtain⟨a,dx,vi,rfl,ha,aG⟩:=hV;obtain⟨l,q0,t,e,eq,es,rfl⟩:=kN hb;obtain⟨hn,aH⟩:=fV e hO hW.sz;have ar:=gM (q:=t) hn (kP (f:=f));have au:(du k).bind (λl=>cZ l f)=some q0:=by rw[e];exact eq
 refine⟨_,(cK (ft (cT ag hr (a_ (iZ (pv 0) aa (hr.mono (by omega)) fG (a_ (pv 1) cG)) (a_ (pv 3) cG))))
  (cK (c_ 4 nd (dI (pv 0) rfl))
  (cK (c_ 5 nd (cT af hr (a_ (eR (a_ (pv 4) cG)) (a_ (dI (pv 0) rfl) (a_ (cT ab hr (a_ (pv 1) (a_ (pv 4) cG))) (a_ (fL hu (pv 2) (pv 4) (λ_ _=>rfl)) (a_ (fL hu (pv 3) (pv 4) (λ_ _=>rfl)) cG)))))))
  (cO (cS (cT ae hr (a_ (pv 3) (a_ (pv 4) (a_ (pv 5) cG))))))))),?_⟩
 ac_rfl
 refine⟨_,rfl,a,dx,_,rfl,ha,rfl,_,rfl,_,kv,_,k,_,rfl,⟨f,iv,rfl,hW⟩,aF,hK,hb,λu H1 ai aI aJ=>?_⟩;have av:=fH hs ai hT;have aK:=VK.kp ai hT;refine⟨_,rfl,u,sn,_,s,f2,rfl,aJ,hw.1,av,hS,aq.mono (by omega),λH2 s2=>?_⟩;have aw:=aK.trans (VK.of s2);have ax:=aw.ins ha;have na:=CT.na "field" (by simp);have nb:=CT.na "inner" (by simp);obtain⟨lr,er,aL⟩:=jW ar;obtain⟨aM,aD⟩:=fV er hw.2.1 hw.2.2;obtain⟨r,m,g,rfl,rfl,hG,aN,n1,n2,n3,hg⟩:=ik ((fH hd ai hT).same s2) hF e hn aH;obtain⟨r2,m2,g2,rfl,rfl,aO,ay,j1,j2,j3,az⟩:=ik (av.same s2) hS er aM aD;have ak:f∈m.names:=(n2 f).mpr (dS eq);have aA:=(aL f t).mpr ((fQ ar (eB (eF _ _) hn) (gB f t)).mpr (.inr (iB.mpr ⟨rfl,rfl⟩)));have ah:f∈m2.names:=(j2 f).mpr (dS aA);obtain⟨x1,o1,_⟩:=hg f ak;obtain⟨x2,o2,_⟩:=az f ah;refine⟨_,rfl,a,c.wi,dx,_,_,rfl,ax,CT.ct,na,rfl,?_⟩;refine⟨_,rfl,gw,λp3 aP=>?_⟩;have s3:=Same.new (o:=.lst [.str f]) aP;have aB:=aw.trans (VK.of s3);have ao:=(aI.same s2).same s3;refine⟨_,rfl,a,c.wi,dx,_,_,rfl,s3 _ _ ax,CT.ct,nb,rfl,_,rfl,_,rfl,kv,k,f,rfl,hk.mono aB.tu,λq1 u0 aC aj=>?_,λen=>by rw[au] at en;cases en⟩;rw[au] at aC
 cases aC;obtain⟨M,eM,hp⟩:=aE.ps;obtain⟨M',aY,aQ⟩:=aq.ps;refine⟨_,rfl,_,rfl,r,g f,rfl,?_,_,rfl,_,rfl,r2,g2 f,rfl,?_,.ref p3,_,rfl,vi,u0,g f,g2 f,iv,q0,t,m.gt f,m2.gt f,x1,x2,M,rfl,hW.wi hO e eq,VA.mono aB iv aG,⟨aj,(dD e hO).1.get eq,ao⟩,es,o1.same s3,(eV hG eq).2,o2.same s3,(eV aO aA).2,⟨hp f ak,(aQ f ah).mono (by omega),by unfold Vw.pp at hN;omega⟩,λu' aZ H' kp aR aS=>?_⟩
 . have:=d5.k (k:=Sum.inr f) (s3 _ _ aN);rw[i9,if_pos ak] at this;exact this
 . have:=d5.k (k:=Sum.inr f) (s3 _ _ ay);rw[i9,if_pos ah] at this;exact this
 refine⟨_,rfl,_,rfl,_,rfl,r2,f,u',g2,m2.names,rfl,rM kp ao (s3 _ _ ay) (by intro ps z;cases z),by omega,λp' H5 s5 aU a3=>?_⟩;obtain⟨aV,aW,_⟩:=mQ (P:=Tr) (f:=m2.gt) trivial aU (λx hx=>let⟨f3,h3,_⟩:=az x hx;⟨f3,(fH (h3.same s3) kp ao).same s5,λ_ _=>trivial⟩) (fW.of (aS.same s5));exact q _ aV _ (ai.trans ((Kp.of s2).trans ((Kp.of s3).trans (kp.trans (Kp.of s5))))) (aR.same s5) (by unfold dE;rw[mN e eq];exact aW)
theorem Ji(h9:184<=n)(T:Tb mg)(CT:CF K c.ch ["steps"])(Z:cW es K mg)(aa:Om P w K mg base cH c.ch "kinds_row" XH (n+1) (pY c Pt d))(ab:Ok P w K mg base cH "seen_along" Xv (n+1) (rN c Pt d))(ag:Ok P w K mg base cH "ask_fit" Xg (184) (kY))(ae:Ok P w K mg base cH "put_inner" Xu (n+1) (vp c Pt d)):Om P w K mg base cH c.ch "put_row" XA (n+2) (B1 c Pt d):=by
 refine Z.om (k:=n+1) X8 (dU 26 8) λvs H Q E h=>?_;obtain⟨v,kv,src,sn,ws,k,k',dd,s,f1,f2,N,rfl,hW,hV,hK,hb,hd,hF,hs,hS,⟨a3,aE,hN⟩,q⟩:=h;refine⟨rfl,λql f bx A outer _ _ nd hr hu=>?_⟩;obtain⟨hk,hO,hT⟩:=id hK;have hw:=hW.wz hO (show bh (.ch ws) k=.inr k' by unfold bh;exact hb);have a4:=hV;unfold VA at hV;obtain⟨a,dx,p,us,rfl,ha,hp,bz,aF⟩:=hV;have na:=CT.na "steps" (by simp);have aG:=aF.len;obtain⟨a5,hz⟩:=id hW;unfold Vw.dp at a5;unfold Vw.nn at hz
 refine⟨_,(cK (dq (di dO (dG fC (by rfl) T.eT PySem.boot_len (a_ (dI (pv 0) rfl) cG)) cI (c9 _)) (cO (ft (cT ag hr (a_ (pv 1) (a_ (pv 3) cG))))) dt)
  (cK (c_ 4 nd (iZ (pv 0) aa (hr.mono (by omega)) fG (a_ (pv 1) cG)))
  (cK (c_ 5 nd (cT ab hr (a_ (qD w6 (dI (pv 0) rfl) qB (qC (oN oO cI))) (a_ (pv 4) (a_ (pv 2) cG)))))
  (cK (c_ 6 nd (eR (a_ (pv 3) cG)))
  (cK (fR PassesOwn.never rfl (Il rfl T.jP (a_ (cU ji (dG fC (by rfl) T.eT PySem.boot_len (a_ (dI (pv 0) rfl) cG)) cI) (a_ (oN oO cI) (a_ (oN oO cI) cG)))) (dy (i:=7) nd rfl d9) (cO (c_ 6 nd (cU oR (eR (a_ (cT ae hr (a_ (eR (a_ (pv 7) cG)) (a_ (fE (dI (pv 0) rfl) (pv 7)) (a_ (fE (pv 4) (pv 7)) (a_ (fE (pv 5) (pv 7)) (a_ (fE (pv 6) cI) cG)))))) cG)) (pv 6)))))
  (cO (cS (pv 6)))))))),?_⟩
 ac_rfl
 refine BY (λσ H'=>σ=[some (.ref a),some kv,some src,some sn,none,none,none,none]/\Same H H') ?_ (λNx aH=>?_);rotate_left
 . refine⟨_,rfl,a,c.ch,dx,_,_,rfl,ha,CT.ct,na,rfl,p,us,rfl,.inl (cM.of hp),rfl,_,rfl,dz (λcc=>?_) (λcc=>aH _ _ ⟨rfl,Same.refl H⟩)⟩;have e0:us.length=0:=by have:=of_decide_eq_true cc;injection this with this;omega
   have ew:ws=.nil:=by
    cases ws with
    |nil=>rfl
    |cons v r=>rw[e0] at aG;cases aG
   subst ew;unfold fh at hb
   cases hb;exact⟨_,rfl,_,rfl,kv,sn,k,s,f2,rfl,hk,hw.1,hs,hS,aE.mono (by omega),λH1 s1=>aH _ _ ⟨rfl,s1⟩⟩
 rintro σ H1 ⟨rfl,s1⟩;have a6:=s1 _ _ ha;refine⟨_,rfl,a,dx,_,rfl,a6,rfl,_,rfl,_,kv,ws,k,k',rfl,hW,VA.mono (VK.of s1) _ a4,hK.same s1,hb,λrk ks H2 dQ ax bu aI ay=>?_⟩;have aj:=hT.same s1;have aJ:=(VK.of s1).trans (VK.kp dQ aj);have aK:=aJ.ins ha;have aL:=jc dQ aj (s1 _ _ hp);have aw:=dM.mono aJ _ aF;have hd2:=fH (hd.same s1) dQ aj;have a7:=fH (hs.same s1) dQ aj;refine⟨_,rfl,a,c.ch,dx,_,_,rfl,aK,CT.ct,na,rfl,?_⟩;refine⟨1,rfl,-1,rfl,p,us,rfl,cM.of aL,λp3 a8=>?_⟩;rw[Je];have s3:=Same.new (o:=.lst (us.take (us.length - 1))) a8;have ai:=ax.same s3;have aV:=dM.mono (VK.of s3) _ aw;refine⟨_,rfl,_,rfl,p3,rk,src,ws,k,k',_,ks,dd,f1,rfl,⟨hW,hO,ai,hb⟩,cV,by rw[Q0n];omega,⟨by rw[Q0n];omega,λj u e=>aV.at (by rw[List.getElem?_take] at e;split at e;exact e;cases e)⟩,s3 _ _ aI,ay.mono (Tu.of s3),hd2.same s3,hF,λrs xs H4 af az bw a9 aA=>?_⟩;obtain⟨ba,aA⟩:=aA;rw[Q0n] at ba;have bb:=(VK.of s3).trans (VK.kp af ai);refine⟨_,rfl,gw,λq0 aM=>?_⟩;have s5:=Same.new (o:=.lst [sn]) aM;have ah:=az.same s5;have aB:=bb.trans (VK.of s5);have aN:=aB.ins aK;have aO:=s5 _ _ (jc af ai (s3 _ _ aL));have aW:=s5 _ _ (jc af ai (s3 _ _ aI));have be:=(fH (a7.same s3) af ai).same s5;have bf:=(ay.mono aB.tu);have aX:=dM.mono aB _ aw;refine⟨_,rfl,a,c.ch,dx,_,_,rfl,aN,CT.ct,na,rfl,p,us,rfl,.inl (cM.of aO),us.length,1,rfl,rfl,1,rfl,1,rfl,us.length,rfl,by omega,Im (lo:=(us.length:Int) - 1) (n:=us.length) (λi σ H'=>∃tl x ys,σ=[some (.ref a),some kv,some src,some sn,some (.ref rk),some (.ref rs),some (.ref tl),x]/\fj Pt (upd H4 q0 (.lst [sn])) H'/\dc Pt d_ eh H'/\H tl=none/\H' tl=some (.lst ys)/\p0 H' Tr (λj=>gq ws k dd s (us.length - i+j)) ys i) ?_ ?_ ?_⟩
 . refine⟨q0,_,[sn],rfl,Kp.refl _ _,ah,none_of s1 (jY dQ ax (none_of s3 (jY af az aM))),cV,rfl,λj u e=>?_⟩
   cases j with
   |zero=>
    cases e;refine fW.of (fp:=f2) ?_;show Own _ _ (gq ws k dd s (us.length - 0+0)) _;rw[show us.length - 0+0=ws.len by omega,IE];exact be
   |succ j=>cases e
 . intro i σ H' hi zq;obtain⟨tl,x,ys,rfl,kp,ak,_,ao,bg,aq⟩:=zq;have em:(us.length:Int) - 1 - (i:Int)=((us.length - 1 - i:Nat):Int):=by omega
   rw[em];generalize hm:us.length - 1 - i=mm;obtain⟨y,hy⟩:=jz (l:=us) (i:=mm) (by omega);obtain⟨uk,aP⟩:=jz (l:=ks) (i:=mm) (by have:=ay.1;omega);obtain⟨ux,aQ⟩:=jz (l:=xs) (i:=mm) (by omega);obtain⟨u0,aR⟩:=jz (l:=ys) (i:=0) (by omega);obtain⟨v,r,e1,hv⟩:=aX.at hy;have kj:=rK ws 0 k k' mm v r hb hO e1;obtain⟨g1,⟨M,m1,m2,m3⟩,g3⟩:=BL ws 0 k k' dd s N mm v r hb hO (by omega) hF hS a3 aE e1;obtain⟨fx,bj,_⟩:=aA mm ux aQ;obtain⟨f0,ar,_⟩:=aq 0 u0 aR;have ar:Own H' u0 (gq ws k dd s (us.length - i+0)) f0:=ar;rw[show us.length - i+0=mm+1 by omega] at ar;refine⟨_,rfl,gw,λp6 bo=>?_⟩;have s6:=Same.new (o:=.lst [.int mm]) bo;have aC:=(VK.kp kp ah).trans (VK.of s6);have aD:=ak.same s6;refine⟨_,rfl,a,c.ch,dx,_,_,rfl,aC.ins aN,CT.ct,na,rfl,_,rfl,p,us,mm,y,rfl,rfl,cM.of (s6 _ _ (jc kp ah aO)),fe hy,_,rfl,_,rfl,rk,ks,mm,uk,rfl,rfl,cM.of (s6 _ _ (jc kp ah aW)),fe aP,_,rfl,_,rfl,rs,xs,mm,ux,rfl,rfl,cM.of (s6 _ _ (jc kp ah (s5 _ _ a9))),fe aQ,_,rfl,tl,ys,0,u0,rfl,rfl,cM.of (s6 _ _ ao),fe aR,.ref p6,_,rfl,y,uk,ux,u0,v,eW ws mm k,eW ws (mm+1) k,gC ws mm dd,gq ws k dd s (mm+1),fx,f0,M,rfl,⟨by have:=kj.dp;omega,by have:=kj.sz;omega⟩,VA.mono aC v hv,⟨(bf.2 mm uk aP).mono aC.tu,kj.o,aD⟩,kj.bh,(fH (bj.same s5) kp ah).same s6,(vn ws 0 k k' dd mm v r hb hO hF e1).1,ar.same s6,g1,⟨m1,m2,by omega⟩,λu2 bp H7 au aS bq=>?_⟩;refine⟨gw,λp8 br=>?_⟩;have s8:=Same.new (o:=.lst [u2]) br;have aY:=jc au aD (s6 _ _ ao);refine⟨_,rfl,p8,tl,[u2],ys,rfl,rfl,cV,s8 _ _ aY,Q0t (eE (by show 1+ys.length<=1000;omega)),λp9 aU=>?_⟩;have s9:=Same.new (o:=.lst ([u2]++ys)) aU;have av:=s8.trans s9;refine⟨p9,_,[u2]++ys,rfl,kp.trans ((Kp.of s6).trans (au.trans (Kp.of av))),aS.same av,?_,cV,by show ys.length+1=_;omega,λj u e=>?_⟩
   . exact none_of s1 (jY dQ ax (none_of s3 (jY af az (none_of s5 (jY kp ak (none_of s6 (jY au aS (none_of s8 aU))))))))
   . cases j with
     |zero=>
      cases e;refine fW.of (fp:=bp) ?_;show Own _ _ (gq ws k dd s (us.length - (i+1)+0)) _;rw[show us.length - (i+1)+0=mm by omega,g3];exact bq.same av
     |succ j=>
      obtain⟨f,h1,_⟩:=aq j u e;have h1:Own H' u (gq ws k dd s (us.length - i+j)) f:=h1;refine fW.of (fp:=f) ?_;show Own _ _ (gq ws k dd s (us.length - (i+1)+(j+1))) _;rw[show us.length - (i+1)+(j+1)=us.length - i+j by omega];exact(fH (h1.same s6) au aD).same av
 . intro σ H' zq;obtain⟨tl,x,ys,rfl,kp,ak,aZ,ao,bg,aq⟩:=zq;refine⟨_,rfl,q tl ys H' ((Kp.of s1).trans (dQ.trans ((Kp.of s3).trans (af.trans ((Kp.of s5).trans kp))))) ak aZ ao ⟨by omega,λj u e=>?_⟩⟩;obtain⟨f,h1,_⟩:=aq j u e;have h1:Own H' u (gq ws k dd s (us.length - us.length+j)) f:=h1;rw[show us.length - us.length+j=j by omega] at h1;exact fW.of h1
theorem Jj(Z:cW es K mg)(aa:Om P w K mg base cH c.ch "put_row" XA (n+2) (B1 c Pt d)):Om P w K mg base cH c.ch "put" XA (n+3) (iD c Pt (λw k=>∃ws,w=.ch ws/\WD (d+1) w k)):=by
 refine Z.om (k:=n+2) XA (dU 26 3) λvs H Q E h=>?_;obtain⟨v,kv,src,sn,w,k,k',dd,s,f1,f2,N,rfl,⟨ws,rfl,hW⟩,hV,hK,hb,hd,hF,hs,hS,⟨ab,ae,hN⟩,q⟩:=h;refine⟨rfl,λql f ag A outer _ _ nd hr hu=>?_⟩;have af:=hV;unfold VA at hV;obtain⟨a,dx,p,us,rfl,ha,hp,ah,ai⟩:=hV;refine⟨_,(cO (cS (fE (iZ (pv 0) aa (hr.mono (by omega)) fG (a_ (pv 1) (a_ (pv 2) (a_ (pv 3) cG)))) cI))),?_⟩
 ac_rfl
 refine⟨_,rfl,a,dx,_,rfl,ha,rfl,_,rfl,_,rfl,_,rfl,_,kv,src,sn,ws,k,k',dd,s,f1,f2,N,rfl,hW,af,hK,jS hb,hd,hF,hs,hS,⟨ab,ae,by unfold Vw.pp at hN;exact hN⟩,λr xs H' kp hT _ hr hx=>?_⟩;obtain⟨hl,hx⟩:=hx;obtain⟨u,hu⟩:=jz (l:=xs) (i:=0) (by omega);obtain⟨f,ho,_⟩:=hx _ u hu;rw[IF] at ho;exact⟨r,xs,0,u,rfl,rfl,cM.of hr,fe hu,q u f H' kp hT (by unfold dE;exact ho)⟩
end
inductive B2 (c:CA) (W:Vw->Kd->Prop) (vs:List V) (H:Hp) (Q:V->Hp->Prop):Prop
 |mk (v:_) (x:_) (w:_) (k:_) (h0:vs=[v,.str x]) (h1:W w k) (h2:VA c H v w) (h3:∀H',Same H H'->Q (.bl (kps w x)) H'):B2 c W vs H Q
def gF (c:CA) (W:Vw->Kd->Prop):Sp:=λvs H Q _=>B2 c W vs H Q
noncomputable def mS:Vs->Str->List Bool
 | .nil,_=>[]
 | .cons v r,x=>kps v x::mS r x
theorem B3:∀(ws:Vs) (x:Str),(mS ws x).all id=lM ws x
 | .nil,x=>by unfold lM;rfl
 | .cons v r,x=>by
   unfold lM mS;rw[Q1y,B3 r x];rfl
theorem B4:∀(ws:Vs) (x:Str),(mS ws x).length=ws.len
 | .nil,x=>rfl
 | .cons v r,x=>congrArg (· +1) (B4 r x)
theorem B5:∀{ws:Vs}{x:Str}{j:Nat}{v:Vw}{r:Vs},ws.dr j=.cons v r->(mS ws x)[j]? =some (kps v x)/\v.nn<=ws.nn/\v.dp<=ws.dp
 | .nil,x,j,v,r,h=>by cases j <;> cases h
 | .cons v q,x,0,_,_,h=>by cases h;exact⟨rfl,by unfold Vs.nn;omega,by unfold Vs.dp;omega⟩
 | .cons v q,x,j+1,_,_,h=>by
   obtain⟨h1,h2,h3⟩:=B5 (ws:=q) (x:=x) (j:=j) h;exact⟨h1,by unfold Vs.nn;omega,by unfold Vs.dp;omega⟩
theorem Jk (Z:cW es K mg):Om P w K mg base cH c.vw "keeps" XE (1) (gF c (λw _=>w=.vw)):=by
 refine Z.om XE (dU 25 4) λvs H Q E h=>?_;obtain⟨v,x,w,k,rfl,rfl,hV,q⟩:=h;refine⟨rfl,λql f aa A outer s _ nd hr hu=>?_⟩;refine⟨_,(cO (cS f9)),?_⟩
 ac_rfl
 have:=q H (Same.refl _);unfold kps at this;exact this
theorem Jl (Z:cW es K mg):Om P w K mg base cH c.aT "keeps" XE (1) (gF c (λw _=>∃f,w=.aT f)):=by
 refine Z.om XE (dU 44 5) λvs H Q E h=>?_;obtain⟨v,x,w,k,rfl,⟨f,rfl⟩,hV,q⟩:=h;refine⟨rfl,λql _ aa A outer s _ nd hr hu=>?_⟩;refine⟨_,(cO (cS f9)),?_⟩
 ac_rfl
 have:=q H (Same.refl _);unfold kps at this;exact this
theorem p7:decide (V.str x=V.str y)=decide (x=y):=by
 by_cases e:x=y
 . rw[decide_eq_true e,decide_eq_true (by rw[e])]
 . rw[decide_eq_false e,decide_eq_false λz=>e (by injection z)]
theorem Jm (CT:CF K c.tk ["names"])(Z:cW es K mg):Om P w K mg base cH c.tk "keeps" XE (1) (gF c (λw _=>∃ss,w=.tk ss)):=by
 refine Z.om XE (dU 39 5) λvs H Q E h=>?_;obtain⟨v,x,w,k,rfl,⟨ss,rfl⟩,hV,q⟩:=h;refine⟨rfl,λql f aa A outer s _ nd hr hu=>?_⟩;unfold VA at hV;obtain⟨a,dx,p,rfl,ha,hp,ab⟩:=hV;refine⟨_,(cO (cS (fX qF (pv 1) (dI (pv 0) rfl) (by with_unfolding_all rfl)))),?_⟩
 ac_rfl
 refine⟨_,rfl,_,rfl,a,c.tk,dx,_,_,rfl,ha,CT.ct,CT.na "names" (by simp),rfl,p,_,rfl,.inl (cM.of hp),rfl,kR,?_⟩;have:=q H (Same.refl _);unfold kps at this;rw[<-iI] at this;exact this
theorem Jn (CT:CF K c.un ["field"])(Z:cW es K mg):Om P w K mg base cH c.un "keeps" XE (1) (gF c (λw _=>∃f,w=.un f)):=by
 refine Z.om XE (dU 42 4) λvs H Q E h=>?_;obtain⟨v,x,w,k,rfl,⟨f,rfl⟩,hV,q⟩:=h;refine⟨rfl,λql _ aa A outer s _ nd hr hu=>?_⟩;unfold VA at hV;obtain⟨a,dx,rfl,ha⟩:=hV;refine⟨_,(cO (cS (fX gH (pv 1) (dI (pv 0) rfl) (c9 _)))),?_⟩
 ac_rfl
 refine⟨_,rfl,_,rfl,a,c.un,dx,_,_,rfl,ha,CT.ct,CT.na "field" (by simp),rfl,rfl,?_⟩;have:=q H (Same.refl _);unfold kps at this;rw[<-p7] at this;exact this
theorem Jo(CT:CF K c.wi Xi)(Z:cW es K mg):Om P w K mg base cH c.wi "keeps" XE (1) (gF c (λw k=>∃f v,w=.wi f v/\WD d w k)):=by
 refine Z.om XE (dU 43 5) λvs H Q E h=>?_;obtain⟨v,x,w,k,rfl,⟨f,iv,rfl,_⟩,hV,q⟩:=h;refine⟨rfl,λql _ aa A outer s _ nd hr hu=>?_⟩;unfold VA at hV;obtain⟨a,dx,u,rfl,ha,_⟩:=hV;refine⟨_,(cO (cS (fX gH (pv 1) (dI (pv 0) rfl) (c9 _)))),?_⟩
 ac_rfl
 refine⟨_,rfl,_,rfl,a,c.wi,dx,_,_,rfl,ha,CT.ct,CT.na "field" (by simp),rfl,rfl,?_⟩;have:=q H (Same.refl _);unfold kps at this;rw[<-p7] at this;exact this
theorem Jp (CT:CF K c.rn X5)(Z:cW es K mg):Om P w K mg base cH c.rn "keeps" XE (1) (gF c (λw _=>∃o n,w=.rn o n)):=by
 refine Z.om XE (dU 40 4) λvs H Q E h=>?_;obtain⟨v,x,w,k,rfl,⟨o,n,rfl⟩,hV,q⟩:=h;refine⟨rfl,λql f aa A outer s _ nd hr hu=>?_⟩;unfold VA at hV;obtain⟨a,dx,rfl,ha⟩:=hV;refine⟨_,(cO (cS (jE (fX gH (pv 1) (dI (pv 0) rfl) (c9 _)) (j4 (fX gH (pv 1) (dI (pv 0) rfl) (c9 _)))))),?_⟩
 ac_rfl
 have:=q H (Same.refl _);unfold kps at this;rw[<-p7,<-p7] at this;refine⟨_,rfl,_,rfl,a,c.rn,dx,_,_,rfl,ha,CT.ct,CT.na "old" (by simp),rfl,rfl,_,rfl,dz (λcc=>?_) (λcc=>?_)⟩
 . have cc:(!decide (V.str x=V.str o))=true:=cc;rw[cc,Bool.true_and] at this;exact⟨_,rfl,_,rfl,a,c.rn,dx,_,_,rfl,ha,CT.ct,CT.na "new" (by simp),rfl,rfl,this⟩
 . have cc:(!decide (V.str x=V.str o))=false:=Bool.eq_false_iff.mpr cc;rw[cc,Bool.false_and] at this;exact this
theorem Jq (CT:CF K c.ne Xs)(Z:cW es K mg):Om P w K mg base cH c.ne "keeps" XE (1) (gF c (λw _=>∃ss y,w=.ne ss y)):=by
 refine Z.om XE (dU 41 4) λvs H Q E h=>?_;obtain⟨v,x,w,k,rfl,⟨ss,y,rfl⟩,hV,q⟩:=h;refine⟨rfl,λql f aa A outer s _ nd hr hu=>?_⟩;unfold VA at hV;obtain⟨a,dx,p,rfl,ha,hp,ab⟩:=hV;refine⟨_,(cO (cS (jE (fX qG (pv 1) (dI (pv 0) rfl) (by with_unfolding_all rfl)) (j4 (fX gH (pv 1) (dI (pv 0) rfl) (c9 _)))))),?_⟩
 ac_rfl
 have:=q H (Same.refl _);unfold kps at this;rw[<-p7,<-iI] at this;refine⟨_,rfl,_,rfl,a,c.ne,dx,_,_,rfl,ha,CT.ct,CT.na "names" (by simp),rfl,p,_,rfl,.inl (cM.of hp),rfl,kR,_,rfl,dz (λcc=>?_) (λcc=>?_)⟩
 . have cc:(!inV (V.str x) (ss.map V.str))=true:=cc;rw[cc,Bool.true_and] at this;exact⟨_,rfl,_,rfl,a,c.ne,dx,_,_,rfl,ha,CT.ct,CT.na "into" (by simp),rfl,rfl,this⟩
 . have cc:(!inV (V.str x) (ss.map V.str))=false:=Bool.eq_false_iff.mpr cc;rw[cc,Bool.false_and] at this;exact this
theorem Jr(B:MA P w K mg base c "keeps" jU (gF c) n d)(T:Tb mg)(CT:CF K c.ch ["steps"])(Z:cW es K mg):Om P w K mg base cH c.ch "keeps" XE (n+1) (gF c (λw k=>∃ws,w=.ch ws/\WD (d+1) w k)):=by
 refine Z.om (k:=n) XE (dU 26 5) λvs H Q E h=>?_;obtain⟨v,x,w,k,rfl,⟨ws,rfl,ag,hz⟩,hV,q⟩:=h;refine⟨rfl,λql f ak A outer s _ nd hr hu=>?_⟩;unfold VA at hV;obtain⟨a,dx,p,us,rfl,ha,hp,ao,ab⟩:=hV;unfold Vw.dp at ag;unfold Vw.nn at hz;have aq:=ab.len;have ar:=B4 ws x;refine⟨_,(cO (cS (dG (o5 rfl) (by rfl) T.pE boot_all (a_ (ib (g:=(eG 0)) (tt:=jk) (te:=(tM P w K mg base "keeps" jU (gF c) (n) (dF 0) (fA (dF 2) gU))) (own:=["step"]) rfl (gD (N:=XE) (sc:=eP (dU 26 5))) (k9 (dI (pv 0) rfl)) (λ_ _ _ _ _=>(dy (i:=0) (show(["step","self","name"]:List Str).Nodup by decide +kernel) rfl (Or.inl rfl) (.inr rfl))) (λ_ _ _ _ _=>kr) (λ_ _ _ _ _=>(iJ (m:="keeps") (ps:=jU) (sp:=(gF c)) (n:=n) (pv 0) (hr.mono (by omega)) (a_ (pv 2) cG)))) cG)))),?_⟩
 ac_rfl
 refine⟨_,rfl,a,c.ch,dx,_,_,rfl,ha,CT.ct,CT.na "steps" (by simp),rfl,p,rfl,⟨_,cM.of hp⟩,λi m ys H'=>Same H H'/\m=us.length - i/\i<=us.length/\ys=((mS ws x).take i).map V.bl,⟨us.length,Same.refl H,by simp,Q0c _,rfl⟩,?_⟩;rintro i m ys H' ⟨s1,rfl,hi,rfl⟩;by_cases ae:i<us.length
 . obtain⟨y,hy⟩:=jz ae;refine .inr ⟨⟨_,y,cM.of (s1 _ _ hp),hy⟩,by rw[Q01,Q0n];exact eE (by omega),λy2 H2 aa=>?_⟩;obtain⟨rfl,aa⟩:=aa;have ey:=aa _ (cM.of (s1 _ _ hp));rw[hy] at ey
   cases ey;obtain⟨v,r,e1,hv⟩:=ab.at hy;obtain⟨h1,h2,h3⟩:=B5 (x:=x) e1;obtain⟨W,G,hW⟩:=B v k ⟨by omega,by omega⟩;have af:=VA.mono (VK.of s1) v hv;obtain⟨a',ah,fs',rfl,ai,l1,l2,l3,l4,l5⟩:=af.cls;refine⟨rfl,yes (fo ?_)⟩;refine⟨W,_,G,_,rfl,a',ah,fs',rfl,ai,l4,_,rfl,_,x,v,k,rfl,hW,af,λH3 s3=>?_⟩;refine⟨us.length - (i+1),by omega,s1.trans s3,rfl,ae,?_⟩;rw[Q0p,h1,Q0h];rfl
 . have ei:i=us.length:=by omega
   subst ei;rw[Q0x (by omega)];refine .inl ⟨⟨_,cM.of (s1 _ _ hp),Q0 _⟩,λp3 aj=>⟨p3,_,rfl,cM.of cV,?_⟩⟩;have:=q _ (s1.trans (Same.new aj (o:=.lst ((mS ws x).map V.bl))));unfold kps at this;rw[<-B3] at this;exact this
theorem p_{mg:Str->Option Value}{sp:(Vw->Kd->Prop)->Sp}{n:Nat->Nat}(leaf:∀d v k,WD d v k->v.dp=0->∃W,MG P w K mg base m ps sp (n d) W (v.cl c)/\W v k)
 (wi:∀d,MA P w K mg base c m ps sp (n d) d->MG P w K mg base m ps sp (n (d+1)) (λw k=>∃f v,w=.wi f v/\WD (d+1) w k) c.wi)
 (ch:∀d,MA P w K mg base c m ps sp (n d) d->MG P w K mg base m ps sp (n (d+1)) (λw k=>∃ws,w=.ch ws/\WD (d+1) w k) c.ch):∀d,MA P w K mg base c m ps sp (n d) d
 |0,v,k,h=>leaf 0 v k h (Nat.le_zero.mp h.1)
 |d+1,v,k,h=>by
  have ih:=p_ leaf wi ch d
  cases v with
  |wi f v=>exact⟨_,wi d ih,f,v,rfl,h⟩
  |ch ws=>exact⟨_,ch d ih,ws,rfl,h⟩
  |vw=>exact leaf (d+1) _ k h (by unfold Vw.dp;rfl)
  |tk ss=>exact leaf (d+1) _ k h (by unfold Vw.dp;rfl)
  |rn o n=>exact leaf (d+1) _ k h (by unfold Vw.dp;rfl)
  |ne ss y=>exact leaf (d+1) _ k h (by unfold Vw.dp;rfl)
  |un f=>exact leaf (d+1) _ k h (by unfold Vw.dp;rfl)
  |aT f=>exact leaf (d+1) _ k h (by unfold Vw.dp;rfl)
theorem rO(h:WD d v k)(h0:v.dp=0)
 (vw:MG P w K mg base m ps sp n W1 c.vw) (tk:MG P w K mg base m ps sp n W2 c.tk) (rn:MG P w K mg base m ps sp n W3 c.rn) (ne:MG P w K mg base m ps sp n W4 c.ne) (un:MG P w K mg base m ps sp n W5 c.un) (aT:MG P w K mg base m ps sp n W6 c.aT)
 (h1:WD 0 .vw k->W1 .vw k) (h2:∀ss,WD 0 (.tk ss) k->W2 (.tk ss) k) (h3:∀o n,WD 0 (.rn o n) k->W3 (.rn o n) k) (h4:∀ss y,WD 0 (.ne ss y) k->W4 (.ne ss y) k) (h5:∀f,WD 0 (.un f) k->W5 (.un f) k) (h6:∀f,WD 0 (.aT f) k->W6 (.aT f) k):∃W,MG P w K mg base m ps sp n W (v.cl c)/\W v k:=by
 have h':WD 0 v k:=⟨by omega,h.2⟩
 cases v with
 |vw=>exact⟨_,vw,h1 h'⟩
 |tk ss=>exact⟨_,tk,h2 ss h'⟩
 |rn o n=>exact⟨_,rn,h3 o n h'⟩
 |ne ss y=>exact⟨_,ne,h4 ss y h'⟩
 |un f=>exact⟨_,un,h5 f h'⟩
 |aT f=>exact⟨_,aT,h6 f h'⟩
 |wi f v=>unfold Vw.dp at h0;cases h0
 |ch ws=>unfold Vw.dp at h0;cases h0
noncomputable def Rs (U:Addr->Prop) (H:Hp):Hp:=λe=>open Classical in if U e then H e else none
theorem jd(hu:U e)(h:H e=some o):Rs U H e=some o:=by unfold Rs;rw[if_pos hu];exact h
theorem B6(h:Rs U H e=some o):U e/\H e=some o:=by
 unfold Rs at h;split at h
 . rename_i hu;exact⟨hu,h⟩
 . cases h
theorem qa:Same (Rs U H) H:=λc o h=>(B6 h).2
theorem oj(h:∀e o,U e->H e=some o->U' e/\H' e=some o):Same (Rs U H) (Rs U' H'):=λc o q=>by
 obtain⟨h1,h2⟩:=B6 q;obtain⟨h3,h4⟩:=h c o h1 h2;exact jd h3 h4
theorem B7(s:Same H H'):Same (Rs U H) (Rs U H'):=oj λe o h1 h2=>⟨h1,s e o h2⟩
def Arg (c:CA) (HU H:Hp) (vs:List V):Vw->Prop
 | .vw=>False
 | .tk ss=>∃p,vs=[.ref p]/\H p=some (.lst (ss.map V.str))/\ss.length<=60
 | .rn o n=>vs=[.str o,.str n]
 | .ne ss y=>∃p,vs=[.ref p,.str y]/\H p=some (.lst (ss.map V.str))/\ss.length<=60
 | .un f=>vs=[.str f]
 | .wi f v=>∃u,vs=[.str f,u]/\VA c HU u v
 | .aT n=>vs=[.str n]
 | .ch ws=>∃p us,vs=[.ref p]/\H p=some (.lst us)/\us.length<=40/\dM c HU us ws
inductive B8 (c:CA) (W:Vw->Prop) (vs:List V) (H:Hp) (Q:V->Hp->Prop):Prop
 |mk (x:_) (dx:_) (args:_) (H0:_) (w:_) (U:_) (h0:vs=.ref x::args) (h1:W w) (h2:H0 x=none) (h3:Same H0 H) (h4:H x=some (.ins (w.cl c) dx [])) (h5:(∀e,H0 e=none->U e)) (h6:Arg c (Rs U H0) H0 args w) (h7:∀H',Same H0 H'->VA c (Rs U H') (.ref x) w->Q .non H'):B8 c W vs H Q
def gG (c:CA) (W:Vw->Prop):Sp:=λvs H Q _=>B8 c W vs H Q
theorem vq{U:Addr->Prop}{W:Vw->Prop}{w:Vw}{Q:V->Hp->Prop}(hW:W w)(hU:∀e,H e=none->U e)(ha:Arg c (Rs U H) H args w)(q:∀x H',H x=none->Same H H'->VA c (Rs U H') (.ref x) w->Q (.ref x) H'):∀x dx,H x=none->H dx=none->dx≠x->gG c W (.ref x::args) (upd (upd H dx (.own x)) x (.ins (w.cl c) dx [])) (λv H2=>v=.non/\Q (.ref x) H2) E:=by
 intro x dx hx hd hn;have h1:Same H (upd H dx (.own x)):=Same.new hd;have aa:upd H dx (.own x) x=none:=by rw[cQ (Ne.symm hn)];exact hx
 exact⟨x,dx,args,H,w,U,rfl,hW,hx,h1.trans (Same.new aa),cV,hU,ha,λH' s v=>⟨rfl,q x H' hx s v⟩⟩
theorem iL(h0:H0 x=none)(s:Same H0 H):Same H0 (upd H x o):=λc u h=>by rw[cQ (c6 h h0)];exact s c u h
theorem Js (T:Tb mg)(CT:CF K c.tk ["names"])(Z:cW es K mg):Om P w K mg base cH c.tk "__init__" YE (1) (gG c (λw=>∃ss,w=.tk ss)):=by
 refine Z.om YE (dU 39 0) λvs H Q E h=>?_;obtain⟨x,dx,args,H0,w,U,rfl,⟨ss,rfl⟩,h0,hs,hx,hU,⟨p,rfl,hp,ab⟩,q⟩:=h;refine⟨rfl,λql f ae A outer s _ nd hr hu=>?_⟩;refine⟨_,(cO (jF (pv 0) (jG qH (by rfl) T.lA boot_list (a_ (pv 1) cG)) rfl)),?_⟩
 ac_rfl
 refine⟨_,rfl,p,_,rfl,.inl (cM.of (hs _ _ hp)),λr aa=>?_⟩;refine⟨_,rfl,x,c.tk,dx,[],rfl,Same.new aa _ _ hx,CT.ct,CT.na "names" (by simp),by decide,?_⟩;refine q _ (iL h0 (hs.trans (Same.new aa))) ?_;unfold VA;exact⟨x,dx,r,rfl,jd (hU _ h0) cV,jd (hU _ (hs.free aa)) (by rw[cQ (c6 hx aa).symm];exact cV),ab⟩
theorem Jt (T:Tb mg)(CT:CF K c.ch ["steps"])(Z:cW es K mg):Om P w K mg base cH c.ch "__init__" X6 (1) (gG c (λw=>∃ws,w=.ch ws)):=by
 refine Z.om X6 (dU 26 0) λvs H Q E h=>?_;obtain⟨x,dx,args,H0,w,U,rfl,⟨ss,rfl⟩,h0,hs,hx,hU,⟨p,us,rfl,hp,ab,ae⟩,q⟩:=h;refine⟨rfl,λql f af A outer s _ nd hr hu=>?_⟩;refine⟨_,(cO (jF (pv 0) (jG qH (by rfl) T.lA boot_list (a_ (pv 1) cG)) rfl)),?_⟩
 ac_rfl
 refine⟨_,rfl,p,_,rfl,.inl (cM.of (hs _ _ hp)),λr aa=>?_⟩;refine⟨_,rfl,x,c.ch,dx,[],rfl,Same.new aa _ _ hx,CT.ct,CT.na "steps" (by simp),by decide,?_⟩;refine q _ (iL h0 (hs.trans (Same.new aa))) ?_;unfold VA;exact⟨x,dx,r,us,rfl,jd (hU _ h0) cV,jd (hU _ (hs.free aa)) (by rw[cQ (c6 hx aa).symm];exact cV),ab,dM.mono (.of (B7 (iL h0 (hs.trans (Same.new aa))))) _ ae⟩
theorem Ju (T:Tb mg)(CT:CF K c.rn X5)(Z:cW es K mg):Om P w K mg base cH c.rn "__init__" X_ (1) (gG c (λw=>∃o n,w=.rn o n)):=by
 refine Z.om X_ (dU 40 0) λvs H Q E h=>?_;obtain⟨x,dx,args,H0,w,U,rfl,⟨o,n,rfl⟩,h0,hs,hx,hU,rfl,q⟩:=h;refine⟨rfl,λql f aa A outer s _ nd hr hu=>?_⟩
 refine⟨_,(cK (jF (pv 0) (pv 1) rfl)
  (cO (jF (pv 0) (pv 2) rfl))),?_⟩
 ac_rfl
 refine⟨_,rfl,_,rfl,x,c.rn,dx,[],rfl,hx,CT.ct,CT.na "old" (by simp),by decide,?_⟩;refine⟨_,rfl,_,rfl,x,c.rn,dx,_,rfl,cV,CT.ct,CT.na "new" (by simp),by show 1<1000;decide,?_⟩;refine q _ (iL h0 (iL h0 hs)) ?_;unfold VA;exact⟨x,dx,rfl,jd (hU _ h0) cV⟩
theorem Jv (T:Tb mg)(CT:CF K c.ne Xs)(Z:cW es K mg):Om P w K mg base cH c.ne "__init__" X2 (1) (gG c (λw=>∃ss y,w=.ne ss y)):=by
 refine Z.om X2 (dU 41 0) λvs H Q E h=>?_;obtain⟨x,dx,args,H0,w,U,rfl,⟨ss,y,rfl⟩,h0,hs,hx,hU,⟨p,rfl,hp,ab⟩,q⟩:=h;refine⟨rfl,λql f ae A outer s _ nd hr hu=>?_⟩
 refine⟨_,(cK (jF (pv 0) (jG qH (by rfl) T.lA boot_list (a_ (pv 1) cG)) rfl)
  (cO (jF (pv 0) (pv 2) rfl))),?_⟩
 ac_rfl
 refine⟨_,rfl,p,_,rfl,.inl (cM.of (hs _ _ hp)),λr aa=>?_⟩;refine⟨_,rfl,x,c.ne,dx,[],rfl,Same.new aa _ _ hx,CT.ct,CT.na "names" (by simp),by decide,?_⟩;refine⟨_,rfl,_,rfl,x,c.ne,dx,_,rfl,cV,CT.ct,CT.na "into" (by simp),by show 1<1000;decide,?_⟩;refine q _ (iL h0 (iL h0 (hs.trans (Same.new aa)))) ?_;unfold VA;exact⟨x,dx,r,rfl,jd (hU _ h0) cV,jd (hU _ (hs.free aa)) (by rw[cQ (c6 hx aa).symm,cQ (c6 hx aa).symm];exact cV),ab⟩
theorem Jw (T:Tb mg)(CT:CF K c.un ["field"])(Z:cW es K mg):Om P w K mg base cH c.un "__init__" YF (1) (gG c (λw=>∃f,w=.un f)):=by
 refine Z.om YF (dU 42 0) λvs H Q E h=>?_;obtain⟨x,dx,args,H0,w,U,rfl,⟨o,rfl⟩,h0,hs,hx,hU,rfl,q⟩:=h;refine⟨rfl,λql f aa A outer s _ nd hr hu=>?_⟩;refine⟨_,(cO (jF (pv 0) (pv 1) rfl)),?_⟩
 ac_rfl
 refine⟨_,rfl,_,rfl,x,c.un,dx,[],rfl,hx,CT.ct,CT.na "field" (by simp),by decide,?_⟩;refine q _ (iL h0 hs) ?_;unfold VA;exact⟨x,dx,rfl,jd (hU _ h0) cV⟩
theorem Jx (T:Tb mg)(CT:CF K c.aT ["name"])(Z:cW es K mg):Om P w K mg base cH c.aT "__init__" XE (1) (gG c (λw=>∃f,w=.aT f)):=by
 refine Z.om XE (dU 44 0) λvs H Q E h=>?_;obtain⟨x,dx,args,H0,w,U,rfl,⟨o,rfl⟩,h0,hs,hx,hU,rfl,q⟩:=h;refine⟨rfl,λql f aa A outer s _ nd hr hu=>?_⟩;refine⟨_,(cO (jF (pv 0) (pv 1) rfl)),?_⟩
 ac_rfl
 refine⟨_,rfl,_,rfl,x,c.aT,dx,[],rfl,hx,CT.ct,CT.na "name" (by simp),by decide,?_⟩;refine q _ (iL h0 hs) ?_;unfold VA;exact⟨x,dx,rfl,jd (hU _ h0) cV⟩
theorem Jy (T:Tb mg)(CT:CF K c.wi Xi)(Z:cW es K mg):Om P w K mg base cH c.wi "__init__" X0 (1) (gG c (λw=>∃f v,w=.wi f v)):=by
 refine Z.om X0 (dU 43 0) λvs H Q E h=>?_;obtain⟨x,dx,args,H0,w,U,rfl,⟨o,n,rfl⟩,h0,hs,hx,hU,⟨u,rfl,hu⟩,q⟩:=h;refine⟨rfl,λql f aa A outer s _ nd hr _=>?_⟩
 refine⟨_,(cK (jF (pv 0) (pv 1) rfl)
  (cO (jF (pv 0) (pv 2) rfl))),?_⟩
 ac_rfl
 refine⟨_,rfl,_,rfl,x,c.wi,dx,[],rfl,hx,CT.ct,CT.na "field" (by simp),by decide,?_⟩;refine⟨_,rfl,_,rfl,x,c.wi,dx,_,rfl,cV,CT.ct,CT.na "inner" (by simp),by show 1<1000;decide,?_⟩;refine q _ (iL h0 (iL h0 hs)) ?_;unfold VA;exact⟨x,dx,u,rfl,jd (hU _ h0) cV,VA.mono (.of (B7 (iL h0 (iL h0 hs)))) _ hu⟩
end Pb
namespace Pb
open L2
inductive B9 (vs:List V) (H:Hp) (Q:V->Hp->Prop):Prop
 |mk (l:_) (m:_) (nm:List Str) (h0:vs=[.ref l,.int m]) (h1:H l=some (.lst (nm.map V.str))) (h2:nm.length<=60) (h3:(nm.map wt).sum<=20) (h4:0<=m) (h5:m<=2000000000) (h6:∀y:Str,y ∉ nm->Q (.str y) H):B9 vs H Q
def B_:Sp:=λvs H Q _=>B9 vs H Q
inductive Ca (K:W.Frag) (vs:List V) (H:Hp) (Q:V->Hp->Prop):Prop
 |mk (a:_) (b:_) (l:_) (ns:_) (n:_) (nm:List Str) (h0:vs=[.ref a,.ref b,.ref l]) (h1:G0 K H a b ns n) (h2:n+60<=1000000000000) (h3:H l=some (.lst (nm.map V.str))) (h4:l≠b) (h5:nm.Nodup) (h6:nm.length<=60) (h7:∀(p:Addr) (ss:List Str) (n':Int) (H':Hp),SB b H H'->H p=none->H' b=some (.lst [.int n'])->n<=n'->n'<=n+60->H' p=some (.lst (ss.map V.str))->ss.Nodup->(∀x∈ss,x∈nm)->ss.length<=60->Q (.ref p) H'):Ca K vs H Q
def Cb (K:W.Frag):Sp:=λvs H Q _=>Ca K vs H Q
variable {P:Program}{w:World}{K:W.Frag}{mg:Str->Option Value}{base:Heap}
noncomputable abbrev jZ (m:Int) (i:Nat):Str:=lt ((m+((0:Int)+(i:Int))) % 26)++lt (m / 26 % 26)
theorem Jz(hi:i<26)(hj:j<26)(h:jZ m i=jZ m j):i=j:=by
 have:=congrArg (λx:Str=>x.cps.toList) h;have this:[97+((m+((0:Int)+(i:Int))) % 26).toNat,97+(m / 26 % 26).toNat]=[97+((m+((0:Int)+(j:Int))) % 26).toNat,97+(m / 26 % 26).toNat]:=this;have h1:=(List.cons.inj this).1;omega
theorem Cc:∀nm:List Str,(nm.filter λx=>decide (wt x=1)).length<=(nm.map wt).sum
 |[]=>Q0 _
 |x::r=>by
  have:=Cc r;rw[Q0m,Q3n,Q0u];split
  . rename_i h;have:=of_decide_eq_true h;rw[Q0j];omega
  . omega
theorem JA(hi:i<26)(h:i≠((m / 26 % 26 - m) % 26).toNat):wt (jZ m i)=1:=by
 show(if 97+((m+((0:Int)+(i:Int))) % 26).toNat=97+(m / 26 % 26).toNat then 0 else 1)=1;rw[if_neg];omega
theorem JB {m:Int}{nm:List Str}(ab:(nm.map wt).sum<=20)(h:∀i,i<26->jZ m i∈nm):False:=by
 have nr:((List.range 26).erase ((m / 26 % 26 - m) % 26).toNat).Nodup:=List.nodup_range.erase _
 have mr:∀i∈(List.range 26).erase ((m / 26 % 26 - m) % 26).toNat,i<26/\i≠((m / 26 % 26 - m) % 26).toNat:=λi hi=>by
  have:=(Q35 (n:=26)).mem_erase_iff.mp hi;exact⟨List.mem_range.mp this.2,this.1⟩
 have:=nW (l:=((List.range 26).erase ((m / 26 % 26 - m) % 26).toNat).map (jZ m)) (m:=nm.filter λx=>decide (wt x=1)) (by
  rw[Q3j,Q1g];exact List.Pairwise.imp_of_mem (λ{i j} hi hj aa e=>aa (Jz (mr i hi).1 (mr j hj).1 e)) (List.nodup_iff_pairwise_ne.mp nr)) λx hx=>by
  obtain⟨i,hi,rfl⟩:=List.mem_map.mp hx;exact List.mem_filter.mpr ⟨h i (mr i hi).1,decide_eq_true (JA (mr i hi).1 (mr i hi).2)⟩
 rw[Q01] at this;have h2:=Cc nm
 have h3:25<=((List.range 26).erase ((m / 26 % 26 - m) % 26).toNat).length:=by
  have:=List.le_length_erase (l:=List.range 26) (a:=((m / 26 % 26 - m) % 26).toNat);rw[Q1p] at this;exact this
 omega
theorem JC (T:Tb mg)(Z:cW es K mg):Ok P w K mg base cH "_law_fresh" ["_law_names_here","_law_m"] (1) (B_):=by
 refine Z.ok X7 (top 58) λvs H Q E h=>?_;obtain⟨l,m,nm,rfl,hl,ae,ab,m0,m1,q⟩:=h;refine⟨rfl,λql f af A outer s _ nd hr hu=>?_⟩;have hz:(abc).length<=sizeLine:=by decide +kernel
 refine⟨_,(cK (c_ 2 nd d0)
  (cK (fR PassesOwn.never rfl (k_ rfl T.jP (a_ cI cG)) (dy (i:=3) nd rfl d9) (cK (c_ 4 nd (cU m_ (km mf (pv 2) (cU dH (cU gT (pv 1) (pv 3)) cI) (λ_ _=>rfl)) (km mf (pv 2) (cU dH (cU eZ (pv 1) cI) cI) (λ_ _=>rfl))))
  (cO (dq (di qG (pv 4) (pv 0) (by with_unfolding_all rfl)) (cO (cS (pv 4))) dt))))
  (cO (cS d0)))),?_⟩
 ac_rfl
 refine⟨_,rfl,by decide,by decide,ka (n:=26) (λi σ H'=>H'=H/\(∃y z,σ=[some (.ref l),some (.int m),some (.str abc),y,z])/\∀j,j<i->jZ m j∈nm) ⟨rfl,⟨_,_,rfl⟩,λj hj=>absurd hj (by omega)⟩ ?_ ?_⟩
 . rintro i σ H' hi ⟨rfl,⟨y,z,rfl⟩,aa⟩;have l1:0<=(m+((0:Int)+(i:Int))) % 26/\(m+((0:Int)+(i:Int))) % 26<26:=⟨Q0k _ (by decide),Q0l _ (by decide)⟩;have l2:0<=m / 26 % 26/\m / 26 % 26<26:=⟨Q0k _ (by decide),Q0l _ (by decide)⟩;refine⟨_,rfl,_,rfl,_,rfl,_,_,rfl,rfl,_,_,rfl,rfl,(by show(0:Int)<_;decide),_,_,_,rfl,rfl,hz,nH l1.1 l1.2,_,rfl,_,rfl,_,_,rfl,rfl,⟨by decide,by decide⟩,_,_,rfl,rfl,(by show(0:Int)<_;decide),_,_,_,rfl,rfl,hz,nH l2.1 l2.2,_,_,rfl,rfl,gx,?_⟩;refine⟨_,rfl,_,rfl,l,_,rfl,.inl (cM.of hl),rfl,kR,_,rfl,dz (λcc=>?_) (λcc=>?_)⟩
   . refine⟨_,rfl,q (jZ m i) (λz=>?_)⟩;have cc:(!inV (V.str (jZ m i)) (nm.map V.str))=true:=cc;rw[iI,decide_eq_true z] at cc
     cases cc
   . have e:jZ m i∈nm:=Classical.byContradiction λz=>cc (show(!inV (V.str (jZ m i)) (nm.map V.str))=true by rw[iI,decide_eq_false z];rfl);refine⟨rfl,⟨_,_,rfl⟩,λj hj=>?_⟩;by_cases ej:j<i
     . exact aa j ej
     . have:j=i:=by omega
       subst this;exact e
 . rintro σ H' ⟨rfl,_,aa⟩;exact(JB ab λi hi=>aa i hi).elim
theorem JD (T:Tb mg)(Z:cW es K mg)(aa:Ok P w K mg base cH "_law_next" XD (1) (kE K)):Ok P w K mg base cH "_law_some" YM (2) (Cb K):=by
 refine Z.ok Xx (top 59) λvs H Q E h=>?_;obtain⟨a,b,l,ns,n,nm,rfl,g,hn,hl,ao,aq,au,q⟩:=h;refine⟨rfl,λql f av A outer s _ nd hr hu=>?_⟩
 refine⟨_,(cK (c_ 3 nd (eR cG))
  (cK (fR PassesOwn.never rfl (k9 (pv 2)) (dy (i:=4) nd rfl d9) (cK (c_ 5 nd (cT aa hr (a_ (pv 0) (a_ (pv 1) cG))))
  (cO (dq (di m7 (cU dH (pv 5) cI) cI (c9 _)) (cO (ft (jI PySem.F.plainAttrs_list PySem.F.slot_list_insert PySem.F.type_list_insert FP (pv 3) (a_ (cU dH (cU eZ (pv 5) cI) (cU gT (dG fC (by rfl) T.eT PySem.boot_len (a_ (pv 3) cG)) cI)) (a_ (pv 4) cG))))) dt))))
  (cO (cS (pv 3))))),?_⟩
 ac_rfl
 refine⟨nK,λp hp=>?_⟩;have s0:Same H (upd H p (.lst [])):=Same.new hp;have ah:b≠p:=c6 g.at_ hp;refine⟨_,rfl,l,rfl,⟨_,cM.of (s0 _ _ hl)⟩,sE (xs:=nm.map V.str) (λi σ H'=>∃(x y:Option V) (ss:List Str),σ=[some (.ref a),some (.ref b),some (.ref l),some (.ref p),x,y]/\SB b H H'/\H' b=some (.lst [.int (n+i)])/\H' p=some (.lst (ss.map V.str))/\ss.Nodup/\(∀x∈ss,x∈nm.take i)/\ss.length<=i) ?_ ?_ ?_ ?_⟩
 . exact⟨_,_,[],rfl,SB.of s0,by rw[cQ ah];simpa using g.at_,cV,Q0s,(λx h=>nomatch h),Q0 _⟩
 . intro i σ H' _ zq;obtain⟨x,y,ss,rfl,sb,_⟩:=zq;exact cM.of (sb _ _ ao hl)
 . intro i v σ H' hv zq;obtain⟨x,y,ss,rfl,sb,ae,ai,af,ab,aj⟩:=zq;obtain⟨z,hz,rfl⟩:=u7 hv;have hi:i<nm.length:=(List.getElem?_eq_some_iff.mp hz).1;have ar:nm[i]=z:=(List.getElem?_eq_some_iff.mp hz).2;refine⟨_,rfl,_,rfl,a,b,ns,n+i,rfl,g.go sb ae (by omega),by omega,λr H1 r0 r1 s1 h1=>?_⟩;have ag:=s1 p _ (Ne.symm ah) ai;have e1:n+(i:Int)+1=n+((i+1:Nat):Int):=by omega
   rw[e1] at h1
   have ak:z ∉ ss:=λhm=>by
    obtain⟨j,hj,e⟩:=Q0z (ab z hm);rw[Q0n] at hj;rw[Q22] at e;exact absurd (e.trans ar.symm) (List.pairwise_iff_getElem.mp aq j i (by omega) hi (by omega))
   refine⟨_,rfl,_,_,rfl,rfl,(by show(0:Int)<_;decide),_,_,rfl,rfl,_,rfl,dz (λc=>?_) (λc=>?_)⟩
   . have aw:((ss.map V.str).length:Int)=(ss.length:Int):=by rw[Q01]
     refine⟨_,rfl,.inl ⟨rfl,_,cM.of ag⟩,_,rfl,_,_,rfl,rfl,⟨by decide,by decide⟩,_,rfl,p,_,rfl,.inl (cM.of ag),_,_,rfl,rfl,_,_,rfl,rfl,by omega,_,rfl,p,_,_,_,rfl,rfl,ag,?_,?_,?_,?_⟩
     . exact Q0k _ (by omega)
     . have:=Q0l (r / 3) (show(0:Int)<((ss.map V.str).length:Int)+1 by omega);omega
     . rw[Q01];exact eE (by omega)
     . generalize (r / 3 % (((ss.map V.str).length:Int)+1)).toNat=zz
       have eq:(ss.map V.str).take zz++V.str z::(ss.map V.str).drop zz=(ss.take zz++z::ss.drop zz).map V.str:=by
        rw[Q0h,Q0m,List.map_take,List.map_drop]
       have pm:(ss.take zz++z::ss.drop zz).Perm (z::ss):=by
        refine List.perm_middle.trans ?_;rw[Q3o]
       refine⟨_,_,ss.take zz++z::ss.drop zz,rfl,λc o hc e=>?_,?_,?_,pm.nodup_iff.mpr (List.nodup_cons.mpr ⟨ak,af⟩),λx hx=>?_,?_⟩
       . rw[cQ (c6 e hp)];exact s1 c o hc (sb c o hc e)
       . rw[cQ ah];exact h1
       . rw[cV,eq]
       . rw[Q0p,hz];rcases List.mem_cons.mp (pm.mem_iff.mp hx) with e|e
         . rw[e];exact Q07 _ (by simp)
         . exact Q0o _ (ab x e)
       . rw[pm.length_eq,Q0j];omega
   . exact⟨_,_,ss,rfl,sb.trans s1,h1,ag,af,λx hx=>by rw[Q0p];exact Q0o _ (ab x hx),by omega⟩
 . intro σ H' zq;obtain⟨x,y,ss,rfl,sb,ae,ai,af,ab,aj⟩:=zq;rw[Q01] at ae ab aj;rw[Q1r] at ab;exact⟨_,rfl,q p ss _ H' sb hp ae (by omega) (by omega) ai af ab (by omega)⟩
theorem JE(h:cJ K H l xs)(s:Same H H'):cJ K H' l xs:=by
 rcases h with(h|⟨o,h⟩)|h
 . exact .inl (.inl (s _ _ h))
 . exact .inl (.inr ⟨o,s _ _ h⟩)
 . exact .inr h
theorem JF {te:TE}{D:Ends}(h:te σ H D.rt):sr te D σ H:=h
theorem JG(h:te σ H λx H1=>r [x] H1 Q):sU r (fA te gU) σ H Q:=h
theorem rP {te:TE}{g:TG}{B:TS}{D:Ends}(h:te σ H λv H1=>g v σ H1 (B D)):qt (m4 te g) B D σ H:=h
theorem Cd {ta tb:TE}{Q:V->Hp->Prop}(h:ta σ H λx H1=>tb σ H1 λy H2=>r x y H2 Q):d6 r ta tb σ H Q:=h
structure jA (J:It) (H:Hp) (xs:List V):Prop where
 go:∀i,i<xs.length->J.go i H
 yl:∀i x H',J.iP i H x H'->H'=H/\xs[i]? =some x
 st:∀i,xs.length<=i->J.stop i H
theorem jA.tup(h:cJ K H a xs):jA (j9 K a) H xs:=
 ⟨λi hi=>⟨xs,xs[i],h,Q03 hi⟩,λi x H' y=>⟨y.1,y.2 xs h⟩,λi hi=>⟨xs,h,hi⟩⟩
theorem jA.lst(h:cM K H a xs):jA (lW K a) H xs:=
 ⟨λi hi=>⟨xs,xs[i],h,Q03 hi⟩,λi x H' y=>⟨y.1,y.2 xs h⟩,λi hi=>⟨xs,h,hi⟩⟩
theorem Ce {α β:Type}{R:α->β->Prop}:∀{xs:List α}{zs:List β}{i:Nat}{x:α},Paired R xs zs->xs[i]? =some x->∃z,zs[i]? =some z/\R x z
 |_,_,i,x,.nil,e=>by simp at e
 |_,_,0,x,.cons h r,e=>by cases e;exact⟨_,rfl,h⟩
 |_,_,i+1,x,.cons h r,e=>Ce (i:=i) r e
theorem Cf {α β:Type}{R:α->β->Prop}:∀{xs:List α}{zs:List β},Paired R xs zs->xs.length=zs.length
 |_,_,.nil=>rfl
 |_,_,.cons _ r=>congrArg (· +1) (Cf r)
theorem rQ {β:Type}{Q:V->Hp->Prop}{zs:List β}{R:V->β->Prop}(hw:∀R:It->Hp->Prop,R J H->wi σ H R)(hJ:jA J H xs)(hp:Paired R xs zs)(h9:zs.length<=900)(f:β->Option V)
 (hb:∀x z,R x z->z∈zs->∀(A:V->Hp->Prop) (B:Hp->Prop),(∀y,f z=some y->A y H)->(f z=none->B H)->g x (List.replicate k none++σ) H λaa H2=>aa.drop k=σ/\tt aa H2 λb H3=>if b=true then te aa H3 A else B H3)
 (q:∀p,H p=none->Q (.ref p) (upd H p (.lst (zs.filterMap f)))):
 qM k wi g tt te σ H Q:=by
 refine hw _ ?_;have hl:=Cf hp;refine⟨λi m ys H'=>H'=H/\m=xs.length - i/\i<=xs.length/\ys=(zs.take i).filterMap f,⟨xs.length,rfl,by simp,Q0c _,rfl⟩,?_⟩;rintro i m ys H' ⟨rfl,rfl,hi,rfl⟩;by_cases ab:i<xs.length
 . refine .inr ⟨hJ.go i ab,eE (by have:=List.length_filterMap_le f (zs.take i);rw[Q0n] at this;omega),λx H2 y=>?_⟩;obtain⟨rfl,hx⟩:=hJ.yl i x H2 y;obtain⟨z,hz,hR⟩:=Ce hp hx;refine hb x z hR (Q16 hz) _ _ (λy hy=>⟨xs.length - (i+1),by omega,rfl,rfl,ab,?_⟩) (λhn=>⟨xs.length - (i+1),by omega,rfl,rfl,ab,?_⟩)
   . rw[Q0p,hz,Q3p];show _=_++List.filterMap f [z];rw[Q13,hy];rfl
   . rw[Q0p,hz,Q3p];show _=_++List.filterMap f [z];rw[Q13,hn];show _=_++[];rw[Q19]
 . refine .inl ⟨hJ.st i (by omega),λp ae=>?_⟩;rw[Q0x (by omega)];exact q p ae
noncomputable abbrev Z3:=V × V × NK
def P3 (H:Hp) (v:V) (z:Z3):Prop:=v=z.1/\∃c,z.1=.ref c/\H c=some (.tup [.str z.2.2.1,z.2.1])/\KA H z.2.1 z.2.2.2
theorem FL.z3:∀{xs:List V}{l:List NK},FL H xs l->∃zs:List Z3,Paired (P3 H) xs zs/\zs.map (·.2.2)=l
 |_,_,.nil=>⟨[],.nil,rfl⟩
 |_,_,.cons (a:=v) (b:=p) h r=>by
  obtain⟨zs,h1,h2⟩:=FL.z3 r;obtain⟨c,u,e,hc,hk⟩:=h;exact⟨(v,u,p)::zs,.cons ⟨rfl,c,e,hc,hk⟩ h1,by rw[Q0m,h2]⟩
theorem JH {zs:List Z3}(b:Str->Bool):(zs.filterMap λz=>if b z.2.2.1=true then some (V.str z.2.2.1) else none)=((cR (zs.map (·.2.2))).filter b).map V.str:=by
 induction zs with
 |nil=>rfl
 |cons p r ih=>
  show List.filterMap _ (p::r)=(List.filter b (p.2.2.1::cR (r.map (·.2.2)))).map V.str;rw[Q13,Q0u];by_cases e:b p.2.2.1=true
  . rw[if_pos e,if_pos e];show _::_=_::_;rw[ih]
  . rw[if_neg e,if_neg e];exact ih
theorem Cg (x:Str):∀l:List NK,(cR l).filter (λy=> !decide (y=x))=cR (bt [x] l)
 |[]=>rfl
 |p::r=>by
  show List.filter _ (p.1::cR r)=_;have ih:=Cg x r;unfold bt at ih ⊢;rw[Q0u,Q0u];by_cases e:p.1=x
  . rw[if_neg (by simp[e]),if_neg (by simp[e])];exact ih
  . rw[if_pos (by simp[e]),if_pos (by simp[e])];show _::_=_::_;rw[ih];rfl
theorem JI(hp:Paired (P3 H) xs zs)(h:cZ (zs.map (·.2.2)) x=some k):∃u,(zs.filterMap λz=>if z.2.2.1=x then some z.2.1 else none)[0]? =some u/\KA H u k:=by
 induction hp with
 |nil=>cases h
 |@cons v z r rs hz _ ih=>
  rw[Q0m,lD] at h;rw[Q13];by_cases e:z.2.2.1=x
  . rw[if_pos e] at h ⊢
    cases h;obtain⟨_,c,_,_,hk⟩:=hz;exact⟨z.2.1,rfl,hk⟩
  . rw[if_neg e] at h ⊢;exact ih h
inductive Ci (K:W.Frag) (vs:List V) (H:Hp) (Q:V->Hp->Prop):Prop
 |mk (t:_) (x:_) (xs:_) (l:_) (k:_) (h0:vs=[.ref t,.str x]) (h1:cJ K H t xs) (h2:FL H xs l) (h3:l.length<=60) (h4:(cR l).Nodup) (h5:cZ l x=some k) (h6:k.sz<=60) (h7:∀(b:Bool) (H':Hp),Same H H'->(b=true->∃g,du k=some g/\∀y∈cR g,y ∉ cR (bt [x] l))->Q (.bl b) H'):Ci K vs H Q
def Cj (K:W.Frag):Sp:=λvs H Q _=>Ci K vs H Q
theorem JJ (T:Tb mg)(Z:cW es K mg):Ok P w K mg base cH "_law_loose" Xn (1) (Cj K):=by
 refine Z.ok XO (top 60) λvs H Q E h=>?_;obtain⟨t,x,xs,l,k,rfl,ht,hl,ax,ay,hk,hsz,q⟩:=h;refine⟨rfl,λql f az A outer s _ nd hr hu=>?_⟩
 refine⟨_,(cK (c_ 2 nd (fE (ib (g:=(eG 0)) (tt:=(iG (d6 l7 (d6 (gm K) (dF 0) (tC (.int 0))) (dF 2)))) (te:=(d6 (gm K) (dF 0) (tC (.int 1)))) (own:=["_law_pair"]) rfl (gD (N:=XO) (sc:=eP (top 60))) (gR (pv 0)) (λ_ _ _ _ _=>(dy (i:=0) (show(XW:List Str).Nodup by decide +kernel) rfl (Or.inl rfl) (.inr rfl))) (λ_ _ _ _ _=>(ku (di dO (cX (pv 0) cI) (pv 2) (c9 _)))) (λ_ _ _ _ _=>(cX (pv 0) cI))) cI))
  (cK (dq (di gH (cX (pv 2) cI) d0 (c9 _)) (cO (cS f9)) dt)
  (cK (Gw 3 nd (ib (g:=(eG 0)) (tt:=(iG (d6 _ (d6 (gm K) (dF 0) (tC (.int 0))) (dF 2)))) (te:=(d6 (gm K) (dF 0) (tC (.int 0)))) (own:=["_law_pair"]) rfl (gD (N:=XO) (sc:=eP (top 60))) (gR (pv 0)) (λ_ _ _ _ _=>(dy (i:=0) (show(XW:List Str).Nodup by decide +kernel) rfl (Or.inl rfl) (.inr rfl))) (λ_ _ _ _ _=>(ku (di gH (cX (pv 0) cI) (pv 2) (c9 _)))) (λ_ _ _ _ _=>(cX (pv 0) cI))))
  (cO (cS (fX dO (dG fC (by rfl) T.eT PySem.boot_len (a_ (ib (g:=(eG 0)) (tt:=(iG (d6 (mh K false) (d6 (gm K) (dF 0) (tC (.int 0))) (dF 4)))) (te:=(dF 0)) (own:=["_law_pair"]) rfl (gD (N:=XO) (sc:=eP (top 60))) (gR (cX (pv 2) cI)) (λ_ _ _ _ _=>(dy (i:=0) (show(XW:List Str).Nodup by decide +kernel) rfl (Or.inl rfl) (.inr rfl))) (λ_ _ _ _ _=>(ku (di qF (cX (pv 0) cI) (pv 4) (by with_unfolding_all rfl)))) (λ_ _ _ _ _=>(pv 0))) cG)) cI (c9 _))))))),?_⟩
 ac_rfl
 obtain⟨zs,hz,ez⟩:=hl.z3;have zl:zs.length=l.length:=by rw[<-ez,Q01]
 refine rP (Cd ?_);refine rQ (λR h=>⟨_,rfl,t,rfl,⟨_,ht⟩,h⟩) (jA.tup ht) hz (by omega) (λz=>if z.2.2.1=x then some z.2.1 else none) ?_ (λp hp=>?_)
 . rintro v z ⟨rfl,c,ec,hc,hk⟩ _ A B hA hB;refine⟨rfl,_,rfl,c,_,_,_,ec,rfl,cJ.of hc,rfl,_,rfl,rfl,_,rfl,dz (λcc=>?_) (λcc=>?_)⟩
   . have e:z.2.2.1=x:=by have:=of_decide_eq_true cc;injection this
     exact⟨_,rfl,c,_,_,_,ec,rfl,cJ.of hc,rfl,hA _ (if_pos e)⟩
   . exact hB (if_neg λe=>cc (decide_eq_true (by rw[e])))
 obtain⟨u,hu,ai⟩:=JI hz (by rw[ez];exact hk);have s1:=Same.new (o:=.lst (zs.filterMap λz=>if z.2.2.1=x then some z.2.1 else none)) hp;have aa:=ai.mono (Tu.of s1);refine⟨p,_,0,u,rfl,rfl,cM.of cV,fe hu,?_⟩
 cases er:du k with
 |none=>
  obtain⟨c',f,rest,rfl,h4,hf⟩:=aa.other er;refine⟨_,rfl,c',_,_,_,rfl,rfl,cJ.of h4,fe (j:=0) rfl,rfl,_,rfl,dz (λ_=>?_) (λcc=>?_)⟩
  . exact q false _ s1 (λz=>by cases z)
  . exact absurd (show(!decide (V.str f=V.str "record"))=true by rw[decide_eq_false (λz=>hf (by injection z))];rfl) cc
 |some g=>
  obtain⟨c',t',ys,rfl,h4,h5,h6⟩:=aa.ig er;refine⟨_,rfl,c',_,_,_,rfl,rfl,cJ.of h4,fe (j:=0) rfl,rfl,_,rfl,dz (λcc=>absurd cc (by decide +kernel)) (λ_=>?_)⟩;have ab:=JE ht s1;obtain⟨aj,ak,ae⟩:=(hl.mono (Tu.of s1)).z3;have aA:aj.length=l.length:=by rw[<-ae,Q01]
  dsimp only[mZ,k8,eG];refine rP ?_;refine rQ (λR h=>⟨_,rfl,t,rfl,⟨_,ab⟩,h⟩) (jA.tup ab) ak (by omega) (λz=>if(!decide (z.2.2.1=x))=true then some (.str z.2.2.1) else none) ?_ (λp2 ao=>?_)
  . rintro v z ⟨rfl,c,ec,hc,hk⟩ _ A B hA hB;refine⟨rfl,_,rfl,c,_,_,_,ec,rfl,cJ.of hc,rfl,_,rfl,rfl,_,rfl,dz (λcc=>?_) (λcc=>?_)⟩
    . have e:z.2.2.1≠x:=λe=>by rw[decide_eq_true (show V.str z.2.2.1=V.str x by rw[e])] at cc;cases cc
      exact⟨_,rfl,c,_,_,_,ec,rfl,cJ.of hc,rfl,hA _ (if_pos (by rw[decide_eq_false e];rfl))⟩
    . refine hB (if_neg λe=>cc ?_);have e:z.2.2.1≠x:=λz=>by rw[decide_eq_true z] at e;cases e
      rw[decide_eq_false (λz=>e (by injection z))];rfl
  rw[JH (λy=> !decide (y=x)),ae,Cg];have s2:=Same.new (o:=.lst ((cR (bt [x] l)).map V.str)) ao;have aq:=s2 _ _ h4;have af:=s2 _ _ h5;obtain⟨ag,ar,ah⟩:=(h6.mono (Tu.of s2)).z3
  have gl:g.length<=60:=by
   have:=jt g
   cases k with
   |c8 fs=>
    cases er;unfold Kd.sz at hsz;rw[<-pL] at hsz;omega
   |_=>cases er
  have aB:ag.length=g.length:=by rw[<-ah,Q01]
  dsimp only[k8,eG];refine JF (Cd (JG ?_));refine rQ (J:=j9 K t') (λR h=>⟨_,rfl,c',_,_,_,rfl,rfl,cJ.of aq,rfl,t',rfl,⟨_,cJ.of af⟩,h⟩) (jA.tup (cJ.of af)) ar (by omega) (λz=>if z.2.2.1∈cR (bt [x] l) then some z.1 else none) ?_ (λp3 au=>?_)
  . rintro v z ⟨rfl,c,ec,hc,hk⟩ _ A B hA hB;refine⟨rfl,_,rfl,c,_,_,_,ec,rfl,cJ.of hc,rfl,_,rfl,p2,_,rfl,.inl (cM.of cV),rfl,kR,_,rfl,?_⟩;rw[show inV (V.str z.2.2.1) ((cR (bt [x] l)).map V.str)=decide (z.2.2.1∈cR (bt [x] l)) from iI];refine dz (λcc=>?_) (λcc=>?_)
    . exact⟨_,rfl,hA _ (if_pos (of_decide_eq_true cc))⟩
    . exact hB (if_neg λe=>cc (decide_eq_true e))
  . refine⟨p3,_,rfl,.inl (cM.of cV),rfl,q _ _ ((s1.trans s2).trans (Same.new au)) λhb=>⟨g,er,λy hy av=>?_⟩⟩;have hb:=of_decide_eq_true hb;injection hb with hb
    rw[<-ah] at hy;unfold cR at hy;rw[Q0q] at hy;obtain⟨z,aw,rfl⟩:=List.mem_map.mp hy;have:z.1∈ag.filterMap (λz=>if z.2.2.1∈cR (bt [x] l) then some z.1 else none):=List.mem_filterMap.mpr ⟨z,aw,if_pos av⟩;have:=Q3l this;omega
theorem Ck(hn:ss.Nodup)(h:∀x∈ss,x∈cR l):once ss l=true:=by
 unfold once;rw[decide_eq_true hn,Bool.true_and,Q10];intro x hx;rw[rg];exact decide_eq_true (h x hx)
theorem JK(e:du k=some l)(hn:ss.Nodup)(h:∀x∈ss,x∈cR l):∃k',bh (.tk ss) k=.inr k':=by
 unfold bh;rw[e];exact⟨_,if_pos (Ck hn h)⟩
theorem JL(e:du k=some l)(hx:cZ l x=some q)(hy:y ∉ cR l):∃k',bh (.rn x y) k=.inr k':=by
 unfold bh;rw[e];show ∃k',(match cZ l x with|some q=>(if(cZ l y).isSome=true then .inl [] else .inr (dP (bt [x] l++[(y,q)])))|none=>Sum.inl []:Res)=_;rw[hx];exact⟨_,if_neg (by rw[mE.mpr hy];decide)⟩
theorem Cm(e:du k=some l)(hn:ss.Nodup)(h:∀x∈ss,x∈cR l)(hy:y ∉ cR l\/y∈ss):∃k',bh (.ne ss y) k=.inr k':=by
 unfold bh;rw[e]
 have:cZ (bt ss l) y=none:=mE.mpr λz=>by
  have:=f7.mp z;exact hy.elim (λh=>h this.1) λh=>this.2 h
 exact⟨_,(if_pos (Ck hn h)).trans (if_neg (by rw[this];decide))⟩
theorem JM(e:du k=some l)(hx:cZ l x=some q)(eg:du q=some g)(hd:∀y∈cR g,y ∉ cR (bt [x] l)):∃k',bh (.un x) k=.inr k':=by
 unfold bh;rw[e];show ∃k',(match(cZ l x).bind du with|some g=>(if(dW (cR g) (bt [x] l)).length=0 then .inr (dP (bt [x] l++g)) else .inl [])|none=>Sum.inl []:Res)=_;rw[hx];show ∃k',(match du q with|some g=>(if(dW (cR g) (bt [x] l)).length=0 then .inr (dP (bt [x] l++g)) else .inl [])|none=>Sum.inl []:Res)=_;rw[eg];refine⟨_,if_pos ?_⟩
 cases ez:dW (cR g) (bt [x] l) with
 |nil=>rfl
 |cons p r=>
  have:p.1∈cR (dW (cR g) (bt [x] l)):=by rw[ez];exact Q04
  have:=lE.mp this;exact absurd this.1 (hd _ this.2)
theorem JN(e:du k=some l)(hx:cZ l x=some q):bh (.aT x) k=.inr q:=by
 unfold bh;rw[e];show(match cZ l x with|some q=>.inr q|none=>Sum.inl []:Res)=_;rw[hx]
theorem Cn(e:du k=some l)(hx:cZ l x=some q)(hv:bh v q=.inr q'):∃k',bh (.wi x v) k=.inr k':=by
 unfold bh;rw[e];show ∃k',(match cZ l x with|some q=>(match bh v q with| .inl w=>.inl (.inr x::w)| .inr s=>.inr (dP (bt [x] l++[(x,s)])))|none=>Sum.inl []:Res)=_;rw[hx];show ∃k',(match bh v q with| .inl w=>.inl (.inr x::w)| .inr s=>.inr (dP (bt [x] l++[(x,s)])):Res)=_;rw[hv];exact⟨_,rfl⟩
theorem Co {l:List NK}(hn:(cR l).Nodup){i:Nat}{p:NK}(h:l[i]? =some p):cZ l p.1=some p.2:=by
 refine rj (λj q hj hq e=>?_) h rfl;have h1:(cR l)[j]? =some q.1:=by unfold cR;rw[Q0g,hq];rfl
 have h2:(cR l)[i]? =some p.1:=by unfold cR;rw[Q0g,h];rfl
 have:=qk hn (x:=p.1) (by rw[h1,e]) h2;omega
def KB (b Pt:Addr) (H H':Hp):Prop:=Kp (λc=>c=b\/c=Pt) H H'
theorem KB.sb(s:SB b H H'):KB b Pt H H':=λc o hc h=>s c o (λz=>hc (.inl z)) h
theorem KB.kp(s:fj Pt H H'):KB b Pt H H':=λc o hc h=>s c o (λz=>hc (.inr z)) h
theorem KB.of(s:Same H H'):KB b Pt H H':=KB.kp (Kp.of s)
theorem KB.trans(x:KB b Pt H H1)(y:KB b Pt H1 H2):KB b Pt H H2:=Kp.trans x y
theorem KB.vk(x:KB b Pt H H')(hb:H b=some (.lst [.int n]))(hT:dc Pt d_ eh H):VK H H':=λc o h1 h2 e=>by
 obtain⟨ps,hP⟩:=hT.tab;exact x c o (λz=>z.elim (λz=>h1 n (by rw[z,hb] at e;exact(Option.some.inj e).symm)) λz=>h2 ps (by rw[z,hP] at e;exact(Option.some.inj e).symm)) e
theorem KB.free(x:KB b Pt H H')(hb:H' b=some o)(hT:dc Pt d_ eh H')(he:H' e=none):H e=none:=by
 cases z:H e with
 |none=>rfl
 |some u=>
  obtain⟨ps,hP⟩:=hT.tab;have:=x e u (λh=>h.elim (λh=>by rw[h,hb] at he;cases he) λh=>by rw[h,hP] at he;cases he) z;rw[this] at he;cases he
structure Gd (d:Nat) (w:Vw) (k:Kd):Prop where
 nn:w.nn<=d+1
 dp:w.dp<=2 * d
 pp:w.pp<=1+3 * d
 st:∃k',bh w k=.inr k'
inductive Cp (K:W.Frag) (c:CA) (Pt:Addr) (d:Nat) (vs:List V) (H:Hp) (Q:V->Hp->Prop):Prop
 |mk (a:_) (b:_) (ns:_) (n:_) (kv:_) (k:_) (h0:vs=[.ref a,.ref b,kv,.int d]) (h1:G0 K H a b ns n) (h2:n+(70+140 * d)<=1000000000000) (h3:KG Pt H kv k) (h4:(k.sz+(d+1)<=55/\k.bc+(d+1)<=20)) (h5:∀(v:V) (w:Vw) (n':Int) (H':Hp),KB b Pt H H'->dc Pt d_ eh H'->H' b=some (.lst [.int n'])->n<=n'->n'<=n+(70+140 * d)->VA c (Rs (λe=>H e=none) H') v w->Gd d w k->Q v H'):Cp K c Pt d vs H Q
def rR (K:W.Frag) (c:CA) (Pt:Addr) (d:Nat):Sp:=λvs H Q _=>Cp K c Pt d vs H Q
def iM (d:Nat):Nat->Vs->Kd->Kd->Prop
 |0,vs,k,k'=>vs=.nil/\k'=k
 |m+1,vs,k,k'=>∃v r k1,vs=.cons v r/\Gd d v k/\bh v k=.inr k1/\iM d m r k1 k'
inductive Cq (K:W.Frag) (c:CA) (Pt:Addr) (d:Nat) (vs:List V) (H:Hp) (Q:V->Hp->Prop):Prop
 |mk (a:_) (b:_) (ns:_) (n:_) (kv:_) (k:_) (m:Nat) (h0:vs=[.ref a,.ref b,kv,.int m,.int d]) (h1:m<=5) (h2:G0 K H a b ns n) (h3:n+m * (70+140 * d)<=1000000000000) (h4:KG Pt H kv k) (h5:(k.sz+m * (d+1)<=55/\k.bc+m * (d+1)<=20)) (h6:∀(v:V) (ws:Vs) (k':Kd) (n':Int) (H':Hp),KB b Pt H H'->dc Pt d_ eh H'->H' b=some (.lst [.int n'])->n<=n'->n'<=n+m * (70+140 * d)->VA c (Rs (λe=>H e=none) H') v (.ch ws)->iM d m ws k k'->Q v H'):Cq K c Pt d vs H Q
def vv (K:W.Frag) (c:CA) (Pt:Addr) (d:Nat):Sp:=λvs H Q _=>Cq K c Pt d vs H Q
theorem JO(hw:∀R:It->Hp->Prop,R J H->wi σ H R)(hJ:∀H',Same H H'->jA J H' xs)(h9:xs.length<=900)(Pv:Nat->List V->Prop)(h0:Pv 0 [])(hl:∀i ys,Pv i ys->ys.length<=i)
 (hb:∀i x ys H',xs[i]? =some x->Same H H'->Pv i ys->∀(A:V->Hp->Prop) (B:Hp->Prop),(∀y H2,Same H H2->Pv (i+1) (ys++[y])->A y H2)->(∀H2,Same H H2->Pv (i+1) ys->B H2)->g x (List.replicate k none++σ) H' λaa H2=>aa.drop k=σ/\tt aa H2 λb H3=>if b=true then te aa H3 A else B H3)
 (q:∀ys p H',Same H H'->Pv xs.length ys->H' p=none->Q (.ref p) (upd H' p (.lst ys))):qM k wi g tt te σ H Q:=by
 refine hw _ ?_;refine⟨λi m ys H'=>Same H H'/\m=xs.length - i/\i<=xs.length/\Pv i ys,⟨xs.length,Same.refl _,by simp,Q0c _,h0⟩,?_⟩;rintro i m ys H' ⟨s,rfl,hi,hP⟩;have ab:=hJ H' s;by_cases ae:i<xs.length
 . refine .inr ⟨ab.go i ae,eE (by have:=hl i ys hP;omega),λx H2 y=>?_⟩;obtain⟨rfl,hx⟩:=ab.yl i x H2 y;exact hb i x ys _ hx s hP _ _ (λy H3 s3 h=>⟨xs.length - (i+1),by omega,s3,rfl,ae,h⟩) (λH3 s3 h=>⟨xs.length - (i+1),by omega,s3,rfl,ae,h⟩)
 . have:i=xs.length:=by omega
   subst this;exact .inl ⟨ab.st _ (Q0 _),λp hp=>q ys p H' s hP hp⟩
def JP (l:List NK) (y:Str):Prop:=∃q g,cZ l y=some q/\du q=some g/\∀z∈cR g,z ∉ cR (bt [y] l)
theorem JQ {zs:List Z3}:(zs.filterMap λz=>some (V.str z.2.2.1))=(cR (zs.map (·.2.2))).map V.str:=by
 induction zs with
 |nil=>rfl
 |cons p r ih=>rw[Q13];show _::_=_::_;rw[ih];rfl
theorem mT {aa:TT}{t B:TS}{D:Ends}(hB:B D σ H)(hc:B D σ H->aa σ H λb H1=>if b=true then t { D with nx:=B D } σ H1 else mZ { D with nx:=B D } σ H1):qt (lV aa t mZ) B D σ H:=hc hB
theorem Gd.lf {d:Nat}{w:Vw}(h1:w.pp<=1)(h2:w.nn<=1)(h3:w.dp=0)(h4:∃k',bh w k=.inr k'):Gd d w k:=⟨by omega,by omega,by omega,h4⟩
theorem iM.sum:∀{m:Nat}{ws:Vs}{k k':Kd},iM d m ws k k'->ws.nn<=m * (d+1)/\ws.dp<=2 * d/\ws.pp<=m * (2+4 * d)/\ws.len=m/\∀i,fh ws i k=.inr k'
 |0,ws,k,k',h=>by
  obtain⟨rfl,rfl⟩:=h;exact⟨by unfold Vs.nn;omega,by unfold Vs.dp;omega,by unfold Vs.pp;omega,rfl,λi=>by unfold fh;rfl⟩
 |m+1,ws,k,k',h=>by
  obtain⟨v,r,k1,rfl,g,e,hr⟩:=h;obtain⟨h2,h3,hp,h4,h5⟩:=iM.sum hr;have:=g.nn;have:=g.dp;have:=g.pp;refine⟨?_,by unfold Vs.dp;omega,?_,by show r.len+1=_;rw[h4],λi=>?_⟩
  . unfold Vs.nn;rw[Q12];omega
  . unfold Vs.pp;rw[Q12];omega
  . conv=>lhs;unfold fh
    rw[e];exact h5 _
theorem Gd.vw (d:Nat)(k:Kd):Gd d .vw k:=⟨by unfold Vw.nn;omega,by unfold Vw.dp;omega,by unfold Vw.pp;omega,k,by unfold bh;rfl⟩
theorem Cr(hU:U y)(hy:H y=none)(hd:H dx=none)(aa:dx≠y):Same H (upd (upd H dx (.own y)) y (.ins c.vw dx []))/\VA c (Rs U (upd (upd H dx (.own y)) y (.ins c.vw dx []))) (.ref y) .vw:=
 ⟨(Same.new hd).trans (Same.new (by rw[cQ (Ne.symm aa)];exact hy)),by unfold VA;exact⟨y,dx,rfl,jd hU cV⟩⟩
section
variable {P:Program}{w:World}{K:W.Frag}{mg:Str->Option Value}{base:Heap}{Pt:Addr}
theorem JR(h3:3<=n0)(hd:d<=1)(T:Tb mg)(aE:rF K c.vw)(aL:mg "View"=some (.ref c.vw))(Z:cW es K mg)(ax:Ok P w K mg base cH "_law_next" XD (1) (kE K))(av:Ok P w K mg base cH "_law_loose" Xn (1) (Cj K))(ah:Ok P w K mg base cH "_law_some" YM (2) (Cb K))(af:Ok P w K mg base cH "_law_fresh" ["_law_names_here","_law_m"] (1) (B_))(ai:Oi P w K mg base cH c.tk "Take" YE (1) (gG c (λw=>∃ss,w=.tk ss)))(aa:Oi P w K mg base cH c.rn "Rename" X_ (1) (gG c (λw=>∃o n,w=.rn o n)))(ae:Oi P w K mg base cH c.ne "Nest" X2 (1) (gG c (λw=>∃ss y,w=.ne ss y)))(ag:Oi P w K mg base cH c.un "Unnest" YF (1) (gG c (λw=>∃f,w=.un f)))(ab:Oi P w K mg base cH c.wi "Within" X0 (1) (gG c (λw=>∃f v,w=.wi f v)))(ao:Oi P w K mg base cH c.aT "At" XE (1) (gG c (λw=>∃f,w=.aT f)))
 (ay:Ok P w K mg base cH "_law_step" XU (n0) (λvs H Q E=>d=1/\rR K c Pt 0 vs H Q E)) (aw:Ok P w K mg base cH "_law_chain" Xb (n0) (λvs H Q E=>d=1/\vv K c Pt 0 vs H Q E)):Ok P w K mg base cH "_law_step" XU (n0+1) (rR K c Pt d):=by
 refine Z.ok (k:=n0) XF (top 61) λvs H Q E h=>?_;obtain⟨a,b,ns,n,kv,k,rfl,g,hn,⟨hk,hO,hT⟩,⟨hsz,bK⟩,q⟩:=h;refine⟨rfl,λql f bL A outer s _ nd hr hu=>?_⟩
 refine⟨_,(cK (c_ 4 nd (cT ax hr (a_ (pv 0) (a_ (pv 1) cG))))
  (cK (dq (PW.pt (gQ (di gH (cX (pv 2) cI) d0 (c9 _)) (gQ (di dO (dG fC (by rfl) T.eT PySem.boot_len (a_ (cX (pv 2) cI) cG)) cI (c9 _)) (g_ (di dO (cU dH (pv 4) cI) cI (c9 _)))))) (cO (cS (Bk aE rfl aL))) dt)
  (cK (tz (i:=5) nd rfl d9 (g:=(eG 0)) (tt:=jk) (te:=(d6 (gm K) (dF 0) (tC (.int 0)))) (own:=["_law_pair"]) rfl (gD (N:=XF) (sc:=eP (top 61))) (gR (cX (pv 2) cI)) (λ_ _ _ _ _=>(dy (i:=0) (show(["_law_pair","_law_script","_law_at","_law_kind_here","_law_deep","_law_m","_law_names_here","_law_name","_law_inner_here","_law_nests","_law_some_here"]:List Str).Nodup by decide +kernel) rfl (Or.inl rfl) (.inr rfl))) (λ_ _ _ _ _=>kr) (λ_ _ _ _ _=>(cX (pv 0) cI)))
  (cK (sC (cX (cX (pv 2) cI) (cU dH (cU eZ (pv 4) cI) (dG fC (by rfl) T.eT PySem.boot_len (a_ (pv 5) cG)))) (hZ rfl (eY (dy (i:=6) nd rfl d9) (eY (dy (i:=7) nd rfl d9) hX))))
  (cK (tz (i:=8) nd rfl d9 (g:=(eG 0)) (tt:=(tB (kg _ _ _ (fA (d6 (gm K) (dF 3) (tC (.int 1))) (fA (dF 0) gU))))) (te:=(dF 0)) (own:=["_law_other"]) rfl (gD (N:=XF) (sc:=eP (top 61))) (k9 (pv 5)) (λ_ _ _ _ _=>(dy (i:=0) (show(["_law_other","_law_script","_law_at","_law_kind_here","_law_deep","_law_m","_law_names_here","_law_name","_law_inner_here","_law_nests","_law_some_here"]:List Str).Nodup by decide +kernel) rfl (Or.inl rfl) (.inr rfl))) (λ_ _ _ _ _=>(ku (fJ (cT av hr (a_ (cX (pv 3) cI) (a_ (pv 0) cG)))))) (λ_ _ _ _ _=>(pv 0)))
  (cK (dq (PW.pt (oH (di l8 (cU dH (pv 4) cI) cI (c9 _)) (oG (di m7 (dG fC (by rfl) T.eT PySem.boot_len (a_ (pv 8) cG)) cI (c9 _))))) (cO (cS (jq ag (hr.mono (by omega)) rfl fG (a_ (fE (pv 8) (cU dH (cU eZ (pv 4) cI) (dG fC (by rfl) T.eT PySem.boot_len (a_ (pv 8) cG)))) cG)))) dt)
  (cK (dq (di l8 (cU dH (pv 4) cI) cI (c9 _)) (cO (cS (jq ai (hr.mono (by omega)) rfl fG (a_ (cT ah hr (a_ (pv 0) (a_ (pv 1) (a_ (pv 5) cG)))) cG)))) dt)
  (cK (dq (di dO (cU dH (pv 4) cI) cI (c9 _)) (cO (cS (jq aa (hr.mono (by omega)) rfl fG (a_ (pv 6) (a_ (cT af hr (a_ (pv 5) (a_ (cU eZ (pv 4) cI) cG))) cG))))) dt)
  (cK (dq (di l8 (cU dH (pv 4) cI) cI (c9 _)) (cK (c_ 9 nd (cT ah hr (a_ (pv 0) (a_ (pv 1) (a_ (pv 5) cG)))))
  (cK (dq (PW.pt (oH (di m7 (dG fC (by rfl) T.eT PySem.boot_len (a_ (pv 9) cG)) cI (c9 _)) (oG (di dO (cU dH (cU eZ (pv 4) cI) cI) cI (c9 _))))) (cO (cS (jq ae (hr.mono (by omega)) rfl fG (a_ (pv 9) (a_ (fE (pv 9) (cU dH (cU eZ (pv 4) cI) (dG fC (by rfl) T.eT PySem.boot_len (a_ (pv 9) cG)))) cG))))) dt)
  (cO (cS (jq ae (hr.mono (by omega)) rfl fG (a_ (pv 9) (a_ (cT af hr (a_ (pv 5) (a_ (cU eZ (pv 4) cI) cG))) cG))))))) dt)
  (cK (dq (di dO (cU dH (pv 4) cI) cI (c9 _)) (cO (cS (jq ao (hr.mono (by omega)) rfl fG (a_ (pv 6) cG)))) dt)
  (cK (dq (di sM (pv 3) cI (c9 _)) (cO (cS (jq aa (hr.mono (by omega)) rfl fG (a_ (pv 6) (a_ (cT af hr (a_ (pv 5) (a_ (cU eZ (pv 4) cI) cG))) cG))))) dt)
  (cK (dq (di dO (cU dH (pv 4) cI) cI (c9 _)) (cO (cS (jq ab (hr.mono (by omega)) rfl fG (a_ (pv 6) (a_ (cT ay hr (a_ (pv 0) (a_ (pv 1) (a_ (pv 7) (a_ (cU ji (pv 3) cI) cG))))) cG))))) dt)
  (cO (cS (jq ab (hr.mono (by omega)) rfl fG (a_ (pv 6) (a_ (cT aw hr (a_ (pv 0) (a_ (pv 1) (a_ (pv 7) (a_ (cU dH (cU eZ (pv 4) cI) cI) (a_ (cU ji (pv 3) cI) cG)))))) cG))))))))))))))))),?_⟩
 ac_rfl
 refine⟨_,rfl,_,rfl,a,b,ns,n,rfl,g,by omega,λm H1 m0 m1 s1 h1=>?_⟩;have aM:dc Pt d_ eh H1:=hT.sb g.at_ s1;have aZ:KA H1 kv k:=hk.mono (s1.tu g.at_);have fin:∀(v:V) (w:Vw) (n':Int) (H':Hp),KB b Pt H1 H'->dc Pt d_ eh H'->H' b=some (.lst [.int n'])->n+1<=n'->n'<=n+(70+140 * d)->VA c (Rs (λe=>H e=none) H') v w->Gd d w k->Q v H':=λv w n' H' kb aq hb l1 l2=>q v w n' H' ((KB.sb s1).trans kb) aq hb (by omega) l2;clear q;have a3:∀e,H1 e=none->H e=none:=λe he=>(KB.sb (Pt:=Pt) s1).free h1 aM he
 have fv:∀y dx,H1 y=none->H1 dx=none->dx≠y->Q (.ref y) (upd (upd H1 dx (.own y)) y (.ins c.vw dx [])):=λy dx hy bo aN=>by
  obtain⟨S,hv⟩:=Cr (U:=λe=>H e=none) (a3 y hy) hy bo aN;exact fin (.ref y) .vw (n+1) _ (KB.of S) (aM.same S) (S _ _ h1) (by omega) (by omega) hv (Gd.vw d k)
 cases er:du k with
 |none=>
  obtain⟨c',f,rest,rfl,h4,hf⟩:=aZ.other er;refine⟨_,rfl,c',_,_,_,rfl,rfl,cJ.of h4,fe (j:=0) rfl,rfl,_,rfl,dz (λ_=>fo fv) (λcc=>absurd (show(!decide (V.str f=V.str "record"))=true by rw[decide_eq_false (λz=>hf (by injection z))];rfl) cc)⟩
 |some l=>
  obtain⟨c',t,xs,rfl,h4,h5,h6⟩:=aZ.ig er;obtain⟨aG,bH⟩:=fV er hO (by omega);have ho:=dD er hO;refine⟨_,rfl,c',_,_,_,rfl,rfl,cJ.of h4,fe (j:=0) rfl,rfl,_,rfl,dz (λcc=>absurd cc (by decide +kernel)) (λ_=>?_)⟩;refine⟨_,rfl,c',_,_,_,rfl,rfl,cJ.of h4,rfl,t,xs,rfl,.inr (cJ.of h5),rfl,_,rfl,dz (λ_=>fo fv) (λaN=>?_)⟩
  have bI:0<l.length:=by
   rw[<-h6.len];refine Nat.pos_of_ne_zero λz=>aN ?_;rw[z];exact decide_eq_true rfl
  refine⟨_,rfl,_,_,rfl,rfl,(by show(0:Int)<_;decide),rfl,_,rfl,dz (λ_=>fv) (λ_=>?_)⟩;dsimp only[mZ,k8,eG];refine rP ?_;obtain⟨zs,hz,ez⟩:=h6.z3;have zl:zs.length=l.length:=by rw[<-ez,Q01]
  refine rQ (J:=j9 K t) (λR h=>⟨_,rfl,c',_,_,_,rfl,rfl,cJ.of h4,rfl,t,rfl,⟨_,cJ.of h5⟩,h⟩) (jA.tup (cJ.of h5)) hz (by omega) (λz=>some (.str z.2.2.1)) ?_ (λp hp=>?_)
  . rintro v z ⟨rfl,c1,ec,hc,hk⟩ _ A B hA hB;exact⟨rfl,yes (fo ⟨_,rfl,c1,_,_,_,ec,rfl,cJ.of hc,rfl,hA _ rfl⟩)⟩
  rw[JQ,ez];generalize a4:upd H1 p (.lst ((cR l).map V.str))=H2;have s2:Same H1 H2:=by rw[<-a4];exact Same.new hp
  have aH:H2 p=some (.lst ((cR l).map V.str)):=by rw[<-a4];exact cV
  have a5:(((cR l).map V.str).length:Int)=(l.length:Int):=by unfold cR;rw[Q01,Q01]
  have im:=Q0k (m / 9) (show(l.length:Int)≠0 by omega);have il:=Q0l (m / 9) (show(0:Int)<(l.length:Int) by omega);obtain⟨ix,bp,a6⟩:∃ix:Nat,m / 9 % (l.length:Int)=ix/\ix<xs.length:=⟨_,(Q21 im).symm,by rw[h6.len];omega⟩;obtain⟨pp,a7,ci,u,ev,bq,hu⟩:=h6.at (Q03 a6);have az:=Co aG a7;refine⟨_,rfl,c',_,_,_,rfl,rfl,cJ.of (s2 _ _ h4),rfl,_,rfl,_,_,rfl,rfl,⟨by decide,by decide⟩,_,rfl,p,_,rfl,.inl (cM.of aH),_,_,rfl,rfl,by rw[a5];omega,t,xs,_,xs[ix],rfl,rfl,cJ.of (s2 _ _ h5),?_,ci,_,ev,cJ.of (s2 _ _ bq),rfl,_,_,rfl,_,_,rfl,rfl,?_⟩
  . rw[a5,bp];exact fe (Q03 a6)
  dsimp only;refine rP ?_;refine JO (J:=lW K p) (xs:=(cR l).map V.str) (λR h=>⟨_,rfl,p,rfl,⟨_,cM.of aH⟩,h⟩) (λH' s=>jA.lst (cM.of (s _ _ aH))) (by omega) (λi ys=>∃ss:List Str,ys=ss.map V.str/\ss.length<=i/\∀y∈ss,JP l y) ⟨[],rfl,Q0 _,λy h=>(nomatch h)⟩ (λi ys ⟨ss,e,h,_⟩=>by rw[e,Q01];exact h) ?_ ?_
  . rintro i v ys H' hv s3 ⟨ss,rfl,a8,a9⟩ A B hA hB;obtain⟨y,hy,rfl⟩:=u7 hv;have br:y∈cR l:=Q16 hy;obtain⟨qy,aO⟩:=i6 br;have aP:=s2.trans s3;have bu:dh dA (bt [y] l)+qy.sz<=dh dA l:=gy (f:=dA) aO;have bw:=ho.2.1;refine⟨rfl,_,rfl,c',_,_,_,rfl,rfl,cJ.of (aP _ _ h4),rfl,_,rfl,t,y,xs,l,qy,rfl,cJ.of (aP _ _ h5),h6.mono (Tu.of aP),by omega,aG,aO,by omega,λbb H4 s4 bx=>?_⟩;refine⟨_,rfl,dz (λcc=>?_) (λcc=>?_)⟩
    . subst cc;obtain⟨gg,e1,e2⟩:=bx rfl;refine⟨_,rfl,hA _ _ (s3.trans s4) ⟨ss++[y],by rw[Q0h];rfl,by rw[Q0d];show _+1<=_;omega,λz hz=>?_⟩⟩;rcases List.mem_append.mp hz with h|h
      . exact a9 z h
      . rw[List.mem_singleton.mp h];exact⟨qy,gg,aO,e1,e2⟩
    . exact hB _ (s3.trans s4) ⟨ss,rfl,by omega,a9⟩
  rintro ys p3 H3 s3 ⟨ak,rfl,bM,bz⟩ aQ;generalize aI:upd H3 p3 (.lst (ak.map V.str))=H4;have aC:Same H1 H4:=by rw[<-aI];exact(s2.trans s3).trans (Same.new aQ)
  have aR:H4 p3=some (.lst (ak.map V.str)):=by rw[<-aI];exact cV
  have aA:H4 p=some (.lst ((cR l).map V.str)):=by rw[<-aI];exact Same.new aQ _ _ (s3 _ _ aH)
  clear aI aQ s3 H3;dsimp only[k8,eG];have aB:=aC _ _ h1;have aD:=aM.same aC;have g4:G0 K H4 a b ns (n+1):=g.go (s1.trans (SB.of aC)) aB (by omega);have aS:∀e,H4 e=none->H e=none:=λe he=>a3 e (aC.free he);have aU:p≠b:=λz=>by rw[z,aB] at aA;injection aA with z2;injection z2 with z2;cases e:cR l with|nil=>rw[e] at z2;cases z2|cons y r=>rw[e] at z2;cases z2
  have au:(cR l).length<=60:=by unfold cR;rw[Q01];omega
  have aV:((cR l).map wt).sum<=20:=by
   have:∀l:List NK,((cR l).map wt).sum<=dh e9 l:=λl=>by
    induction l with
    |nil=>exact Q0 _
    |cons p r ih=>
     show(wt p.1::(cR r).map wt).sum<=wt p.1+p.2.bc+dh e9 r;rw[Q3n];omega
   have h1:=this l;have h2:=ho.2.2;omega
  have bJ:pp.1∈cR l:=List.mem_map.mpr ⟨pp,Q16 a7,rfl⟩;have m9:0<=m / 9/\m / 9<=2000000000:=⟨by omega,by omega⟩;have aj:∀{W:Vw->Prop} {args:List V} {w:Vw} {n':Int} {H':Hp} {E':XK},W w->Arg c (Rs (λe=>H e=none) H') H' args w->KB b Pt H4 H'->dc Pt d_ eh H'->H' b=some (.lst [.int n'])->n+1<=n'->n'<=n+(70+140 * d)->Gd d w k->∀x dx,H' x=none->H' dx=none->dx≠x->gG c W (.ref x::args) (upd (upd H' dx (.own x)) x (.ins (w.cl c) dx [])) (λv H2=>v=.non/\Q (.ref x) H2) E':=λhW ha kb aq ar l1 l2 gd=>vq hW (λe he=>aS e (kb.free ar aq he)) ha λx H' _ S hv=>fin (.ref x) _ _ _ (((KB.of aC).trans kb).trans (KB.of S)) (aq.same S) (S _ _ ar) l1 l2 hv gd;have ba:n+1+60<=1000000000000:=by omega
  have be:∀{E':XK} (y:Str),y ∉ cR l->∀x dx,H4 x=none->H4 dx=none->dx≠x->gG c (λw=>∃o n,w=.rn o n) (.ref x::[.str pp.1,.str y]) (upd (upd H4 dx (.own x)) x (.ins c.rn dx [])) (λv H2=>v=.non/\Q (.ref x) H2) E':=λy hy=>aj (w:=.rn pp.1 y) ⟨_,_,rfl⟩ rfl (Kp.refl _ _) aD aB (by omega) (by omega) (Gd.lf (by unfold Vw.pp;omega) (by unfold Vw.nn;omega) (by unfold Vw.dp;rfl) (JL er az hy));refine mT ?_ (λhB=>?_)
  . refine mT ?_ (λhB=>?_)
    . refine mT ?_ (λhB=>?_)
      . refine mT ?_ (λhB=>?_)
        . refine mT ?_ (λhB=>?_)
          . refine⟨_,rfl,_,_,rfl,rfl,_,rfl,dz (λ_=>?_) (λcc=>?_)⟩
            . exact⟨_,rfl,_,rfl,_,rfl,_,_,rfl,rfl,⟨by decide,by decide⟩,p,m / 9,cR l,rfl,aA,au,aV,m9.1,m9.2,λy hy=>be y hy⟩
            obtain rfl:d=1:=by
             have:¬((d:Int)<=0):=λz=>cc (decide_eq_true z);omega
            have bu:dh dA (bt [pp.1] l)+pp.2.sz<=dh dA l:=gy (f:=dA) az;have bN:dh e9 (bt [pp.1] l)+(wt pp.1+pp.2.bc)<=dh e9 l:=gy (f:=e9) az;have bw:=ho.2.1;have bO:=ho.2.2;have bf:KG Pt H4 u pp.2:=⟨hu.mono (Tu.of aC),ho.1.get az,aD⟩;dsimp only[mZ,k8,eG];refine mT ?_ (λhB=>?_)
            . obtain⟨mm,bA,bP⟩:∃mm:Nat,m / 9 % 3=mm/\mm<=2:=⟨(m / 9 % 3).toNat,by omega,by omega⟩;refine⟨_,rfl,_,rfl,_,rfl,_,rfl,_,rfl,_,_,rfl,rfl,⟨by decide,by decide⟩,_,_,rfl,rfl,(by show(0:Int)<_;decide),_,rfl,_,_,rfl,rfl,rfl,a,b,ns,n+1,u,pp.2,mm,by show [V.ref a,V.ref b,u,V.int (m / 9 % 3),V.int 0]=_;rw[bA];rfl,by omega,g4,by omega,bf,⟨by omega,by omega⟩,λv ws k' n' H' kb aq ar l1 l2 hv bB=>?_⟩;obtain⟨e1,e2,e3,e4,e5⟩:=bB.sum;exact aj (w:=.wi pp.1 (.ch ws)) ⟨_,_,rfl⟩ ⟨v,rfl,VA.mono (.of (oj λe o h1 h2=>⟨aS e h1,h2⟩)) _ hv⟩ kb aq ar l1 (by omega) ⟨by unfold Vw.nn Vw.nn;omega,by unfold Vw.dp Vw.dp;omega,by unfold Vw.pp Vw.pp;omega,Cn er az (q':=k') (by unfold bh;exact e5 0)⟩
            . refine⟨_,rfl,_,_,rfl,rfl,(by show(0:Int)<_;decide),rfl,_,rfl,dz (λ_=>?_) (λ_=>hB)⟩;refine⟨_,rfl,_,rfl,_,rfl,_,rfl,_,rfl,_,_,rfl,rfl,rfl,a,b,ns,n+1,u,pp.2,rfl,g4,by omega,bf,⟨by omega,by omega⟩,λv w n' H' kb aq ar l1 l2 hv gd=>?_⟩;obtain⟨q',bC⟩:=gd.st;have:=gd.nn;have:=gd.dp;have:=gd.pp;exact aj (w:=.wi pp.1 w) ⟨_,_,rfl⟩ ⟨v,rfl,VA.mono (.of (oj λe o h1 h2=>⟨aS e h1,h2⟩)) _ hv⟩ kb aq ar l1 (by omega) ⟨by unfold Vw.nn;omega,by unfold Vw.dp;omega,by unfold Vw.pp;omega,Cn er az bC⟩
          . refine⟨_,rfl,_,_,rfl,rfl,(by show(0:Int)<_;decide),rfl,_,rfl,dz (λ_=>?_) (λ_=>hB)⟩;exact⟨_,rfl,aj (w:=.aT pp.1) ⟨_,rfl⟩ rfl (Kp.refl _ _) aD aB (by omega) (by omega) (Gd.lf (by unfold Vw.pp;omega) (by unfold Vw.nn;omega) (by unfold Vw.dp;rfl) ⟨_,JN er az⟩)⟩
        . refine⟨_,rfl,_,_,rfl,rfl,(by show(0:Int)<_;decide),_,_,rfl,rfl,_,rfl,dz (λ_=>?_) (λ_=>hB)⟩;refine⟨_,rfl,_,rfl,_,rfl,a,b,p,ns,n+1,cR l,rfl,g4,ba,aA,aU,aG,au,λr ss n' H' sb _ ar l1 l2 hr aJ aK a8=>?_⟩;have bg:=sb p _ aU aA;have aq:=aD.sb aB sb;dsimp only[k8,eG];refine mT ?_ (λhB=>?_)
          . exact⟨_,rfl,_,rfl,_,rfl,_,_,rfl,rfl,⟨by decide,by decide⟩,p,m / 9,cR l,rfl,bg,au,aV,m9.1,m9.2,λy hy=>aj (w:=.ne ss y) ⟨_,_,rfl⟩ ⟨r,rfl,hr,by omega⟩ (KB.sb sb) aq ar l1 (by omega) (Gd.lf (by unfold Vw.pp;omega) (by unfold Vw.nn;omega) (by unfold Vw.dp;rfl) (Cm er aJ aK (.inl hy)))⟩
          . refine⟨_,rfl,r,_,rfl,.inl (cM.of hr),_,_,rfl,rfl,_,rfl,dz (λcc=>?_) (λ_=>dX hB)⟩;refine⟨_,rfl,_,_,rfl,rfl,⟨by decide,by decide⟩,_,_,rfl,rfl,(by show(0:Int)<_;decide),rfl,_,rfl,dz (λ_=>?_) (λ_=>hB)⟩;have n3:0<ss.length:=by have:=of_decide_eq_true cc;rw[Q01] at this;omega
            have aF:((ss.map V.str).length:Int)=(ss.length:Int):=by rw[Q01]
            have aW:=Q0k (m / 27) (show(ss.length:Int)≠0 by omega);have bD:=Q0l (m / 27) (show(0:Int)<(ss.length:Int) by omega);obtain⟨jx,aX,aY⟩:∃jx:Nat,m / 27 % (ss.length:Int)=jx/\jx<ss.length:=⟨_,(Q21 aW).symm,by omega⟩;have bj:ss[jx]∈ss:=Q17 _;refine⟨_,rfl,_,rfl,_,rfl,_,_,rfl,rfl,⟨by decide,by decide⟩,_,rfl,r,_,rfl,.inl (cM.of hr),_,_,rfl,rfl,by rw[aF];omega,r,_,_,.str ss[jx],rfl,rfl,cM.of hr,?_,aj (w:=.ne ss ss[jx]) ⟨_,_,rfl⟩ ⟨r,rfl,hr,by omega⟩ (KB.sb sb) aq ar l1 (by omega) (Gd.lf (by unfold Vw.pp;omega) (by unfold Vw.nn;omega) (by unfold Vw.dp;rfl) (Cm er aJ aK (.inr bj)))⟩;rw[aF,aX];exact fe (by rw[Q0g,Q03 aY];rfl)
      . refine⟨_,rfl,_,_,rfl,rfl,(by show(0:Int)<_;decide),rfl,_,rfl,dz (λ_=>?_) (λ_=>hB)⟩;exact⟨_,rfl,_,rfl,_,rfl,_,_,rfl,rfl,⟨by decide,by decide⟩,p,m / 9,cR l,rfl,aA,au,aV,m9.1,m9.2,λy hy=>be y hy⟩
    . refine⟨_,rfl,_,_,rfl,rfl,(by show(0:Int)<_;decide),_,_,rfl,rfl,_,rfl,dz (λ_=>?_) (λ_=>hB)⟩;exact⟨_,rfl,_,rfl,_,rfl,a,b,p,ns,n+1,cR l,rfl,g4,ba,aA,aU,aG,au,λr ss n' H' sb _ ar l1 l2 hr aJ aK a8=>aj (w:=.tk ss) ⟨_,rfl⟩ ⟨r,rfl,hr,by omega⟩ (KB.sb sb) (aD.sb aB sb) ar l1 (by omega) (Gd.lf (by unfold Vw.pp;omega) (by unfold Vw.nn;omega) (by unfold Vw.dp;rfl) (JK er aJ aK))⟩
  . refine⟨_,rfl,_,_,rfl,rfl,(by show(0:Int)<_;decide),_,_,rfl,rfl,_,rfl,dz (λ_=>?_) (λ_=>dX hB)⟩;refine⟨_,rfl,p3,_,rfl,.inl (cM.of aR),_,_,rfl,rfl,_,rfl,dz (λcc=>?_) (λ_=>hB)⟩;have n3:0<ak.length:=by have:=of_decide_eq_true cc;rw[Q01] at this;omega
    have aF:((ak.map V.str).length:Int)=(ak.length:Int):=by rw[Q01]
    have aW:=Q0k (m / 9) (show(ak.length:Int)≠0 by omega);have bD:=Q0l (m / 9) (show(0:Int)<(ak.length:Int) by omega);obtain⟨jx,aX,aY⟩:∃jx:Nat,m / 9 % (ak.length:Int)=jx/\jx<ak.length:=⟨_,(Q21 aW).symm,by omega⟩;obtain⟨qy,gg,bE,bF,bG⟩:=bz ak[jx] (Q17 _);refine⟨_,rfl,_,rfl,_,_,rfl,rfl,⟨by decide,by decide⟩,_,rfl,p3,_,rfl,.inl (cM.of aR),_,_,rfl,rfl,by rw[aF];omega,p3,_,_,.str ak[jx],rfl,rfl,cM.of aR,?_,aj (w:=.un ak[jx]) ⟨_,rfl⟩ rfl (Kp.refl _ _) aD aB (by omega) (by omega) (Gd.lf (by unfold Vw.pp;omega) (by unfold Vw.nn;omega) (by unfold Vw.dp;rfl) (JM er bE bF bG))⟩;rw[aF,aX];exact fe (by rw[Q0g,Q03 aY];rfl)
end
noncomputable def Vs.snoc:Vs->Vw->Vs
 | .nil,v=>.cons v .nil
 | .cons u r,v=>.cons u (r.snoc v)
theorem dM.snoc(hv:VA c H u v):∀{us:List V}{ws:Vs},dM c H us ws->dM c H (us++[u]) (ws.snoc v)
 |us,.nil,h=>by
  unfold dM at h;subst h;show dM c H [u] (.cons v .nil);unfold dM;exact⟨u,[],rfl,hv,by unfold dM;rfl⟩
 |us,.cons w r,h=>by
  unfold dM at h;obtain⟨x,ur,rfl,h1,h2⟩:=h;show dM c H (x::(ur++[u])) (.cons w (r.snoc v));unfold dM;exact⟨x,_,rfl,h1,dM.snoc hv h2⟩
theorem iM.snoc(g:Gd d v k1)(e:bh v k1=.inr k2):∀{m:Nat}{ws:Vs}{k:Kd},iM d m ws k k1->iM d (m+1) (ws.snoc v) k k2
 |0,ws,k,h=>by
  obtain⟨rfl,rfl⟩:=h;exact⟨v,.nil,k2,rfl,g,e,rfl,rfl⟩
 |m+1,ws,k,h=>by
  obtain⟨w,r,k',rfl,g',e',h'⟩:=h;exact⟨w,r.snoc v,k',rfl,g',e',iM.snoc g e h'⟩
theorem iM.kd(h:iM d m ws k k')(hO:k.O):k'.O/\k'.sz<=k.sz+m * (d+1)/\k'.bc<=k.bc+m * (d+1):=by
 obtain⟨h2,_,_,_,h5⟩:=h.sum;obtain⟨a,b,e⟩:=uP ws 0 k k' hO (h5 0);exact⟨a,by omega,by omega⟩
theorem KB.go(x:KB b Pt H H')(g:G0 K H a b ns n)(hT:dc Pt d_ eh H)(h:H' b=some (.lst [.int n']))(hn:n<=n'):G0 K H' a b ns n':=by
 obtain⟨ps,hP⟩:=hT.tab;refine⟨?_,g.len,h,by have:=g.pos;omega⟩;rcases g.iw with⟨o,h⟩|h
 . exact .inl ⟨o,x a _ (λz=>z.elim (eK h g.at_ (by intro z;cases z)) (eK h hP (by intro z;cases z))) h⟩
 . exact .inr h
section
variable {P:Program}{w:World}{K:W.Frag}{mg:Str->Option Value}{base:Heap}{Pt:Addr}
theorem JS(aN:17<=n1)(hd:d<=1)(T:Tb mg)(B:MA P w K mg base c "behind" mL (gj c Pt) 17 2)(Z:cW es K mg)(ab:Ok P w K mg base cH "_law_step" XU (n1) (rR K c Pt d))(aa:Oi P w K mg base cH c.ch "Chain" X6 (1) (gG c (λw=>∃ws,w=.ch ws))):Ok P w K mg base cH "_law_chain" Xb (n1+1) (vv K c Pt d):=by
 refine Z.ok (k:=n1) Xk (top 62) λvs H Q E h=>?_;obtain⟨a,b,ns,n,kv,k,m,rfl,hm,g,hn,⟨hk,hO,hT⟩,⟨hsz,aO⟩,q⟩:=h;refine⟨rfl,λql f aP A outer s _ nd hr hu=>?_⟩
 refine⟨_,(cK (c_ 5 nd (eR cG))
  (cK (fR PassesOwn.never rfl (k_ rfl T.jP (a_ (pv 3) cG)) (dy (i:=6) nd rfl d9) (cK (c_ 7 nd (cT ab hr (a_ (pv 0) (a_ (pv 1) (a_ (pv 2) (a_ (pv 4) cG))))))
  (cK (c_ 2 nd (iJ (m:="behind") (ps:=mL) (sp:=(gj c Pt)) (n:=17) (pv 7) (hr.mono (by omega)) (a_ (pv 2) cG)))
  (cO (ft (jI PySem.F.plainAttrs_list PySem.F.slot_list_append PySem.F.type_list_append mj (pv 5) (a_ (pv 7) cG)))))))
  (cO (cS (jq aa (hr.mono (by omega)) rfl fG (a_ (pv 5) cG)))))),?_⟩
 ac_rfl
 refine⟨nK,λp hp=>?_⟩;have s0:Same H (upd H p (.lst [])):=Same.new hp;have av:b≠p:=c6 g.at_ hp;obtain⟨jM,aw⟩:=hT.tab;have aD:Pt≠p:=c6 aw hp;refine⟨_,rfl,_,rfl,by omega,by omega,ka (n:=Int.toNat (m:Int)) (λi σ H'=>∃(x y:Option V) (ae:V) (ki:Kd) (us:List V) (ws:Vs) (n':Int),σ=[some (.ref a),some (.ref b),some ae,some (.int m),some (.int d),some (.ref p),x,y]/\KB b Pt H H'/\dc Pt d_ eh H'/\H' b=some (.lst [.int n'])/\n<=n'/\n'<=n+(i:Int) * (70+140 * d)/\H' p=some (.lst us)/\us.length=i/\dM c (Rs (λe=>H e=none/\e≠p) H') us ws/\iM d i ws k ki/\KA H' ae ki) ?_ ?_ ?_⟩
 . exact⟨_,_,kv,k,[],.nil,n,rfl,KB.of s0,hT.same s0,s0 _ _ g.at_,by omega,by omega,cV,rfl,by unfold dM;rfl,⟨rfl,rfl⟩,hk.mono (Tu.of s0)⟩
 . intro i σ H1 hi zq;obtain⟨x,y,ae,ki,us,ws,n',rfl,kb,af,ag,l1,l2,ai,ak,ao,ah,aq⟩:=zq;have aE:i<m:=by omega
   obtain⟨kO,aQ,aR⟩:=ah.kd hO;have aF:(i+1) * (d+1)<=m * (d+1):=Q1 _ aE;rw[Q12] at aF;have aG:((i:Int)+1) * (70+140 * d)<=(m:Int) * (70+140 * d):=Q1d (by omega) (by omega);rw[Q1q,Q2k] at aG;have g1:G0 K H1 a b ns n':=kb.go g hT ag l1;refine⟨_,rfl,_,rfl,_,rfl,_,rfl,a,b,ns,n',ae,ki,rfl,g1,by omega,⟨aq,kO,af⟩,⟨by omega,by omega⟩,λv w n2 H2 kb2 ax ay l3 l4 hv gd=>?_⟩;have aS:=gd.nn;have aU:=gd.dp;have az:=VA.mono (.of qa) w hv;obtain⟨W,G,hW⟩:=B w ki ⟨by omega,by omega⟩;obtain⟨a',dx,fs,rfl,ha,aH,_⟩:=az.cls;obtain⟨k',aA⟩:=gd.st;have aC:KA H2 ae ki:=aq.mono (kb2.vk ag af).tu;refine⟨W,_,G,_,rfl,a',dx,fs,rfl,ha,aH,_,rfl,_,ae,w,ki,k',rfl,hW,az,⟨aC,kO,ax⟩,aA,λu H3 ar aI hu=>?_⟩;have au:KB b Pt H1 H3:=kb2.trans (KB.kp ar);obtain⟨aV,aJ⟩:=af.tab;have aj:=au p _ (λz=>z.elim (λz=>av z.symm) λz=>aD z.symm) ai
   have aK:H3 b=some (.lst [.int n2]):=by
    obtain⟨aW,aL⟩:=ax.tab;exact ar b _ (eK ay aL (by intro z;cases z)) ay
   refine⟨_,rfl,.inl ⟨rfl,_,cM.of aj⟩,_,rfl,p,us,.ref a',rfl,rfl,aj,eE (by omega),?_⟩
   have hmul:((i+1:Nat):Int) * (70+140 * d)=(i:Int) * (70+140 * d)+(70+140 * d):=by
    rw[show((i+1:Nat):Int)=(i:Int)+1 from rfl,Q1q,Q2k]
   refine⟨_,_,u,k',us++[.ref a'],ws.snoc w,n2,rfl,λe o he h=>?_,aI.keep (λe o aM h=>by rw[cQ (eK h aj (aM us))];exact h),by rw[cQ av];exact aK,by omega,by omega,cV,by rw[Q0d,ak];rfl,dM.snoc (VA.mono (.of (oj λe o h1 h2=>?_)) w hv) (dM.mono (.of (oj λe o h1 h2=>?_)) ws ao),iM.snoc gd aA ah,hu.mono λe xs h=>by rw[cQ (eK h aj (by intro z;cases z))];exact h⟩
   . rw[cQ (c6 h hp)];exact au e o he (kb e o he h)
   . have aB:e≠p:=(c6 ai h1).symm;refine⟨⟨kb.free ag af h1,aB⟩,?_⟩;rw[cQ aB];exact ar e o (c6 aJ h1).symm h2
   . refine⟨h1,?_⟩;rw[cQ h1.2];exact au e o (λz=>z.elim (c6 g.at_ h1.1).symm (c6 aw h1.1).symm) h2
 . intro σ H1 zq;obtain⟨x,y,ae,ki,us,ws,n',rfl,kb,af,ag,l1,l2,ai,ak,ao,ah,aq⟩:=zq;rw[Q2i] at l2 ak ah;exact⟨_,rfl,vq (w:=.ch ws) ⟨_,rfl⟩ (λe he=>kb.free ag af he) ⟨p,us,rfl,ai,by omega,dM.mono (.of (oj λe o h1 h2=>⟨h1.1,h2⟩)) _ ao⟩ λx H' _ S hv=>q (.ref x) ws ki n' H' (kb.trans (KB.of S)) (af.same S) (S _ _ ag) l1 (by omega) hv ah⟩
end
end Pb
namespace Pb
open L2 PyProof.Rows
theorem FA.mU:∀{fs:Fs}{vs:List V},FA H vs fs->vs.length=fs.names.length
 | .nil,vs,h=>by have h:vs=[]:=h;subst h;rfl
 | .cons x k r,vs,⟨c,u,vr,e1,h1,h2,h3⟩=>by subst e1;show vr.length+1=_;rw[FA.mU h3];rfl
theorem oq {K:W.Frag}(ha:H a=some (.tup xs))(hb:H b=some (.tup ys))(hl:xs.length=ys.length)(he:∀(j:Nat) (x y:V),xs[j]? =some x->ys[j]? =some y->gv K H n x y true):gv K H (n+1) (.ref a) (.ref b) true:=by
 by_cases e:a=b
 . subst e;exact .ref a
 . have:=gv.tup (e:=λ_=>true) e (cJ.of (K:=K) ha) (cJ.of (K:=K) hb) he
   have ee:((List.range (min xs.length ys.length)).all (λ_=>true) && xs.length == ys.length)=true:=by
    rw[hl];simp
   rw[ee] at this;exact this
theorem kZ {K:W.Frag}(x:Str):gv K H n (.str x) (.str x) true:=by
 have:=gv.str (K:=K) (H:=H) (n:=n) x x;rw[decide_eq_true rfl] at this;exact this
abbrev gZ (K:W.Frag) (H:Hp) (n:Nat) (xs ys:List V):Prop:=∀(j:Nat) (x y:V),xs[j]? =some x->ys[j]? =some y->gv K H n x y true
theorem gZ.nil {K:W.Frag}:gZ K H n [] []:=λ_ _ _ e=>by cases e
theorem gZ.cons {K:W.Frag}{x y:V}(h:gv K H n x y true)(r:gZ K H n xs ys):gZ K H n (x::xs) (y::ys)
 |0,_,_,e1,e2=>by cases e1;cases e2;exact h
 |j+1,_,_,e1,e2=>r j _ _ e1 e2
mutual
theorem KA.tops {K:W.Frag}:∀(k:Kd) {n:Nat}{u v:V},3 * k.dep<=n+1->KA H u k->KA H v k->∃a b xs ys,u=.ref a/\v=.ref b/\H a=some (.tup xs)/\H b=some (.tup ys)/\xs.length=ys.length/\gZ K H n xs ys
 | .num,n,u,v,hn,h1,h2=>by
   unfold KA at h1 h2;obtain⟨a,rfl,ha⟩:=h1;obtain⟨b,rfl,hb⟩:=h2;exact⟨a,b,_,_,rfl,rfl,ha,hb,rfl,.cons (kZ _) .nil⟩
 | .eu,n,u,v,hn,h1,h2=>by
   unfold KA at h1 h2;obtain⟨a,rfl,ha⟩:=h1;obtain⟨b,rfl,hb⟩:=h2;exact⟨a,b,_,_,rfl,rfl,ha,hb,rfl,.cons (kZ _) .nil⟩
 | .c8 fs,n,u,v,hn,h1,h2=>by
   unfold KA at h1 h2;obtain⟨a,a2,ws,rfl,ha,aa,hF⟩:=h1;obtain⟨b,b2,zs,rfl,hb,ab,hG⟩:=h2;have hn:3 * (fs.dep+1)<=n+1:=hn;obtain⟨m,rfl⟩:∃m,n=m+1:=⟨n - 1,by omega⟩;exact⟨a,b,_,_,rfl,rfl,ha,hb,rfl,.cons (kZ _) (gZ.cons (oq aa ab (by rw[FA.mU hF,FA.mU hG]) (FA.rS fs (by omega) hF hG)) gZ.nil)⟩
 | .e8 fs,n,u,v,hn,h1,h2=>by
   unfold KA at h1 h2;obtain⟨a,a2,ws,rfl,ha,aa,hF⟩:=h1;obtain⟨b,b2,zs,rfl,hb,ab,hG⟩:=h2;have hn:3 * (fs.dep+1)<=n+1:=hn;obtain⟨m,rfl⟩:∃m,n=m+1:=⟨n - 1,by omega⟩;exact⟨a,b,_,_,rfl,rfl,ha,hb,rfl,.cons (kZ _) (gZ.cons (oq aa ab (by rw[FA.mU hF,FA.mU hG]) (FA.rS fs (by omega) hF hG)) gZ.nil)⟩
 | .rows key b_ fs,n,u,v,hn,h1,h2=>by
   unfold KA at h1 h2;obtain⟨a,a2,ws,rfl,ha,aa,hF⟩:=h1;obtain⟨b,b2,zs,rfl,hb,ab,hG⟩:=h2;have hn:3 * (fs.dep+1)<=n+1:=hn;obtain⟨m,rfl⟩:∃m,n=m+1:=⟨n - 1,by omega⟩;exact⟨a,b,_,_,rfl,rfl,ha,hb,rfl,.cons (kZ _) (.cons (kZ _) (.cons (kZ _) (gZ.cons (oq aa ab (by rw[FA.mU hF,FA.mU hG]) (FA.rS fs (by omega) hF hG)) gZ.nil)))⟩
 | .tree k,n,u,v,hn,h1,h2=>by
   unfold KA at h1 h2;obtain⟨a,u',rfl,ha,hu⟩:=h1;obtain⟨b,v',rfl,hb,hv⟩:=h2;have hn:3 * (k.dep+1)<=n+1:=hn;obtain⟨m,rfl⟩:∃m,n=m+1:=⟨n - 1,by omega⟩;obtain⟨a',b',xs,ys,rfl,rfl,h3,h4,h5,h6⟩:=KA.tops k (n:=m) (by omega) hu hv;exact⟨a,b,_,_,rfl,rfl,ha,hb,rfl,.cons (kZ _) (.cons (oq h3 h4 h5 h6) .nil)⟩
theorem FA.rS {K:W.Frag}:∀(fs:Fs) {n:Nat}{ws zs:List V},3 * fs.dep+1<=n->FA H ws fs->FA H zs fs->gZ K H n ws zs
 | .nil,n,ws,zs,hn,h1,h2=>by
   unfold FA at h1;subst h1;exact λ_ _ _ e=>by cases e
 | .cons nm k r,n,ws,zs,hn,h1,h2=>by
   unfold FA at h1 h2;obtain⟨c,u,vr,rfl,hc,hk,hr⟩:=h1;obtain⟨c',u',af,rfl,aa,ab,ae⟩:=h2;have hm:3 * max k.dep r.dep+1<=n:=hn;obtain⟨m,rfl⟩:∃m,n=m+1+1:=⟨n - 2,by have:=Kd.jm k;omega⟩;obtain⟨a',b',xs,ys,rfl,rfl,h3,h4,h5,h6⟩:=KA.tops k (n:=m) (by omega) hk ab;exact .cons (oq hc aa rfl (gZ.cons (kZ _) (gZ.cons (oq h3 h4 h5 h6) gZ.nil))) (FA.rS r (by omega) hr ae)
end
theorem JT {K:W.Frag}{k:Kd}{Q:V->Hp->Prop}(hn:3 * k.dep<=n+1)(hu:KA H u k)(hv:KA H v k)(q:Q (.bl false) H):yu K n u v H Q:=by
 obtain⟨a,b,xs,ys,rfl,rfl,h1,h2,h3,h4⟩:=KA.tops (K:=K) k hn hu hv;refine⟨a,b,xs,ys,λ_=>true,rfl,rfl,h4,.inr ⟨cJ.of h1,cJ.of h2,?_⟩⟩;rw[show(!((List.range (min xs.length ys.length)).all (λ_=>true) && xs.length == ys.length))=false by rw[h3];simp];exact q
theorem AL.fT(h:jR k d):AL k d d:=by
 cases k with
 |tree k=>exact i8.refl (λt ht=>gL.fT ht) h
 |num=>exact gL.fT (k:=.num) h
 |eu=>exact gL.fT (k:=.eu) h
 |c8 fs=>exact gL.fT (k:=.c8 fs) h
 |rows key aa fs=>exact gL.fT (k:=.rows key aa fs) h
 |e8 fs=>exact gL.fT (k:=.e8 fs) h
theorem AN.refl(h:dm k d):AN k d d:=by
 induction h with
 |c8 hl hp h ih=>
  refine .c8 hl (λx k g=>let⟨e,he⟩:=hp x k g;⟨e,e,he,he⟩) λx k e1 e2 g h1 h2=>?_;rw[h1] at h2
  cases h2;exact ih x k e1 g h1
 |oth h=>exact .oth (AL.fT h)
theorem rT(hd:Own H v d fp)(hF:dm k d)(e:du k=some l)(hx:cZ l x=some q):∃r u f,v=.ref r/\(∀H',Same H H'->d5 H' r (.str x) (some u))/\Own H u (d.fld x) f/\dm q (d.fld x):=by
 obtain⟨m,rfl,_,h1,h2⟩:=nZ e hx hF;unfold Own at hd;obtain⟨r,kvs,fq,rfl,hr,_,hM⟩:=hd;obtain⟨u,f,h3,h4,_⟩:=dk.val m hM h1;refine⟨r,u,f,rfl,λH' s=>?_,h4,h2⟩;have:=d5.k (k:=Sum.inr x) (s _ _ hr);rw[h3] at this;exact this
theorem DS.fld(h:DS N d)(hF:dm k d)(e:du k=some l)(hx:cZ l x=some q):DS N (d.fld x):=by
 obtain⟨m,rfl,hm,_⟩:=nZ e hx hF;obtain⟨M,rfl,hp⟩:=h.ps;exact(hp x hm).mono (by omega)
inductive Cs (c:CA) (Pt:Addr) (d:Nat) (vs:List V) (H:Hp) (Q:V->Hp->Prop):Prop
 |mk (v:_) (kv:_) (src:_) (oth:_) (x:_) (w:_) (k:_) (k':_) (l:_) (q:_) (dd:_) (o:_) (f1:_) (f2:_) (N:_) (h0:vs=[v,kv,src,oth,.str x]) (h1:WD d w k) (h2:VA c H v w) (h3:KG Pt H kv k) (h4:bh w k=.inr k') (h5:du k=some l) (h6:cZ l x=some q) (h7:3 * q.dep<=13) (h8:Own H src dd f1) (h9:dm k dd) (h10:Own H oth o f2) (h11:dm k o) (h12:(DS N dd/\DS N o/\N+w.nn+w.pp<=60)) (h13:∀H',fj Pt H H'->dc Pt d_ eh H'->Q (.bl true) H'):Cs c Pt d vs H Q
def Ct (c:CA) (Pt:Addr) (d:Nat):Sp:=λvs H Q _=>Cs c Pt d vs H Q
section
variable {P:Program}{w:World}{K:W.Frag}{mg:Str->Option Value}{base:Heap}{Pt:Addr}
theorem JU (Z:cW es K mg):Ok P w K mg base cH "_law_inner" Xn (1) (rl K):=by
 refine Z.ok X9 (top 63) λvs H Q E h=>?_;obtain⟨b,x,xs,l,rfl,hb,hl,q1,q2⟩:=h;refine⟨rfl,λql f ae A outer s _ nd hr hu=>?_⟩
 refine⟨_,(cK (fR PassesOwn.never rfl (gR (pv 0)) (hZ rfl (eY (dy (i:=2) nd rfl d9) (eY (dy (i:=3) nd rfl d9) hX))) (cO (dq (di dO (pv 2) (pv 1) (c9 _)) (cO (cS (pv 3))) dt)))
  (cO (cS fF))),?_⟩
 ac_rfl
 refine⟨_,rfl,b,rfl,⟨_,hb⟩,lY (xs:=xs) (λi σ H'=>H'=H/\(∀j p,j<i->l[j]? =some p->p.1≠x)/\∃y z,σ=[some (.ref b),some (.str x),y,z]) ⟨rfl,λj p hj=>absurd hj (Q1o _),_,_,rfl⟩ ?_ ?_ ?_⟩
 . rintro i σ H' _ ⟨rfl,_⟩;exact hb
 . rintro i yv σ H' hy ⟨rfl,aa,y,z,rfl⟩;obtain⟨p,hp,c,u,rfl,hc,hk⟩:=hl.at hy;refine⟨c,_,rfl,cJ.of hc,rfl,_,_,rfl,_,_,rfl,rfl,?_⟩;refine⟨_,rfl,_,rfl,rfl,_,rfl,dz (λe=>?_) (λe=>?_)⟩
   . have e:p.1=x:=by have:=of_decide_eq_true e;injection this
     exact⟨_,rfl,q1 _ u (rj aa hp e) hk⟩
   . refine⟨rfl,λj p' hj e'=>?_,_,_,rfl⟩;by_cases ab:j=i
     . subst ab;rw[hp] at e';cases e';exact λz=>e (decide_eq_true (by rw[z]))
     . exact aa j p' (by omega) e'
 . rintro σ H' ⟨rfl,aa,y,z,rfl⟩;refine q2 (mE.mpr λz=>?_);obtain⟨p,hp,e⟩:=List.mem_map.mp z;obtain⟨j,hj,ej⟩:=Q0z hp;exact aa j p (by rw[hl.len];exact hj) (by rw[<-ej];exact Q03 hj) e
theorem JV(ax:d<=3)(T:Tb mg)(B:MA P w K mg base c "behind" mL (gj c Pt) 20 d)(S:MA P w K mg base c "see" mM (ij c Pt) 23 d)(U:MA P w K mg base c "put" pR (iD c Pt) 195 d)(Kk:MA P w K mg base c "keeps" jU (gF c) 4 d)(Z:cW es K mg)(aa:Ok P w K mg base cH "_law_inner" Xn (1) (rl K))(ab:Ok P w K mg base cH "_law_alike" Xe (61) (pP 60)):Ok P w K mg base cH "_law_kept" X3 (196) (Ct c Pt d):=by
 refine Z.ok (k:=195) Xd (top 64) λvs H Q E h=>?_;obtain⟨v,kv,src,oth,x,w,k,k',l,q0,dd,o,f1,f2,N,rfl,hW,hV,hK,hb,e,hx,bo,hd,hF,ho,hG,⟨ay,aP,hN⟩,q⟩:=h;refine⟨rfl,λql f bp A outer s _ nd hr hu=>?_⟩;have aN:_+1+12<cLine:=Q1z (Q2s (by decide:1+12<=64) _) hr.units;obtain⟨a,dx,fs,rfl,ha,l1,l2,l3,l4,l5⟩:=hV.cls;obtain⟨W1,G1,aQ⟩:=B w k hW;obtain⟨W2,G2,aR⟩:=S w k hW;obtain⟨W3,G3,aS⟩:=U w k hW;obtain⟨W4,G4,az⟩:=Kk w k hW
 refine⟨_,(cK (c_ 5 nd (iJ (m:="keeps") (ps:=jU) (sp:=(gF c)) (n:=4) (pv 0) (hr.mono (by decide)) (a_ (pv 4) cG)))
  (cK (dq (PW.pt (gQ (f_ (fJ (dG gW (by rfl) T.gX boot_isinstance (a_ (pv 5) (a_ (gP (v:=.ty "bool") rfl T.uo boot_bool rfl) cG))))) (g_ (di gH (iJ (m:="keeps") (ps:=jU) (sp:=(gF c)) (n:=4) (pv 0) (hr.mono (by decide)) (a_ (pv 4) cG)) (pv 5) (c9 _))))) (cO (cS f9)) dt)
  (cK (dq (f_ (fJ (pv 5))) (cO (cS f9)) dt)
  (cK (c_ 6 nd (iJ (m:="behind") (ps:=mL) (sp:=(gj c Pt)) (n:=20) (pv 0) (hr.mono (by decide)) (a_ (pv 1) cG)))
  (cK (c_ 7 nd (cT aa hr (a_ (cX (pv 1) cI) (a_ (pv 4) cG))))
  (cK (dq (PW.pt (gQ (di gH (cX (pv 6) cI) d0 (c9 _)) (g_ (di (FN (n:=12) aN) (cT aa hr (a_ (cX (pv 6) cI) (a_ (pv 4) cG))) (pv 7) (c9 _))))) (cO (cS f9)) dt)
  (cK (c_ 8 nd (iJ (m:="see") (ps:=mM) (sp:=(ij c Pt)) (n:=23) (pv 0) (hr.mono (by decide)) (a_ (pv 1) (a_ (pv 3) cG))))
  (cK (dq (f_ (fJ (cT ab hr (a_ (pv 7) (a_ (fL hu (pv 8) (pv 4) (λ_ _=>rfl)) (a_ (fL hu (pv 3) (pv 4) (λ_ _=>rfl)) cG)))))) (cO (cS f9)) dt)
  (cO (cS (cT ab hr (a_ (pv 7) (a_ (fL hu (iJ (m:="put") (ps:=pR) (sp:=(iD c Pt)) (n:=195) (pv 0) (hr.mono (by decide)) (a_ (pv 1) (a_ (pv 2) (a_ (pv 8) cG)))) (pv 4) (λ_ _=>rfl)) (a_ (fL hu (pv 8) (pv 4) (λ_ _=>rfl)) cG)))))))))))))),?_⟩
 ac_rfl
 refine⟨W4,_,G4,_,rfl,a,dx,fs,rfl,ha,l4,_,rfl,_,x,w,k,rfl,az,hV,λH1 s1=>?_⟩;have aU:=VA.mono (VK.of s1) w hV;have bq:=hK.same s1;refine⟨_,rfl,_,_,_,true,rfl,.bl _,rfl,true,rfl,dX ?_⟩;refine⟨W4,_,G4,_,rfl,a,dx,fs,rfl,s1 _ _ ha,l4,_,rfl,_,x,w,k,rfl,az,aU,λH2 s2=>?_⟩;have ae:=s1.trans s2;have aj:=hK.2.2.same ae;refine⟨_,rfl,rfl,_,rfl,lb rfl ?_⟩;refine⟨_,rfl,_,rfl,dz (λcc=>q H2 (Kp.of ae) aj) (λcc=>?_)⟩
 have aV:kps w x=true:=by
  cases z:kps w x with
  |true=>rfl
  |false=>rw[z] at cc;exact absurd rfl cc
 have kt:=Bw w k k' x l q0 hK.2.1 hb e hx aV;obtain⟨l',e',ag⟩:=kt.kd;have hO:=hK.2.1;have aO:=(dD e hO).1.get hx;have br:dh dA (bt [x] l)+q0.sz<=dh dA l:=gy (f:=dA) hx;have aA:q0.W:=Kd.nS aO (by have:=(dD e hO).2.1;have:=hW.sz;omega);have aB:=hK.same ae;have aC:=VA.mono (VK.of ae) w hV;refine⟨W1,_,G1,_,rfl,a,dx,fs,rfl,ae _ _ ha,l1,_,rfl,_,kv,w,k,k',rfl,aQ,aC,aB,hb,λub H3 ah ak aW=>?_⟩;have aD:=VK.kp ah aj;have aE:=VA.mono aD w aC;have ar:=aB.kp ah ak;have aF:=aD.ins (ae _ _ ha);have aG:=fH (ho.same ae) ah aj;have ax:=fH (hd.same ae) ah aj;obtain⟨kk,tk,xk,rfl,k1,k2,k3⟩:=ar.1.ig e;refine⟨_,rfl,kk,_,_,_,rfl,rfl,cJ.of k1,rfl,_,rfl,tk,x,xk,l,rfl,cJ.of k2,k3,λq1 u1 e1 aH=>?_,λen=>by rw[hx] at en;cases en⟩;rw[hx] at e1
 cases e1;obtain⟨kb,tb,xb,rfl,b1,b2,b3⟩:=aW.ig e';refine⟨_,rfl,kb,_,_,_,rfl,rfl,cJ.of b1,fe (j:=0) rfl,rfl,_,rfl,dz (λcc=>absurd cc (by decide +kernel)) (λ_=>?_)⟩;refine⟨_,rfl,kb,_,_,_,rfl,rfl,cJ.of b1,rfl,_,rfl,tb,x,xb,l',rfl,cJ.of b2,b3,λq2 u2 e2 aX=>?_,λen=>by rw[ag] at en;cases en⟩;rw[ag] at e2
 cases e2;refine⟨_,rfl,JT (by omega) aX aH ⟨_,rfl,dX ?_⟩⟩;refine⟨W2,_,G2,_,rfl,a,dx,fs,rfl,aF,l2,_,rfl,_,rfl,_,.ref kk,oth,w,k,k',o,f2,rfl,aR,aE,ar,hb,aG,hG,λus f3 H4 ai aI au bu=>?_⟩;have af:=gY w k k' o hO hb hG;have ao:=n_ w k k' o N hO hb (by have:=hW.2;omega) hG aP;have aJ:=VK.kp ai ak;have aY:=fH aG ai ak;have aZ:=fH ax ai ak;have aq:=aH.mono aJ.tu;obtain⟨r1,v1,g1,rfl,a3,a4,bw⟩:=rT au af e' ag;obtain⟨r2,v2,g2,rfl,a5,a6,a7⟩:=rT aY hG e hx;have es:=kt.se o hG;refine⟨_,rfl,_,rfl,_,rfl,r1,v1,rfl,a3 _ (Same.refl _),_,rfl,_,rfl,r2,v2,rfl,a5 _ (Same.refl _),u1,v1,v2,q0,_,_,g1,g2,rfl,aq,aA,a4,a6,by rw[es];exact AN.refl a7,((ao.fld af e' ag).mono (by omega)).1,(ao.fld af e' ag).2,λH5 s5=>?_⟩;refine⟨_,rfl,dX ?_⟩;have aK:=aJ.trans (VK.of s5);refine⟨_,rfl,W3,_,G3,_,rfl,a,dx,fs,rfl,aK.ins aF,l3,_,rfl,_,rfl,_,rfl,_,.ref kk,src,.ref r1,w,k,k',dd,_,f1,f3,N+w.nn,rfl,aS,VA.mono aK w aE,(ar.kp ai aI).same s5,hb,aZ.same s5,hF,au.same s5,af,⟨ay.mono (by omega),ao,by omega⟩,λup f6 H6 av a8 a9=>?_⟩;have aw:=kX w k k' dd _ hO hb hF af;have aL:=aI.same s5;have ba:=VK.kp av aL;obtain⟨r3,v3,g3,rfl,bb,be,bx⟩:=rT a9 aw e hx;obtain⟨r4,v4,g4,e4,bf,bg,bj⟩:=rT (fH (au.same s5) av aL) af e' ag
 cases e4;have ep:=kt.pu dd _ hF af;have aM:=vf w k k' dd _ (N+w.nn) hO hb (by have:=hW.2;omega) hF af (ay.mono (by omega)) ao;refine⟨_,rfl,r3,v3,rfl,bb _ (Same.refl _),_,rfl,_,rfl,r1,v4,rfl,bf _ (Same.refl _),u1,v3,v4,q0,_,_,g3,g4,rfl,(aq.mono (Tu.of s5)).mono ba.tu,aA,be,bg,by rw[ep];exact AN.refl bj,((aM.fld aw e hx).mono (by omega)).1,(aM.fld aw e hx).2,λH7 s7=>?_⟩;exact q H7 ((Kp.of ae).trans (ah.trans (ai.trans ((Kp.of s5).trans (av.trans (Kp.of s7)))))) (a8.same s7)
end
theorem ie.mI {K:W.Frag}(h:ie K H a ns)(s:Same H H'):ie K H' a ns:=by
 rcases h with⟨o,h⟩|h
 . exact .inl ⟨o,s _ _ h⟩
 . exact .inr h
theorem Cu(h:dc P lp ql H)(k:∀c o,(c=P\/((∀xs,o≠ .lst xs)/\∀ps,o≠ .eX ps))->H c=some o->H' c=some o):dc P lp ql H':=by
 rcases h with e|⟨c,e,f⟩
 . exact .inl (k _ _ (.inl rfl) e)
 . exact .inr ⟨c,k _ _ (.inl rfl) e,k _ _ (.inr ⟨(by intro xs z;cases z),by intro ps z;cases z⟩) f⟩
theorem rV(x:Kp (λc=>c=b\/c=P) H H')(hb:H b=some (.lst [.int n]))(hT:dc P lp ql H)(h:dc P' aa ab H)(af:P'≠P):dc P' aa ab H':=by
 obtain⟨ps,hP⟩:=hT.tab;obtain⟨ag,ae⟩:=h.tab;refine Cu h λc o hc e=>x c o (λz=>?_) e;rcases z with z|z
 . rcases hc with hc|hc
   . rw[<-hc,z,hb] at ae;cases ae
   . rw[z,hb] at e;cases e;exact hc.1 _ rfl
 . rcases hc with hc|hc
   . exact af (hc.symm.trans z)
   . rw[z,hP] at e;cases e;exact hc.2 _ rfl
theorem VK.dQ(x:Kp (λc=>c=b\/c=P) H H')(hb:H b=some (.lst [.int n]))(hT:dc P lp ql H):VK H H':=λc o h1 h2 e=>by
 obtain⟨ps,hP⟩:=hT.tab;exact x c o (λz=>z.elim (λz=>h1 n (by rw[z,hb] at e;exact(Option.some.inj e).symm)) λz=>h2 ps (by rw[z,hP] at e;exact(Option.some.inj e).symm)) e
theorem rW {K:W.Frag}(x:Kp (λc=>c=b\/c=P) H H')(g:G0 K H a b ns n)(hT:dc P lp ql H)(h:H' b=some (.lst [.int n']))(hn:n<=n'):G0 K H' a b ns n':=by
 obtain⟨ps,hP⟩:=hT.tab;refine⟨?_,g.len,h,by have:=g.pos;omega⟩;rcases g.iw with⟨o,h⟩|h
 . exact .inl ⟨o,x a _ (λz=>z.elim (eK h g.at_ (by intro z;cases z)) (eK h hP (by intro z;cases z))) h⟩
 . exact .inr h
inductive Cv (K:W.Frag) (Pt PV:Addr) (vs:List V) (H:Hp) (Q:V->Hp->Prop):Prop
 |mk (a:Addr) (ns:List Int) (h0:vs=[.ref a]) (h1:ie K H a ns) (h2:ns.length<=63) (h3:dc Pt d_ eh H) (h4:dc PV i4 i5 H) (h5:∀H',Q (.bl true) H'):Cv K Pt PV vs H Q
def rX (K:W.Frag) (Pt PV:Addr):Sp:=λvs H Q _=>Cv K Pt PV vs H Q
variable {P:Program}{w:World}{K:W.Frag}{mg:Str->Option Value}{base:Heap}
theorem JW(h1:n1<=196)(h2:n2<=196)(h3:n3<=196)(h4:n4<=196)(au:PV≠Pt)(T:Tb mg)(ar:rF K c.vw)(aB:mg "View"=some (.ref c.vw))(Kk:MA P w K mg base c "keeps" jU (gF c) 4 3)(Z:cW es K mg)(ag:Ok P w K mg base cH "_law_next" XD (1) (kE K))(ae:Ok P w K mg base cH "_law_fields" XR (n1) (uv K 2))(ah:Ok P w K mg base cH "_law_step" XU (n2) (rR K c Pt 1))(af:Ok P w K mg base cH "_law_chain" Xb (n3) (vv K c Pt 1))(aa:Ok P w K mg base cH "_law_value" XG (n4) (nO K PV 67))(ai:Ok P w K mg base cH "_law_kept" X3 (196) (Ct c Pt 3))(ab:Oi P w K mg base cH c.ch "Chain" X6 (1) (gG c (λw=>∃ws,w=.ch ws))):Ok P w K mg base cH "law" ["_law_script"] (197) (rX K Pt PV):=by
 refine Z.ok (k:=196) Xc (top 65) λvs H Q E h=>?_;obtain⟨a,ns,rfl,hS,aM,hT,hV,q⟩:=h;refine⟨rfl,λql f b8 A outer s _ nd hr hu=>?_⟩
 refine⟨_,(cK (c_ 1 nd (eR (a_ cI cG)))
  (cK (fR PassesOwn.never rfl (k_ rfl T.jP (a_ (cU gT cI (cU eZ (dG fC (by rfl) T.eT PySem.boot_len (a_ (qD w6 (pv 0) qB (qC cI)) cG)) cI)) cG)) (dy (i:=2) nd rfl d9) (cK (c_ 3 nd (cT ag hr (a_ (pv 0) (a_ (pv 1) cG))))
  (cK (c_ 4 nd (gc (a_ d0 (a_ (cT ae hr (a_ (pv 0) (a_ (pv 1) (a_ (cU gT cI (cU dH (pv 3) cI)) (a_ cI cG))))) cG))))
  (cK (c_ 5 nd (cT ah hr (a_ (pv 0) (a_ (pv 1) (a_ (pv 4) (a_ cI cG))))))
  (cK (dq (di dO (cU dH (cU eZ (pv 3) cI) cI) cI (c9 _)) (cO (c_ 5 nd (cT af hr (a_ (pv 0) (a_ (pv 1) (a_ (pv 4) (a_ (cU dH (cU eZ (pv 3) cI) cI) (a_ cI cG)))))))) dt)
  (cK (c_ 6 nd (cT aa hr (a_ (pv 0) (a_ (pv 1) (a_ (pv 4) (a_ cI cG))))))
  (cK (c_ 7 nd (cT aa hr (a_ (pv 0) (a_ (pv 1) (a_ (pv 4) (a_ cI cG))))))
  (cO (fR PassesOwn.never rfl (gR (cX (pv 4) cI)) (hZ rfl (eY (dy (i:=8) nd rfl d9) (eY (dy (i:=9) nd rfl d9) hX))) (cK (dq (f_ (fJ (cT ai hr (a_ (pv 5) (a_ (pv 4) (a_ (pv 6) (a_ (pv 7) (a_ (pv 8) cG)))))))) (cO (cS f9)) dt)
  (cO (dq (PW.pt (gQ (f_ (fJ (iJ (m:="keeps") (ps:=jU) (sp:=(gF c)) (n:=4) (Bk ar rfl aB) (hr.mono (by omega)) (a_ (pv 8) cG)))) (g_ (f_ (fJ (iJ (m:="keeps") (ps:=jU) (sp:=(gF c)) (n:=4) (jq ab (hr.mono (by omega)) rfl fG (a_ (eR cG) cG)) (hr.mono (by omega)) (a_ (pv 8) cG))))))) (cO (cS f9)) dt))))))))))))
  (cO (cS f9)))),?_⟩
 ac_rfl
 refine⟨gw,λb hb=>?_⟩;have s0:Same H (upd H b (.lst [.int 0])):=Same.new hb;have g0:G0 K (upd H b (.lst [.int 0])) a b ns 0:=⟨ie.mI hS s0,aM,cV,by decide⟩;refine⟨_,rfl,_,rfl,a,_,rfl,g0.iw.sq,λp hp=>?_⟩;have bf:=wU (ns.map V.int) none (some 60);rw[Q01] at bf;refine⟨p,_,rfl,.inl (cM.of cV),_,_,rfl,rfl,⟨by decide,by decide⟩,_,_,rfl,rfl,_,rfl,?_,?_,?_⟩
 . omega
 . omega
 have s1:=Same.new hp (o:=.lst (kh (ns.map V.int) none (some 60)));generalize b9:upd (upd H b (.lst [.int 0])) p (.lst (kh (ns.map V.int) none (some 60)))=H1 at s1;generalize hc:(1+((kh (ns.map V.int) none (some 60)).length:Int) / 20).toNat=cnt;have b7:cnt<=4:=by omega
 refine ka (n:=cnt) (λi σ H'=>∃(x2 x3 x4 x5 x6 x7 x8 x9:Option V) (n:Int),σ=[some (.ref a),some (.ref b),x2,x3,x4,x5,x6,x7,x8,x9]/\G0 K H' a b ns n/\dc Pt d_ eh H'/\dc PV i4 i5 H'/\n<=4000000000 * i) ?_ ?_ ?_
 . exact⟨_,_,_,_,_,_,_,_,0,rfl,⟨ie.mI g0.iw s1,aM,s1 _ _ g0.at_,by decide⟩,(hT.same s0).same s1,(hV.same s0).same s1,by omega⟩
 . intro i σ H' hi zq;obtain⟨x2,x3,x4,x5,x6,x7,x8,x9,n,rfl,g,aN,br,hn⟩:=zq;have cc:(i:Int)<=3:=by omega
   refine⟨_,rfl,_,rfl,a,b,ns,n,rfl,g,by omega,λm H2 m0 m1 s2 h2=>?_⟩;have g2:G0 K H2 a b ns (n+1):=g.go s2 h2 (by omega);have bu:=aN.sb g.at_ s2;have bw:=br.sb g.at_ s2;obtain⟨mm,bx,bz⟩:∃mm:Nat,1+m % 5=mm/\mm<=5:=⟨(1+m % 5).toNat,by omega,by omega⟩
   have cf:(mm:Int) * ck 2<=300:=by
    have:(mm:Int) * ck 2<=5 * ck 2:=Q1d (by omega) (by decide);exact Int.le_trans this (by decide)
   refine⟨_,rfl,_,rfl,_,rfl,_,_,rfl,rfl,(by show(0:Int)<_;decide),_,_,rfl,rfl,a,b,ns,n+1,mm,by show [V.ref a,V.ref b,V.int (1+m % 5),V.int 2]=_;rw[bx];rfl,by omega,g2,by omega,λt xs fs n3 H3 s3 h3 l1 l2 ht bA aO cg bB bC aP cj cm=>?_⟩;refine⟨gx,λt4 bD=>?_⟩;have s4:=Same.new (o:=.tup [.str "record",.ref t]) bD;have g3:G0 K H3 a b ns n3:=g2.go s3 h3 l1;have bE:=bu.sb g2.at_ s3;have bF:=bw.sb g2.at_ s3;have g4:G0 K (upd H3 t4 (.tup [.str "record",.ref t])) a b ns n3:=g3.go (SB.of s4) (s4 _ _ h3) (Int.le_refl _);have kW:(Kd.c8 fs).W:=by unfold Kd.W;exact⟨aO,by omega,bC⟩
   have aj:KG Pt (upd H3 t4 (.tup [.str "record",.ref t])) (.ref t4) (.c8 fs):=⟨by unfold KA;exact⟨t4,t,xs,rfl,cV,s4 _ _ ht,FA.mono (Tu.of s4) fs bA⟩,Kd.pB kW,bE.same s4⟩;have aE:=bF.same s4;generalize upd H3 t4 (.tup [.str "record",.ref t])=H4 at s4 g4 aj aE ⊢
   have hsz:(Kd.c8 fs).sz<=45:=by
    have h1:=aP.2;have h2:jo 2=9:=rfl;have h3:mm * jo 2<=5 * 9:=by rw[h2];exact Q1 _ bz
    unfold Kd.sz;omega
   have cn:(Kd.c8 fs).bc=0:=by unfold Kd.bc;exact aP.1
   have aQ:=aj.2.1;have st:=bB;refine⟨_,rfl,_,rfl,_,rfl,a,b,ns,n3,.ref t4,.c8 fs,rfl,g4,by omega,aj,⟨by omega,by omega⟩,λv w n5 H5 ax aq aR l3 l4 aS av=>?_⟩;have g5:=rW ax g4 aj.2.2 aR l3;have aF:=rV ax g4.at_ aj.2.2 aE au;have ay:=aj.1.mono (VK.dQ ax g4.at_ aj.2.2).tu;have aC:=VA.mono (.of qa) w aS;dsimp only[k8,eG];refine BY (A:=lV _ _ _) (λσ H'=>∃(v:V) (w:Vw) (k':Kd) (n':Int),σ=[some (.ref a),some (.ref b),some (.int (0+i)),some (.int m),some (.ref t4),some v,x6,x7,x8,x9]/\G0 K H' a b ns n'/\dc Pt d_ eh H'/\dc PV i4 i5 H'/\KA H' (.ref t4) (.c8 fs)/\VA c H' v w/\WD 3 w (.c8 fs)/\w.nn+w.pp<=32/\bh w (.c8 fs)=.inr k'/\n'<=n+2000) ?_ (λNx aU=>?_);rotate_left
   . refine⟨_,rfl,_,_,rfl,rfl,⟨by decide,by decide⟩,_,_,rfl,rfl,(by show(0:Int)<_;decide),rfl,_,rfl,dz (λ_=>?_) (λ_=>?_)⟩
     . obtain⟨mc,bG,cp⟩:∃mc:Nat,m / 10 % 5=mc/\mc<=4:=⟨(m / 10 % 5).toNat,by omega,by omega⟩;have b6:(mc:Int) * (70+140 * (1:Nat))<=4 * (70+140 * (1:Nat)):=Q1d (by omega) (by omega);refine⟨_,rfl,_,rfl,_,rfl,_,rfl,_,_,rfl,rfl,⟨by decide,by decide⟩,_,_,rfl,rfl,(by show(0:Int)<_;decide),a,b,ns,n5,.ref t4,.c8 fs,mc,by show [V.ref a,V.ref b,V.ref t4,V.int (m / 10 % 5),V.int 1]=_;rw[bG];rfl,by omega,g5,by omega,⟨ay,aQ,aq⟩,⟨by omega,by omega⟩,λv2 ws k' n6 H6 aG aH bH l5 l6 bI bJ=>?_⟩;obtain⟨e2,e3,ep,e4,e5⟩:=bJ.sum;exact aU _ _ ⟨v2,.ch ws,k',n6,rfl,rW aG g5 aq bH l5,aH,rV aG g5.at_ aq aF au,ay.mono (VK.dQ aG g5.at_ aq).tu,VA.mono (.of qa) _ bI,⟨by unfold Vw.dp;omega,by unfold Vw.nn;omega⟩,by unfold Vw.nn Vw.pp;omega,by unfold bh;exact e5 0,by omega⟩
     . obtain⟨k',bK⟩:=av.st;have d1:=av.dp;have d2:=av.nn;have d3:=av.pp;exact aU _ _ ⟨v,w,k',n5,rfl,g5,aq,aF,ay,aC,⟨by omega,by omega⟩,by omega,bK,by omega⟩
   intro σ H6 zq;obtain⟨v,w,k',n6,rfl,g6,aH,az,aI,bg,hW,aV,bL,cq⟩:=zq;clear aC ay aF g5 aS av ax aq aR aj aE g4;have aW:mu (.c8 fs) 3<=67:=by simp only[mu,Kd.dep];omega
   have cb:((CB 3:Nat):Int)=1728000000:=rfl;have cu:=uc (.c8 fs) 3 kW (by simp only[Kd.dep];omega);have cw:kc (.c8 fs) 3=(Kd.c8 fs).cB:=rfl;have cx:=pz fs;refine⟨_,rfl,_,rfl,_,rfl,a,b,ns,n6,.ref t4,.c8 fs,3,rfl,g6,az,aI,kW,by decide,aW,by omega,λv1 H7 bM aJ aX aw aY _ bN=>?_⟩;obtain⟨c1,c2⟩:=mz ns (.c8 fs) 3 n6 (by decide);have g7:=rW aJ g6 az aX c1;have bO:=rV aJ g6.at_ az aH au.symm;have aZ:=VK.dQ aJ g6.at_ az;have a3:=dm.of (ph ns (.c8 fs) kW 3 n6 (by decide));have a4:DS 23 (val ns (.c8 fs) 3 n6).1:=⟨by have:=pq ns (.c8 fs) 3 n6;simp only[Kd.dB] at this;omega,pH ns (.c8 fs) kW 3 n6 (by decide)⟩;generalize (val ns (.c8 fs) 3 n6).2=n7 at c1 c2 aX g7;generalize (val ns (.c8 fs) 3 n6).1=dd at a3 a4 aY;refine⟨_,rfl,_,rfl,_,rfl,a,b,ns,n7,.ref t4,.c8 fs,3,rfl,g7,aw,aI.mono aZ.tu,kW,by decide,aW,by omega,λv2 H8 bP aA a5 a6 a7 _ cy=>?_⟩;obtain⟨c3,c4⟩:=mz ns (.c8 fs) 3 n7 (by decide);have g8:=rW aA g7 aw a5 c3;have ak:=rV aA g7.at_ aw bO au.symm;have a8:=aZ.trans (VK.dQ aA g7.at_ aw);have a9:=dm.of (ph ns (.c8 fs) kW 3 n7 (by decide));have ba:DS 23 (val ns (.c8 fs) 3 n7).1:=⟨by have:=pq ns (.c8 fs) 3 n7;simp only[Kd.dB] at this;omega,pH ns (.c8 fs) kW 3 n7 (by decide)⟩;generalize (val ns (.c8 fs) 3 n7).2=n8 at c3 c4 a5 g8;generalize (val ns (.c8 fs) 3 n7).1=oo at a9 ba a7;have bj:=aY.dQ (H₀:=H6) aA g7.at_ aw ⟨_,g6.at_⟩ bN;have bb:=aI.mono a8.tu;have bo:=VA.mono a8 w bg;have er:du (.c8 fs)=some fs.toL:=rfl;obtain⟨kk,tk,xk,e1,k1,k2,k3⟩:=bb.ig er
   cases e1;obtain⟨Wv,Gv,bQ⟩:=Kk .vw (.c8 fs) ⟨by unfold Vw.dp;omega,by unfold Vw.nn;omega⟩;obtain⟨Wc,Gc,bR⟩:=Kk (.ch .nil) (.c8 fs) ⟨by unfold Vw.dp Vs.dp;omega,by unfold Vw.nn Vs.nn;omega⟩;refine⟨_,rfl,t4,_,_,_,rfl,rfl,cJ.of k1,rfl,tk,rfl,⟨_,cJ.of k2⟩,lY (xs:=xk) (λj σ H'=>∃y8 y9,σ=[some (.ref a),some (.ref b),some (.int (0+i)),some (.int m),some (.ref t4),some v,some v1,some v2,y8,y9]/\fj Pt H8 H'/\dc Pt d_ eh H') ⟨_,_,rfl,Kp.refl _ _,ak⟩ ?_ ?_ ?_⟩
   . rintro j σ H' _ ⟨y8,y9,rfl,kp,aN⟩;exact cJ.of ((VK.kp kp ak).tu _ _ k2)
   . rintro j yv σ H9 hy ⟨y8,y9,rfl,ao,aK⟩;have aL:=VK.kp ao ak;obtain⟨pp,aV,ci,u,ev,bS,hu⟩:=(k3.mono aL.tu).at hy;subst ev;have be:=Co (by unfold cR;rw[mD];exact aO) aV
     have hq:pp.2.dep<=3:=by
      obtain⟨j0,bT⟩:=Fs.u6 (fs:=fs) (x:=pp.1) (k:=pp.2) (by rw[<-pK fs,nX];exact be);have:=Fs.jN bT;omega
     refine⟨ci,_,rfl,cJ.of bS,rfl,_,_,rfl,_,_,rfl,rfl,?_⟩;refine⟨_,rfl,_,rfl,_,rfl,_,rfl,_,rfl,v,.ref t4,v1,v2,pp.1,w,.c8 fs,k',fs.toL,pp.2,dd,oo,bM,bP,23,rfl,hW,VA.mono aL w bo,⟨bb.mono aL.tu,aQ,aK⟩,bL,er,be,by omega,fH bj ao ak,a3,fH a7 ao ak,a9,⟨a4,ba,by omega⟩,λcz bp bq=>?_⟩;refine⟨true,rfl,dX ?_⟩;refine⟨Wv,_,Gv,λy dx hy bU bV=>?_⟩;obtain⟨S,hv⟩:=Cr (U:=λ_=>True) trivial hy bU bV;refine⟨y,dx,_,rfl,cV,rfl,_,rfl,_,pp.1,.vw,.c8 fs,rfl,bQ,VA.mono (.of qa) _ hv,λcA bW=>?_⟩;refine⟨true,by unfold kps;rfl,dX ?_⟩;refine⟨Wc,_,Gc,nK,λpl bX=>vq (w:=.ch .nil) (U:=λ_=>True) ⟨_,rfl⟩ (λ_ _=>trivial) ⟨pl,[],rfl,cV,by show 0<=40;omega,by unfold dM;rfl⟩ λx cC _ bY bZ=>?_⟩;have aD:=VA.mono (.of qa) _ bZ;obtain⟨a',b1,fs',e',b2,_,_,_,l4,_⟩:=aD.cls
     cases e';refine⟨x,b1,fs',rfl,b2,l4,_,rfl,_,pp.1,.ch .nil,.c8 fs,rfl,bR,aD,λcD b3=>?_⟩;refine⟨true,by unfold kps lM;rfl,dX ?_⟩;have sF:=S.trans (bW.trans ((Same.new bX).trans (bY.trans b3)));exact⟨_,_,rfl,ao.trans (bp.trans (Kp.of sF)),bq.same sF⟩
   . rintro σ H9 ⟨y8,y9,rfl,ao,aK⟩
     have b4:dc PV i4 i5 H9:=by
      obtain⟨ps,hP⟩:=ak.tab;obtain⟨cE,cF⟩:=a6.tab;refine Cu a6 λc o hc e=>ao c o (λz=>?_) e;rcases hc with hc|hc
      . exact au (hc.symm.trans z)
      . rw[z,hP] at e;cases e;exact hc.2 _ rfl
     have b5:=jc ao ak g8.at_;refine⟨_,_,_,_,_,_,_,_,n8,rfl,⟨?_,g8.len,b5,g8.pos⟩,aK,b4,by omega⟩;rcases g8.iw with⟨o,h⟩|h
     . exact .inl ⟨o,rM ao ak h (by intro ps z;cases z)⟩
     . exact .inr h
 . intro σ H' zq;obtain⟨x2,x3,x4,x5,x6,x7,x8,x9,n,rfl,_⟩:=zq;exact q _
end Pb
namespace Pb
open L2
theorem all_mk {l:W.OpenLaw}{w:World}{K:W.Frag}{mg:Str->Option Value}{base:Heap}{PS PV cN cP:Addr}(Z:cW es K mg)(T:Tb mg)(aG:W.CodeHd base (codeN "sorted_fields") PS)(aH:W.CodeHd base (codeN "_law_rows") PV)(ax:BM mg base)(aJ:PV≠PS)
 (ah:CF K c.tk ["names"]) (aa:CF K c.rn X5) (ag:CF K c.ne Xs) (ab:CF K c.un ["field"]) (ae:CF K c.wi Xi) (aj:CF K c.aT ["name"]) (af:CF K c.ch ["steps"]) (ai:rF K c.vw) (aq:mg "View"=some (.ref c.vw)) (ar:rL K mg "NoView" cN) (ak:rL K mg "CantPut" cP):
 Ok l.prog w K mg base cH "law" ["_law_script"] 197 (rX K PS PV):=by
 have N:=q_ (pG (P:=l.prog) (w:=w) (base:=base) T Z);have Nm:=zw T Z N;have aK:=λd=>kind_all (P:=l.prog) (w:=w) (base:=base) T Z d;have Fd:=zx 2 T Z Nm (aK 2);have V_:=zW (P:=l.prog) (w:=w) T Z aH ax 67;have SF:=Hh (P:=l.prog) (w:=w) T Z aG ax;have RO:=Hi T Z SF;have au:=(Hj (P:=l.prog) (w:=w) (base:=base) (K:=K) T Z).or (Hk T Z);have ay:=Hl (P:=l.prog) (w:=w) (base:=base) (K:=K) T Z;have aL:=Hm (P:=l.prog) (w:=w) (base:=base) (K:=K) T Z;have FB:=Hn (P:=l.prog) (w:=w) (base:=base) (K:=K) T Z;have NO:=Hr (P:=l.prog) (w:=w) (base:=base) (K:=K) T Z;have FK:=Hs T Z au;have EO:=Hu T Z au;have AS:=Hv (P:=l.prog) (w:=w) (base:=base) T Z;have M:=AO (P:=l.prog) (w:=w) (base:=base) T Z;have AA:=AX (P:=l.prog) (w:=w) (base:=base) T Z 60;have AF:=IZ Z (M 60).1;have PO:=HY (P:=l.prog) (w:=w) (base:=base) (K:=K) T Z;have RS:=H_ T Z PO;have WF:=Ia (P:=l.prog) (w:=w) (base:=base) T Z;have RN:=Ib T Z WF RS;have NE:=Ig T Z WF RS PO;have UN:=Ih T Z RS;have az:=Iy T ah Z EO AS ay RO;have aA:=IA T aa Z FK au AS FB RO;have aB:=IB T ag Z EO au AS ay FB RO;have aC:=IC T ab Z FK NO AS aL FB RO;have aD:=Iz (Pt:=PS) T aj Z FK AS;have BI:=λn d B=>IG (P:=l.prog) (w:=w) (base:=base) (Pt:=PS) (n:=n) (d:=d) B ar Z;have KR:=λn d B=>II (n:=n) (d:=d) T af Z (BI n d B);have aE:=λn d h9 B=>IH (n:=n) (d:=d) h9 T ae Z FK AS (BI n d B) FB RO
 have ao:=p_ (m:="behind") (ps:=mL) (sp:=gj c PS) (n:=λd=>11+3 * d)
  (λd v k h h0=>rO (n:=11+3 * d) h h0 ((Iw (P:=l.prog) (w:=w) (base:=base) Z).mono (by omega)) ((az).mono (by omega)) ((aA).mono (by omega)) ((aB).mono (by omega)) ((aC).mono (by omega)) ((aD).mono (by omega))
    (λ_=>rfl) (λss h=>⟨ss,rfl,h.sz⟩) (λo n h=>⟨o,n,rfl,h.sz⟩) (λss y h=>⟨ss,y,rfl,h.sz⟩) (λf h=>⟨f,rfl,h.sz⟩) (λf _=>⟨f,rfl⟩))
  (λd B=>(aE _ d (by show 9<=11+3 * d;omega) B).mono (by show 11+3 * d+2<=11+3 * (d+1);omega))
  (λd B=>(IJ (n:=11+3 * d) Z (KR _ d B)).mono (by omega))
 have aF:∀d,Om l.prog w K mg base cH c.ch "kinds_row" XH (13+3 * d) (pY c PS d):=λd=>(KR _ d (ao d)).mono (by show 11+3 * d+2<=13+3 * d;omega);have SA:=λn d S=>IW (P:=l.prog) (w:=w) (base:=base) (Pt:=PS) (n:=n) (d:=d) S T Z
 have av:=p_ (m:="see") (ps:=mM) (sp:=ij c PS) (n:=λd=>14+3 * d)
  (λd v k h h0=>rO (n:=14+3 * d) h h0 ((IK (P:=l.prog) (w:=w) (base:=base) Z).mono (by omega)) ((IL T ah Z PO).mono (by omega)) ((IM T aa Z RN).mono (by omega)) ((IP T ag Z NE).mono (by omega)) ((IQ T ab Z UN).mono (by omega)) ((IS T aj Z).mono (by omega))
    (λ_=>rfl) (λss h=>⟨ss,rfl,h.sz⟩) (λo n h=>⟨o,n,rfl,h.sz⟩) (λss y h=>⟨ss,y,rfl,h.sz⟩) (λf h=>⟨f,rfl,h.sz⟩) (λf h=>⟨f,rfl,h.sz⟩))
  (λd S=>(IV (n:=14+3 * d) (by omega) S T ae Z FK WF).mono (by omega))
  (λd S=>(IY (n:=14+3 * d) (d:=d) Z (IX af Z ((aF d).mono (by omega)) (SA _ d S))).mono (by omega))
 have aM:∀d,Ok l.prog w K mg base cH "seen_along" Xv (15+3 * d) (rN c PS d):=λd=>(SA _ d (av d)).mono (by show 14+3 * d+1<=15+3 * d;omega);have PI:=λn d B=>Jg (P:=l.prog) (w:=w) (base:=base) (Pt:=PS) (n:=n) (d:=d) B ak Z
 have aI:=p_ (m:="put") (ps:=pR) (sp:=iD c PS) (n:=λd=>186+3 * d)
  (λd v k h h0=>rO (n:=186+3 * d) h h0 ((I0 Z AF).mono (by omega)) ((I_ Z az AF T).mono (by omega)) ((Ja aa Z aA AF RN).mono (by omega)) ((Jb ag Z aB AF UN).mono (by omega)) ((Jc T ab Z aC AF NE NO FK).mono (by omega)) ((Jd aj Z aD AF WF).mono (by omega))
    (λh=>⟨rfl,h⟩) (λss h=>⟨ss,rfl,h⟩) (λo n h=>⟨o,n,rfl,h⟩) (λss y h=>⟨ss,y,rfl,h⟩) (λf h=>⟨f,rfl,h⟩) (λf h=>⟨f,rfl,h⟩))
  (λd B=>(Jh (n:=186+3 * d) (d:=d) (by omega) T ae Z ((aE _ d (by show 9<=11+3 * d;omega) (ao d)).mono (by show 11+3 * d+2<=_;omega)) AF FK (PI _ d B) WF).mono (by omega))
  (λd B=>(Jj (n:=186+3 * d) (d:=d) Z (Ji (by omega) T af Z ((aF d).mono (by omega)) ((aM d).mono (by omega)) AF (PI _ d B))).mono (by omega))
 have aw:=p_ (m:="keeps") (ps:=jU) (sp:=gF c) (n:=λd=>1+d)
  (λd v k h h0=>rO (n:=1+d) h h0 ((Jk (P:=l.prog) (w:=w) (base:=base) Z).mono (by omega)) ((Jm ah Z).mono (by omega)) ((Jp aa Z).mono (by omega)) ((Jq ag Z).mono (by omega)) ((Jn ab Z).mono (by omega)) ((Jl Z).mono (by omega))
    (λ_=>rfl) (λss _=>⟨ss,rfl⟩) (λo n _=>⟨o,n,rfl⟩) (λss y _=>⟨ss,y,rfl⟩) (λf _=>⟨f,rfl⟩) (λf _=>⟨f,rfl⟩))
  (λd B=>(Jo (d:=d+1) ae Z).mono (by omega))
  (λd B=>(Jr (n:=1+d) B T af Z).mono (by omega))
 have iT:=Js (P:=l.prog) (w:=w) (base:=base) T ah Z;have iC:=Jt (P:=l.prog) (w:=w) (base:=base) T af Z;have iR:=Ju (P:=l.prog) (w:=w) (base:=base) T aa Z;have iN:=Jv (P:=l.prog) (w:=w) (base:=base) T ag Z;have iU:=Jw (P:=l.prog) (w:=w) (base:=base) T ab Z;have iA:=Jx (P:=l.prog) (w:=w) (base:=base) T aj Z;have iW:=Jy (P:=l.prog) (w:=w) (base:=base) T ae Z;have FR:=JC (P:=l.prog) (w:=w) (base:=base) T Z;have SO:=JD T Z N;have aN:=JJ (P:=l.prog) (w:=w) (base:=base) (K:=K) T Z;have ST:=λd n0 h3 hd Gs Gc=>JR (P:=l.prog) (w:=w) (base:=base) (Pt:=PS) (d:=d) (n0:=n0) h3 hd T ai aq Z N aN SO FR (Z.oi iT) (Z.oi iR) (Z.oi iN) (Z.oi iU) (Z.oi iW) (Z.oi iA) Gs Gc;have CN:=λd n1 aO hd Gs=>JS (P:=l.prog) (w:=w) (base:=base) (Pt:=PS) (d:=d) (n1:=n1) aO hd T (ao 2) Z Gs (Z.oi iC);have S0:=ST 0 3 (by decide) (by decide) (Z.no λvs H Q E h=>absurd h.1 (by decide)) (Z.no λvs H Q E h=>absurd h.1 (by decide));have C0:=CN 0 17 (by decide) (by decide) (S0.mono (by decide));have S1:=ST 1 18 (by decide) (by decide) ((S0.mono (by decide)).imp λvs H Q E h=>h.2) (C0.imp λvs H Q E h=>h.2);have C1:=CN 1 19 (by decide) (by decide) S1;have LI:=JU (P:=l.prog) (w:=w) (base:=base) (K:=K) Z;have KE:=JV (Pt:=PS) (d:=3) (by decide) T (ao 3) (av 3) (aI 3) (aw 3) Z LI AA;exact JW (by decide) (by decide) (by decide) (by decide) aJ T ai aq (aw 3) Z N Fd S1 C1 V_ KE (Z.oi iC)
theorem JX:TabOk (jr es):=⟨by kernel_rfl,by kernel_rfl,λ_=>by kernel_rfl,λ_ _=>by kernel_rfl,λ_ _ _=>by kernel_rfl,λ_ _ _ _=>by kernel_rfl,λ_ _ _ _ _=>by kernel_rfl⟩
theorem JY (P:Params):ui es (KK P):=⟨by kernel_rfl,by kernel_rfl,by kernel_rfl,by kernel_rfl,by kernel_rfl⟩
theorem mV(h:Cls K C)(e:as.map (λa=>W.findIn K (.ref C) a)=as.map λ_=>some none):CF K C as:=⟨h,λa q=>List.map_inj_left.mp e a q⟩
def JZ (K:W.Frag) (tabs:List (Addr × Addr)):Sp:=λvs H Q _=>∃(a:Addr) (ns:List Int),vs=[.ref a]/\ie K H a ns/\ns.length<=63/\(∀q∈tabs,H q.2=some (.eX #[]))/\∀H',Q (.bl true) H'
theorem ie.ofT(o:qT tabs H)(h:cM K H a (ns.map V.int)):ie K H a ns:=by
 rcases h with(h|h)|h
 . rcases o a with z|⟨ob,xs,z⟩|⟨_,z⟩ <;> rw[h] at z <;> cases z
 . exact .inl h
 . exact .inr h
theorem walk {l:W.OpenLaw}{XP:(Str->Option Value)->Heap->Prop}{YP:World->Heap->Prop}{d:DefRec}{K:Params->W.Frag}(hn:l.most=some 63)(ab:d.params.defaults=[])
 (hY:∀(w:World) (h:Heap),YP w h->(K w.params).In h) (ae:∀w:World,W.noTabs (K w.params)=true) (aa:∀y∈(["sorted_fields","_law_rows"]:List Str),∃d',(PyProof.Rows.recsOf q).find? (λe=>e.name == y)=some d')
 (F:∀w:World,∃c1 P1 c2 P2:Addr,W.tabIn (K w.params) "sorted_fields"=some (c1,P1)/\W.tabIn (K w.params) "_law_rows"=some (c2,P2)/\∀(mg:Str->Option Value) (fa:Addr) (h:Heap),(K w.params).In h->h.Ns mainGlobals mg->mg d.name=some (.ref fa)->
   ∃fd:FuncData,(∀(s:Shared) (u:Value),BindsTo s fd ⟨[u],[]⟩ [("_law_script",u)])/\∀base:Heap,(K w.params).In base->base.Ns mainGlobals mg->BM mg base->fY l.prog w (K w.params) mg base cH 197 fa fd ["_law_script"] (rX (K w.params) P1 P2)):
 W.WalkO q loose XP YP l.row.toRowW d [] (λf vs=>PySem.call f vs):=
 L2.FZ (n:=63) (k:=197) (x:="_law_script") (names:=["sorted_fields","_law_rows"]) (sp:=λw tabs=>JZ (K w.params) tabs) hn (by decide) ab ⟨rfl,by decide,by decide⟩ hY ae (λw=>by
   obtain⟨c1,P1,c2,P2,af,ag,F⟩:=F w;refine⟨[(c1,P1),(c2,P2)],λq' hq=>?_,λmg fa h X G hm=>?_⟩
   . simp only[Q1i,Q23,or_false] at hq;rcases hq with e|e
     . exact⟨"sorted_fields",by simp,by rw[e];exact af⟩
     . exact⟨"_law_rows",by simp,by rw[e];exact ag⟩
   obtain⟨fd,hb,hF⟩:=F mg fa h X G hm;exact⟨fd,hb,λbase X1 G1 B=>(hF base X1 G1 B).imp λvs H Q E ⟨a,ns,e,hS,hl,hT,q⟩=>⟨a,ns,e,hS,hl,.inl (hT (c1,P1) (by simp)),.inl (hT (c2,P2) (by simp)),q⟩⟩)
   aa λw tabs H a ns hl hO ah ai=>⟨a,ns,rfl,ie.ofT hO ai,hl,ah,λ_=>rfl⟩
theorem fin (l:W.OpenLaw)(w:World)(mg:Str->Option Value)(fa:Addr)(h:Heap)(X:(KK w.params).In h)(G:h.Ns mainGlobals mg)(hm:mg "law"=some (.ref fa)):∃fd:FuncData,(∀(s:Shared) (u:Value),BindsTo s fd ⟨[u],[]⟩ [("_law_script",u)])/\∀base:Heap,(KK w.params).In base->base.Ns mainGlobals mg->BM mg base->fY l.prog w (KK w.params) mg base cH 197 fa fd ["_law_script"] (rX (KK w.params) 93 749):=by
 have Z:=(JY w.params).env JX X G;have T:Tb mg:=by constructor <;> exact W.mg_none_of X G (by kernel_rfl)
 obtain⟨fd,b,F⟩:=Z.law hm;refine⟨fd,b,λbase X1 _ aa=>F (all_mk (cN:=63) (cP:=82) Z T (W.codeHd_of_K X1 (by kernel_rfl)) (W.codeHd_of_K X1 (by kernel_rfl)) aa (by decide) ?_ ?_ ?_ ?_ ?_ ?_ ?_ ⟨by kernel_rfl,by kernel_rfl,by kernel_rfl⟩ (W.mg_of X G (by kernel_rfl)) ⟨W.mg_of X G (by kernel_rfl),by kernel_rfl,by kernel_rfl,by kernel_rfl⟩ ⟨W.mg_of X G (by kernel_rfl),by kernel_rfl,by kernel_rfl,by kernel_rfl⟩)⟩
 . exact mV (Z.cls (y:="Take")).1 (by kernel_rfl)
 . exact mV (Z.cls (y:="Rename")).1 (by kernel_rfl)
 . exact mV (Z.cls (y:="Nest")).1 (by kernel_rfl)
 . exact mV (Z.cls (y:="Unnest")).1 (by kernel_rfl)
 . exact mV (Z.cls (y:="Within")).1 (by kernel_rfl)
 . exact mV (Z.cls (y:="At")).1 (by kernel_rfl)
 . exact mV (Z.cls (y:="Chain")).1 (by kernel_rfl)
end Pb
open W PyProof.Rows
set_option maxRecDepth 100000 in
set_option maxHeartbeats 0 in
theorem PySem.Challenge.cw_putback_k33_keeps_holds : PySem.Challenge.rw_putback_k33_keeps.Holds := by
 w_on
 refine holds_law Pb.said λsaid=>?_;refine holds_open (q:=Pb.qv) (loose:=[]) (Xt:=λs=>xlAt Pb.qv [] s && recOk (RowW.records (PySem.W.OpenRow.toRowW (PySem.W.OpenLaw.row PySem.Challenge.rw_putback_k33_keeps))) s) (XP:=XL Pb.qv []) (Yf:=Hook.obs (PySem.W.kmHook Pb.KK Pb.k6 Pb.lQ [93,749,811])) (Ya:=Hook.val (PySem.W.kmHook Pb.KK Pb.k6 Pb.lQ [93,749,811])) (YP:=Hook.says (PySem.W.kmHook Pb.KK Pb.k6 Pb.lQ [93,749,811])) (N:=11013) ?hl (Hook.of (PySem.W.kmHook Pb.KK Pb.k6 Pb.lQ [93,749,811])) (Hook.keeps (PySem.W.kmHook Pb.KK Pb.k6 Pb.lQ [93,749,811])) (λs e=>xl_of s (Bool.and_eq_true_iff.mp e).1) XL.keeps (by rfl) (by rfl) (by rfl) (λs e=>recFacts_of (Bool.and_eq_true_iff.mp e).2) (by rfl) (by first|assumption|decide +kernel) (by decide +kernel) ⟨rfl,rfl,rfl,rfl,rfl,by decide +kernel⟩ ?hw ?hc
 case hl=>exact Pb.Cy (by rfl) (by rfl) (λs=>rfl) (by rfl) (Q3o 39 Pb.r_).symm (λP=>by kernel_rfl) Pb.CJ (Pb.Cz Pb.CK (Pb.CC Pb.CL Pb.CM Pb.CO))
 (case hw=>w_witness2)
 k_fill
 refine Pb.walk (l:=PySem.Challenge.rw_putback_k33_keeps) rfl rfl (λw h Y=>PySem.W.km_in_of Y) (λw=>by kernel_rfl) ?HR λw=>⟨Pb.codeN "sorted_fields",93,Pb.codeN "_law_rows",749,by kernel_rfl,by kernel_rfl,Pb.fin _ w⟩;intro y hy;simp only[Q1i,Q23,or_false] at hy;rcases hy with rfl|rfl <;> exact⟨_,rfl⟩
