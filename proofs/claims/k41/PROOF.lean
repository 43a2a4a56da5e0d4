import PyProof.Rows.All
import Wide.All
import OpenK.AllK
import Wide.FinOn
import Lean
import PyProof.EqAt
import PyProof.EqKinds
import PyProof.TupleCall
import KE.KSortAsk
import PyProof.NeKinds
import PyProof.StationsW
import PyProof.ExcClass3
import PyProof.Rows.Own
import PyProof.NsDelKeeps
import KE.KIsAll
import PyProof.ExcAttrAll.ValueError
import PyProof.IsiH_list
import PyProof.Rows.FStr
import PyProof.FString4
import PyProof.StrLawsRepr
import PyProof.Rows.StrMeet
import KE.KEqDict
import PyProof.Draws
import KE.KDictOf
import PyProof.ExcInit
import PyProof.InstStoreFacts
import PyProof.ExcBaseAll.ValueError
import PySem.Challenge.RW_putback_k41_keep_refused_and_twice
theorem Zr {α:Sort _}{A B:α->Prop}{x:α}(a:A x)(b:B x):∃y,A y/\B y:=⟨x,a,b⟩
abbrev XA:List PySem.Str:=["_law_script","_law_at","_law_m","_law_kind_here","_law_pool_here","_law_source","_law_other","_law_third","_law_look_here","_law_taken","_law_first","_law_seen","_law_wrong","_law_view","_law_due_here","_law_new","_law_bare"]
abbrev XB:List PySem.Str:=["_law_row","_law_script","_law_at","_law_m","_law_kind_here","_law_pool_here","_law_source","_law_other","_law_third","_law_look_here","_law_taken","_law_first","_law_seen","_law_wrong","_law_view","_law_due_here","_law_new","_law_bare"]
abbrev XD:List PySem.Str:=["_law_script","_law_at"]
abbrev XE:List PySem.Str:=["_law_a","_law_b","_law_kind_here","_law_found","_law_due_here","_law_name","_law_inner"]
abbrev XF:List PySem.Str:=["_law_script","_law_at","_law_kind_here","_law_rows_here"]
abbrev XG:List PySem.Str:=["_law_kind_here","_law_found","_law_due_here"]
abbrev XH:List PySem.Str:=["_law_kind_here","_law_look_here","_law_source","_law_seen","_law_wrong","_law_hidden","_law_taken","_law_n"]
abbrev XI:List PySem.Str:=["_law_kind_here","_law_found","_law_due_here","_law_name","_law_inner"]
abbrev XJ:List PySem.Str:=["_law_script","_law_at","_law_many","_law_deep"]
abbrev XM:List PySem.Str:=["_law_script","_law_at","_law_kind_here","_law_room"]
abbrev XN:List PySem.Str:=["_law_kind_here","_law_look_here","_law_source","_law_seen","_law_wrong"]
abbrev XO:List PySem.Str:=["_law_row","_law_kind_here","_law_look_here","_law_source","_law_seen","_law_wrong","_law_hidden","_law_taken","_law_n"]
abbrev XQ:List PySem.Str:=["_law_found","_law_due_here"]
abbrev XR:List PySem.Str:=["_law_script","_law_at","_law_kind_here","_law_pool_here","_law_room","_law_rows_here","_law_one","_law_m","_law_row"]
abbrev XS:List PySem.Str:=["fields","record"]
abbrev XT:List PySem.Str:=["_law_script","_law_at","_law_kind_here","_law_room","_law_made","_law_name","_law_inner","_law_top","_law_many"]
abbrev XU:List PySem.Str:=["_law_script","_law_at","_law_place","_law_value_here"]
abbrev XV:List PySem.Str:=["_law_view","_law_kind_here","_law_source","_law_seen"]
abbrev XW:List PySem.Str:=["_law_script","_law_at","_law_kind_here","_law_there"]
abbrev XX:List PySem.Str:=["_law_script","_law_at","_law_kind_here","_law_many"]
abbrev XY:List PySem.Str:=["kind","rows"]
abbrev XZ:List PySem.Str:=["_law_kind_here","_law_rows_here"]
abbrev Xa:List PySem.Str:=["_law_script","_law_at","_law_kind_here","_law_room","_law_rows_here","_law_seen","_law_k","_law_row"]
abbrev Xb:List PySem.Str:=["_law_script","_law_at","_law_kind_here","_law_many","_law_lead","_law_pool_here","_law_k","_law_one"]
abbrev Xc:List PySem.Str:=["_law_script","_law_at","_law_leaves","_law_deep"]
abbrev Xd:List PySem.Str:=["_law_kind_here","_law_row"]
abbrev Xe:List PySem.Str:=["_law_script","_law_at","_law_deep"]
abbrev Xf:List PySem.Str:=["_law_script","_law_at","_law_many"]
abbrev Xg:List PySem.Str:=["_law_look_here","_law_value_here"]
abbrev Xh:List PySem.Str:=["_law_script","_law_at","_law_kind_here","_law_pool_here","_law_room"]
abbrev Xi:List PySem.Str:=["self","kind","source","seen","hidden","hidden_keys","number","row"]
abbrev Xj:List PySem.Str:=["_law_script","_law_at","_law_many","_law_deep","_law_names_here"]
abbrev Xk:List PySem.Str:=["_law_path","_law_value_here"]
abbrev Xl:List PySem.Str:=["self","kind","source","seen"]
abbrev Xm:List PySem.Str:=["_law_kind_here","_law_path"]
abbrev Xn:List PySem.Str:=["_law_rows","_law_some","in_order","_law_sorted"]
abbrev Xo:List PySem.Str:=["_law_a","_law_b","_law_found","_law_due_here"]
abbrev Xp:List PySem.Str:=["self","look"]
theorem zzx {α:Sort _}{β:α->Sort _}{γ:∀a,β a->Sort _}{δ:∀a b,γ a b->Sort _}{p:∀a b c,δ a b c->Prop}{G:Prop}(h:∃a b c d,p a b c d)(k:∀a b c d,p a b c d->G):G:=let⟨a,b,c,d,e⟩:=h;k a b c d e
theorem zza {A B C D E G:Prop}(h:A/\B/\C/\D/\E)(k:A->B->C->D->E->G):G:=k h.1 h.2.1 h.2.2.1 h.2.2.2.1 h.2.2.2.2
local macro_rules|`(tactic|obtain⟨$s,*⟩:=$t)=>do
 let a:=s.getElems;if a.size<6 then Lean.Macro.throwUnsupported
 let b:=a.extract 4 a.size;let q←(a.extract 0 4).mapM λp=>`(rintroPat|($p:rcasesPatLo));let c←match t with|`($x:ident)=>`(tactic|try clear $x)|_=>`(tactic|skip)
 `(tactic|((first|refine zzx $t ?_|refine zza $t ?_);$c;rintro $q* e;obtain⟨$b,*⟩:=e))
open PySem renaming wpAny_bind→Q0,wpAny_pure→Q0c,wpAny_mono→Q0n
open Nat renaming le_refl→Q00,zero_le→Q04,lt_of_lt_of_le→Q09,ne_of_lt→Q0a,le_trans→Q0e,le_of_lt→Q0k,lt_irrefl→Q0m,ne_of_gt→Q0t,mul_le_mul_right→Q0z,lt_succ_self→Q10,le_of_not_lt→Q17,le_succ→Q1b,le_add_right→Q1k,not_lt_zero→Q1l,succ_mul→Q1m,one_le_pow→Q1p,le_of_eq→Q1t,lt_of_le_of_lt→Q1y,le_max_left→Q1z,le_max_right→Q2,pow_succ→Q2e,sub_succ_lt_self→Q2j,sub_self→Q2m,add_sub_cancel→Q2n,add_le_add_left→Q2v,mul_left_comm→Q34,add_le_add_right→Q37,mul_le_mul_left→Q38,le_mul_of_pos_right→Q39,le_succ_of_le→Q3c,succ_le_succ→Q3d,le_antisymm→Q3e,add_sub_cancel_left→Q3p
open PySem.Heap renaming lt_size→Q01,get?_push_of_some→Q07,get?_push_size→Q0o,get?_update_other→Q15,get?_update_self→Q1g,size_push→Q1s,get?_none_of_le→Q24,size_update→Q2c,get?_update_ne→Q2d,get?_push_at→Q2l,get?_push_ne→Q31
open List renaming getElem?_eq_getElem→Q02,length_map→Q03,length_append→Q05,mem_cons_self→Q06,mem_append_right→Q08,mem_cons_of_mem→Q0b,getD_eq_getElem?_getD→Q0d,size_toArray→Q0f,map_append→Q0i,length_cons→Q0j,length_take→Q0l,mem_of_getElem?→Q0p,append_assoc→Q0q,getElem?_map→Q0r,take_length→Q0s,getElem_mem→Q0u,mem_append_left→Q0v,nodup_nil→Q0w,take_succ→Q0x,append_nil→Q0y,map_cons→Q1,length_drop→Q11,all_eq_true→Q12,getElem_of_mem→Q13,getElem?_append_right→Q14,length_filter_le→Q16,lookup_cons→Q18,getElem_take→Q19,find?_cons→Q1c,mem_map_of_mem→Q1d,take_of_length_le→Q1e,take_sublist→Q1f,any_cons→Q1h,filter_cons→Q1i,flatten_append→Q1o,getElem?_set_ne→Q1r,getElem?_append_left→Q1u,length_replicate→Q1v,length_singleton→Q1x,filterMap_cons→Q23,getElem_inj→Q25,getElem?_set_self→Q26,of_mem_zip→Q27,length_nil→Q28,pairwise_map→Q2a,length_range→Q2b,replicate_succ→Q2f,any_map→Q2g,take_zero→Q2h,any_eq_true→Q2i,filter_append→Q2k,mem_cons→Q2o,not_mem_nil→Q2p,getElem?_replicate→Q2s,all_cons→Q2u,forIn_cons→Q2w,ext_getElem→Q2z,pairwise_singleton→Q3,zip_cons_cons→Q33,foldl_cons→Q35,drop_eq_getElem_cons→Q3a,drop_length→Q3b,drop_of_length_le→Q3f,nil_append→Q3g,take_nil→Q3h,drop_nil→Q3i,getElem?_take→Q3j,map_take→Q3k,map_drop→Q3l,take_append_of_le_length→Q3m,mem_of_mem_take→Q3n,mem_of_mem_drop→Q3o,take_append_drop→Q3q,filter_sublist→Q3r
open Int renaming emod_nonneg→Q0g,emod_lt_of_pos→Q0h,le_refl→Q1a,mul_le_mul_of_nonneg_right→Q1n,toNat_natCast→Q1w,natCast_add→Q20,add_mul→Q21,lt_of_lt_of_le→Q36,mul_le_mul→Q3s
open Array renaming getD_eq_getD_getElem?→Q1j,length_toList→Q1q,append_empty→Q22,empty_append→Q2q,find?_toList→Q2r,getElem?_eq_getElem→Q2y,size_append→Q30,forIn_toList→Q32
open Option renaming isSome_map→Q29,getD_none→Q2t,getD_some→Q2x
set_option genSizeOf false
set_option Elab.async false
set_option linter.all false
set_option maxRecDepth 100000
set_option maxHeartbeats 4000000
open PySem
theorem wH:2<=PySem.sizeLine:=by decide
namespace L2
open Spec PyProof.Rows
noncomputable def il (s:Stmt):Arguments:=match s with
 | .FunctionDef _ a _ _ _ _ _ _ _ _=>a
 |_=>{ posonlyargs:=[],args:=[],vararg:=none,kwonlyargs:=[],kw_defaults:=[],kwarg:=none,defaults:=[] }
noncomputable def g_ (s:Stmt):List Stmt:=match s with
 | .FunctionDef _ _ b _ _ _ _ _ _ _=>b
 |_=>[]
noncomputable def eX (s:Stmt):Scope:=match s with
 | .FunctionDef _ _ _ _ _ _ sc _ _ _=>sc
 |_=>{ kind:=.function,names:=[],isGenerator:=false,isCoroutine:=false }
end L2
namespace Pb
open L2
noncomputable def top (i:Nat):Stmt:=PySem.Challenge.pw_putback_k41_keep_refused_and_twice.main.body.getD i (.Pass ⟨0,0,0,0⟩)
noncomputable def gj (i j:Nat):Stmt:=match top i with
 | .ClassDef _ _ _ body _ _ _ _ _ _ _=>body.getD j (.Pass ⟨0,0,0,0⟩)
 |_=>.Pass ⟨0,0,0,0⟩
end Pb
namespace Pb
open W
noncomputable def treeOf:List Obj->Nat->BT->Option BT
 |[],_,t=>some t
 |o::l,n,t=>match((t.ins n o).get n).isSome with
  |true=>treeOf l (n+1) (t.ins n o)
  |false=>none
theorem wI {life:Life}:∀(l:List Obj) (n:Nat) (t t':BT),treeOf l n t=some t'->absHeap t' (n+l.length) life=⟨(absHeap t n life).objs++l.toArray,life⟩
 |[],n,t,t',h=>by
  cases h;show absHeap t n life=_;have:(absHeap t n life).objs++#[]=(absHeap t n life).objs:=Q22;rw[this];rfl
 |o::l,n,t,t',h=>by
  unfold treeOf at h
  cases e:((t.ins n o).get n).isSome with
  |false=>rw[e] at h;cases h
  |true=>
   rw[e] at h;have:=wI (life:=life) l (n+1) _ t' h;rw[absHeap_ins e] at this;have I:n+(o::l).length=n+1+l.length:=by rw[Q0j];omega
   rw[I,this];show Heap.mk ((absHeap t n life).objs.push o++l.toArray) life=_;congr 1;apply Array.ext';simp
noncomputable def oz (tb:String->Option Builtin) (p:Program) (w:World) (I:Nat) (J:Option Value):Nat->SharedT->Thread->Option SharedT
 |0,_,_=>none
 |n+1,s,t=>match through t with
  |true=>some s
  |false=>match stepOk I J t with
   |false=>none
   |true=>match stepT (denote tb) p w s t with
    |some (s',t')=>oz tb p w I J n s' t'
    |none=>none
theorem wJ {tb:String->Option Builtin}{p:Program}{w:World}{I:Nat}{J:Option Value}:∀{n:Nat}{s s':SharedT}{t:Thread},oz tb p w I J n s t=some s'->topRun tb p w I J n s.abs t=some s'.abs
 |0,_,_,_,h=>by cases h
 |n+1,s,s',t,h=>by
  unfold oz at h;unfold topRun
  cases Y:through t with
  |true=>rw[Y] at h;cases h;rfl
  |false=>
   rw[Y] at h
   cases hk:stepOk I J t with
   |false=>rw[hk] at h;cases h
   |true=>
    rw[hk] at h
    cases U:stepT (denote tb) p w s t with
    |none=>rw[U] at h;cases h
    |some r=>obtain⟨aa,ab⟩:=r;rw[U] at h;rw[stepT_spec U];exact wJ h
noncomputable abbrev l4:=@W.Fast.tw10156331382660048174
noncomputable abbrev jJ:=@W.Fast.tw11892475500146522536
noncomputable abbrev jK:=@W.Fast.tw14364793385576792824
noncomputable abbrev oA:=@W.Fast.tw6613529449190102663
noncomputable abbrev seenQ:=@W.Fast.tw4187177175401517315
noncomputable def l5 (p:Program) (w:World) (I:Nat) (J:Option Value):Nat->SharedT->Thread->Option SharedT
 |0,_,_=>none
 |n+1,s,t=>match through t with
  |true=>some s
  |false=>match oA I J t with
   |false=>none
   |true=>match l4 (jJ jK) p w s t with
    |some (s',t')=>l5 p w I J n s' t'
    |none=>none
theorem wK {p:Program}{w:World}{I:Nat}{J:Option Value}:∀(n:Nat) (s:SharedT) (t:Thread),l5 p w I J n s t=oz treeTable p w I J n s t
 |0,_,_=>rfl
 |n+1,s,t=>by
  unfold l5 oz;have U:oA I J t=stepOk I J t:=congrFun (congrFun (congrFun W.Fast.te6613529449190102663.symm _) _) _;have Y:l4 (jJ jK) p w s t=stepT (denote treeTable) p w s t:=by rw[show @l4=@stepT from W.Fast.te10156331382660048174.symm,show @jJ=@denote from W.Fast.te11892475500146522536.symm,show @jK=@treeTable from W.Fast.te14364793385576792824.symm]
  rw[U,Y];simp only[wK n]
noncomputable def looksAt (p q:Program) (loose:List Str) (Xt:Shared->Bool) {α:Type}(Yf:Shared->α) (g0:Bool) (h₀:Heap) (s:Shared):=
 ((staticsOk (importedModules p.main.body) h₀ s.heap && namesBound p s.heap && gensDone s && laidKept h₀ s.heap),seenQ q loose (importedModules p.main.body) Xt g0 s,Yf s)
noncomputable def wM:List (Nat × Obj)->BT->BT
 |[],t=>t
 |(a,o)::l,t=>wM l (t.ins a o)
noncomputable def sF:Nat->List Obj->BT->BT
 |_,[],t=>t
 |n,o::l,t=>sF (n+1) l (t.ins n o)
noncomputable def oB (p:Program) (w:World) (I:Nat) (J:Option Value):Nat->SharedT->Thread->Option (Flow × SharedT × Code × Pos)
 |0,_,_=>none
 |n+1,s,t=>match endAt 1 t with
  |some f=>some (f,s,t.code,t.pos)
  |none=>match oA I J t with
   |false=>none
   |true=>match l4 (jJ jK) p w s t with
    |some (s',t')=>oB p w I J n s' t'
    |none=>none
theorem wN (I:Nat)(J:Option Value)(t:Thread):oA I J t=stepOk I J t:=congrFun (congrFun (congrFun W.Fast.te6613529449190102663.symm _) _) _
theorem wO:@jJ jK=denote treeTable:=by rw[show @jJ=@denote from W.Fast.te11892475500146522536.symm,show @jK=@treeTable from W.Fast.te14364793385576792824.symm]
theorem wQ (p:Program)(w:World)(s:SharedT)(t:Thread):l4 (jJ jK) p w s t=stepT (denote treeTable) p w s t:=by rw[show @l4=@stepT from W.Fast.te10156331382660048174.symm,wO]
theorem wR {p:Program}{w:World}{I:Nat}{J:Option Value}:∀(n:Nat) (s:SharedT) (t:Thread),oB p w I J n s t=segRunT treeTable p w I J 1 n s t
 |0,_,_=>rfl
 |n+1,s,t=>by
  unfold oB segRunT;rw[wN,wQ]
  cases endAt 1 t with
  |some f=>rfl
  |none=>
   cases stepOk I J t with
   |false=>rfl
   |true=>
    cases stepT (denote treeTable) p w s t with
    |none=>rfl
    |some r=>obtain⟨s',t'⟩:=r;exact wR n s' t'
noncomputable def oE (tb:String->Option Builtin) (p:Program) (w:World) (I:Nat) (J:Option Value):Nat->SharedT->Thread->Option (SharedT × Thread)
 |0,s,t=>some (s,t)
 |n+1,s,t=>match through t with
  |true=>none
  |false=>match stepOk I J t with
   |false=>none
   |true=>match stepT (denote tb) p w s t with
    |some (s',t')=>oE tb p w I J n s' t'
    |none=>none
theorem wU {tb:String->Option Builtin}{p:Program}{w:World}{I:Nat}{J:Option Value}:∀{n:Nat}{s s':SharedT}{t t':Thread},oE tb p w I J n s t=some (s',t')->topGo tb p w I J n s.abs t=some (s'.abs,t')
 |0,s,s',t,t',h=>by
  have h:some (s,t)=some (s',t'):=h
  cases h;rfl
 |n+1,s,s',t,t',h=>by
  unfold oE at h;unfold topGo
  cases Y:through t with
  |true=>rw[Y] at h;cases h
  |false=>
   rw[Y] at h
   cases hk:stepOk I J t with
   |false=>rw[hk] at h;cases h
   |true=>
    rw[hk] at h
    cases U:stepT (denote tb) p w s t with
    |none=>rw[U] at h;cases h
    |some r=>obtain⟨aa,ab⟩:=r;rw[U] at h;rw[stepT_spec U];exact wU h
noncomputable def p9 (p:Program) (w:World) (I:Nat) (J:Option Value):Nat->SharedT->Thread->Option (SharedT × Thread)
 |0,s,t=>some (s,t)
 |n+1,s,t=>match through t with
  |true=>none
  |false=>match oA I J t with
   |false=>none
   |true=>match l4 (jJ jK) p w s t with
    |some (s',t')=>p9 p w I J n s' t'
    |none=>none
theorem wV {p:Program}{w:World}{I:Nat}{J:Option Value}:∀(n:Nat) (s:SharedT) (t:Thread),p9 p w I J n s t=oE treeTable p w I J n s t
 |0,_,_=>rfl
 |n+1,s,t=>by
  unfold p9 oE;rw[wN,wQ];simp only[wV n]
noncomputable def p_ (p:Program) (w:World) (I:Nat) (J:Option Value) (env:Env) (c:Code) (U:Pos) (l:List Stmt) (k1 k2 k3:Nat) (s:SharedT):Option (Thread × Code × Code × SharedT × Pos):=
 match p9 p w I J k1 s (topStub p) with
 |none=>none
 |some (s1,Y)=>match oB p w I J k2 s1 (blockOf (behindTheImports p) env c Y.pos [topFrame U]) with
  |some (.next,s2,c2,p2)=>(match oB p w I J k3 s2 (piecesOf l env c p2 [topFrame U]) with
   |some (.next,s3,c3,p3)=>some (Y,c2,c3,s3,p3)
   |_=>none)
  |_=>none
theorem DW {p:Program}{w:World}{I:Nat}{J:Option Value}{env:Env}{c:Code}{Y U p3:Pos}{l rest:List Stmt}{k1 k2 k3 N:Nat}{s s3:SharedT}{r:Shared}(hb:behindTheImports p=l++rest)
 (h:p_ p w I J env c Y l k1 k2 k3 s=some (⟨jJ jK (.body (behindTheImports p) env),c,U,[topFrame Y]⟩,c,c,s3,p3))
 (k:topRun treeTable p w I J N s3.abs (restOf rest env c p3 [topFrame Y])=some r):topRun treeTable p w I J (k1+(k2+(k3+N))) s.abs (topStub p)=some r:=by
 unfold p_ at h;split at h
 . cases h
 next s1 t1 e1=>
  split at h
  next s2 c2 p2 e2=>
   split at h
   next aa c3 ab e3=>
    cases h;rw[wV] at e1;rw[wR] at e2 e3;have g1:=wU e1;rw[wO] at g1;have g3:=piece_app (rest:=rest) (segRun_of e3) k;rw[<-hb] at g3;exact go_top g1 (piece_block (segRun_of e2) g3)
   . cases h
  . cases h
noncomputable def sG (P:Params):BT:=(treeOf (boot_heap P).objs.toList 0 .nil).getD .nil
noncomputable def qa (w:World) (os:OsState):SharedT:=⟨sG w.params,(boot_heap w.params).objs.size,(boot_heap w.params).life,#[],boot_drawn,boot_toks,os⟩
theorem DX {p q:Program}{loose:List Str}{Xt:Shared->Bool}{α:Type}{Yf:Shared->α}{Ya:World->α}{N:Nat}{g0:Bool}{env:Env}{c:Code}{q0 U p3:Pos}{l rest:List Stmt}{k1 k2 k3 N4 I:Nat}{J:Option Value}{S3:World->OsState->SharedT}
 (e:opening p=plainProg p.main.scope.names) (hN:Nat.ble 600 N=true) (f:∀s,fenceModules? p s=some s) (ab:N=k1+(k2+(k3+N4))) (hb:behindTheImports p=l++rest)
 (b0:∀P:Params,((boot_heap P).isNs mainGlobals,(treeOf (boot_heap P).objs.toList 0 .nil).isSome,(boot_heap P).objs.size,(boot_heap P).nsMap mainGlobals "__annotations__")=(true,true,I,J))
 (Y:∀w os,p_ p w I J env c q0 l k1 k2 k3 (qa w os)=some (⟨jJ jK (.body (behindTheImports p) env),c,U,[topFrame q0]⟩,c,c,S3 w os,p3))
 (aa:∀w os,((l5 p w I J N4 (S3 w os) (restOf rest env c p3 [topFrame q0])).map λ(s:SharedT)=>looksAt p q loose Xt Yf g0 (boot_heap w.params) s.abs)=some (true,openGood q loose,Ya w)):LeftO p q loose Xt Yf Ya N g0:=λw=>by
 obtain⟨⟨h,gs,d,k,os⟩,e1,e'⟩:=Option.map_eq_some_iff.mp (boot_open e hN f w);obtain⟨rfl,rfl,rfl,rfl⟩:h=boot_heap w.params/\gs=Array.mk []/\d=boot_drawn/\k=boot_toks:=by simpa using e'
 have ac:=b0 w.params;obtain⟨z,y0,hsz,ae⟩:_/\_/\_/\_:=by simpa only[Prod.mk.injEq] using ac
 obtain⟨T,y⟩:=Option.isSome_iff_exists.mp y0;obtain⟨s,r1,r2⟩:=Option.map_eq_some_iff.mp (aa w os);rw[wK] at r1;have r3:=DW hb (Y w os) (wJ r1);rw[<-ab] at r3;have hT:=wI (life:=(boot_heap w.params).life) _ _ _ _ y
 have hS:SharedT.abs (qa w os)=⟨boot_heap w.params,#[],boot_drawn,boot_toks,os⟩:=by
  unfold SharedT.abs qa sG;dsimp only;rw[y];dsimp only[Option.getD];rw[Nat.zero_add,Q1q] at hT;rw[hT];have e0:(absHeap BT.nil 0 (boot_heap w.params).life).objs=#[]:=rfl;rw[e0,Q2q,Array.toArray_toList]
 rw[hS] at r3
 have t:topFrom treeTable p w N ⟨boot_heap w.params,#[],boot_drawn,boot_toks,os⟩=some s.abs:=by
  unfold topFrom;dsimp only;rw[z,hsz,ae,r3];have l1:=congrArg (λz=>z.1) r2;dsimp only[looksAt] at l1;show(match staticsOk (importedModules p.main.body) (boot_heap w.params) s.abs.heap && namesBound p s.abs.heap && gensDone s.abs && laidKept (boot_heap w.params) s.abs.heap with|true=>_|false=>_)=_;rw[l1]
 unfold openEnds;rw[e1];show(topFrom treeTable p w N _).map _=_;rw[t];have l2:=congrArg (λz=>z.2) r2;dsimp only[looksAt] at l2;rw[show @seenQ=@openSeen from W.Fast.te4187177175401517315.symm] at l2;exact congrArg some l2
theorem DY {p q:Program}{loose:List Str}{Xt:Shared->Bool}{α:Type}{Yf:Shared->α}{Ya:World->α}{g0:Bool}{U I:Nat}{J:Option Value}{Y S5:World->OsState->SharedT}{t:Thread}
 (b:∀w os,l5 p w I J U (Y w os) t=some (S5 w os)) (l:∀w os,looksAt p q loose Xt Yf g0 (boot_heap w.params) (S5 w os).abs=(true,openGood q loose,Ya w)):
 ∀w os,((l5 p w I J U (Y w os) t).map λ(s:SharedT)=>looksAt p q loose Xt Yf g0 (boot_heap w.params) s.abs)=some (true,openGood q loose,Ya w):=λw os=>by
 rw[b];exact congrArg some (l w os)
theorem DZ {p q:Program}{loose:List Str}{Xt:Shared->Bool}{α:Type}{Yf:Shared->α}{Ya:World->α}{g0:Bool}{I:World->OsState->SharedT}
 (J:∀w os,(staticsOk (importedModules p.main.body) (boot_heap w.params) (I w os).abs.heap && namesBound p (I w os).abs.heap && gensDone (I w os).abs && laidKept (boot_heap w.params) (I w os).abs.heap)=true)
 (U:∀w os,seenQ q loose (importedModules p.main.body) Xt g0 (I w os).abs=openGood q loose) (Y:∀w os,Yf (I w os).abs=Ya w):
 ∀w os,looksAt p q loose Xt Yf g0 (boot_heap w.params) (I w os).abs=(true,openGood q loose,Ya w):=λw os=>Prod.ext (J w os) (Prod.ext (U w os) (Y w os))
end Pb
namespace Pb
open L2
noncomputable section
noncomputable def hF (x q:Str) (s:Stmt) (m:Str) (n c:Nat):Obj:=.mk (.type "function") none (.func (.mk x q (il s) (.stmts (g_ s)) (eX s) 3 [] .none .none .none (.str m n) none (.ref c) .none 0)) #[]
noncomputable def hR (x q:Str) (s:Stmt):Obj:=.mk .none none (.func (.mk x q (il s) (.stmts (g_ s)) (eX s) 0 [] .none .none .none .none none .none .none 0)) #[]
noncomputable def hC (x q:Str) (a l n k r e:Nat):Obj:=.mk (.type "code") none (.fields #[.str x a,.str q (a+1),.str (.ofString "/claim/cut.py") (a+2),.int l 0,.int n 0,.int 0 0,.int 0 0,.int k 0,.ref r,.bool true,.int 181 0,.ref (r+1),.none,.ref (r+2),.ref (r+3),.ref (r+4),.int e 0,.int l 0,.str (.ofString "/claim/cut.py") (e+1)]) #[]
noncomputable def wW (x q:Str) (a l n k r e:Nat):Obj:=.mk (.type "code") none (.fields #[.str x a,.str q (a+1),.str (.ofString "/claim/cut.py") (a+2),.int l 0,.int n 0,.int 0 0,.int 0 0,.int k 0,.ref r,.bool true,.int 181 0,.ref (r+1),.none,.none,.none,.ref (r+2),.int e 0,.int l 0,.str (.ofString "/claim/cut.py") (e+1)]) #[]
noncomputable def hK (x:Str) (a l r e:Nat):Obj:=.mk (.type "code") none (.fields #[.str x a,.str x (a+1),.str (.ofString "/claim/cut.py") (a+2),.int l 0,.int 0 0,.int 0 0,.int 0 0,.int 0 0,.ref r,.bool false,.int 181 0,.ref (r+1),.none,.none,.none,.none,.int e 0,.int l 0,.str (.ofString "/claim/cut.py") (e+1)]) #[]
noncomputable def f6 (x:Str) (s:Stmt) (m:Str) (n c:Nat):Obj:=hF x x s m n c
noncomputable def fT (x:Str) (s:Stmt):Obj:=hR x x s
noncomputable def gu (x:Str) (a l n k r e:Nat):Obj:=hC x x a l n k r e
noncomputable def ly (x:Str) (a l n k r e:Nat):Obj:=wW x x a l n k r e
noncomputable def tS:Nat->List Str->List Value
 |_,[]=>[]
 |n,x::r=>.str x n::tS (n+1) r
noncomputable def hT (n:Nat) (l:List Str):Obj:=.mk (.type "tuple") none (.seq (tS n l).toArray) #[]
noncomputable def tI:List (Nat × Nat × Nat)->List Value
 |[]=>[]
 |(a,b,c)::r=>.int a 0:: .int b 0:: .ref c::tI r
noncomputable def hI (l:List (Nat × Nat × Nat)):Obj:=.mk .none none (.fields (tI l).toArray) #[]
noncomputable def hE (P:Params) (x:Str) (a:Nat) (v:Value):DictEntry:=.mk (PyData.keyHash P x) (.str x a) v
def hT0:Obj:=hT 0 []
noncomputable def fy:Obj:=.mk .none none (.fields #[]) #[]
noncomputable def oF (a b:Nat) (m:String) (n:Nat):Obj:=.mk (.type "frame") none .plain #[some (.ref a),some (.ref 3),some (.ref b),none,some (.str (.ofString m) n),none,some (.ref 0)]
noncomputable def qb (r:Nat):Obj:=.mk (.type "super") none (.fields #[.ref r,.ref r,.ref r]) #[]
noncomputable def hIs (r:Nat):Obj:=.mk (.type "builtin_function_or_method") none (.fields #[.builtin "object.__init_subclass__",.ref r]) #[]
noncomputable def jY:Obj:=.mk (.type "builtin_function_or_method") none (.fields #[.builtin "type.__prepare__",.type "type"]) #[]
noncomputable def wX (r:Nat):Obj:=.mk (.type "tuple") none (.seq #[.ref r]) #[]
noncomputable def D4:Str:="__main__"
noncomputable def D6:Str:="putback.errors"
noncomputable def D7:Str:="putback.kinds"
noncomputable def jZ:Str:="putback.values"
noncomputable def m9:Str:="putback.views"
noncomputable def sH:Str:="putback.looks"
noncomputable def m_:Str:="putback.tables"
noncomputable def gM:Str:="law_putback_k41_keep_refused_and_twice"
noncomputable def K4 (x q:Str) (s:Stmt) (m:Value) (c:Nat):Obj:=.mk (.type "function") none (.func (.mk x q (il s) (.stmts (g_ s)) (eX s) 3 [] .none .none .none m none (.ref c) .none 0)) #[]
noncomputable def K5 (x q:Str) (a l n k r f b e:Nat):Obj:=.mk (.type "code") none (.fields #[.str x a,.str q (a+1),.str (.ofString "/claim/cut.py") (a+2),.int l 0,.int n 0,.int 0 0,.int 0 0,.int k 0,.ref r,.bool true,.int f 0,.ref (r+1),.none,.ref (r+2),.ref (r+3),.ref (r+4),.int b 0,.int l 0,.str (.ofString "/claim/cut.py") e]) #[]
noncomputable def K6 (P:Params) (x:Str) (a:Nat) (v:Value):DictEntry:=.mk (PyData.keyHash P x) (.str x a) v
noncomputable def D8:Obj:=.mk .none none (.dict #[]) #[]
noncomputable def wY (P:Params):Obj:=.mk (.type "dict") none (.dict #[hE P "__name__" 165 (.str (.ofString "law_putback_k41_keep_refused_and_twice") 516),hE P "__doc__" 166 .none,hE P "__package__" 167 .none,hE P "__loader__" 168 (.builtin "__main__.__loader__#opaque"),hE P "__spec__" 169 .none,hE P "__annotations__" 170 (.ref 6),hE P "__builtins__" 171 (.ref 4),hE P "__file__" 173 (.str (.ofString "/claim/cut.py") 172),hE P "__cached__" 174 .none,hE P "_wall" 193 (.ref 21),hE P "ViewError" 213 (.ref 31),hE P "CantPut" 238 (.ref 51),hE P "kind_at" 249 (.ref 60),hE P "misfit" 260 (.ref 67),hE P "record_misfit" 271 (.ref 74),hE P "has_just" 277 (.ref 79),hE P "rows_misfit" 289 (.ref 86),hE P "is_pair" 296 (.ref 93),hE P "tree_misfit" 307 (.ref 100),hE P "either_misfit" 317 (.ref 107),hE P "rank" 327 (.ref 114),hE P "in_order" 336 (.ref 121),hE P "by_key" 346 (.ref 128),hE P "ask_fit" 357 (.ref 135),hE P "View" 419 (.ref 180),hE P "holds" 430 (.ref 191),hE P "value_along" 440 (.ref 198),hE P "holds_of" 450 (.ref 205),hE P "Keep" 515 (.ref 255),hE P "_law_next" 527 (.ref 264),hE P "_law_number" 537 (.ref 271),hE P "_law_word" 551 (.ref 278),hE P "_law_names" 568 (.ref 285),hE P "_law_plain" 576 (.ref 292),hE P "_law_fields" 582 (.ref 297),hE P "_law_rows_kind" 600 (.ref 304),hE P "_law_kind" 610 (.ref 311),hE P "_law_rank" 618 (.ref 318),hE P "_law_rows" 633 (.ref 325),hE P "_law_value" 639 (.ref 330),hE P "_law_alike" 645 (.ref 335),hE P "_law_way" 651 (.ref 340),hE P "_law_along" 660 (.ref 347),hE P "_law_places" 671 (.ref 354),hE P "_law_thing" 682 (.ref 361),hE P "_law_simple" 696 (.ref 368),hE P "_law_look" 708 (.ref 375),hE P "_law_true" 717 (.ref 382),hE P "_law_pool" 723 (.ref 387),hE P "_law_some" 739 (.ref 394),hE P "_law_spoilt" 753 (.ref 401),hE P "_law_put" 766 (.ref 408),hE P "_law_same_end" 775 (.ref 415),hE P "_law_look_for" 790 (.ref 422),hE P "_law_sorted" 799 (.ref 429),hE P "_law_due" 805 (.ref 434),hE P "_law_round" 811 (.ref 439),hE P "law" 820 (.ref 446)] 58) #[]
def wZ:Obj:=gu "_wall" 187 1 1 3 15 191
def w6:Obj:=f6 "_wall" (top 0) D4 164 20
noncomputable def w_ (P:Params):Obj:=.mk (.type "dict") none (.dict #[hE P "__module__" 203 (.str (.ofString "putback.errors") 194),hE P "__firstlineno__" 207 (.int 5 206),hE P "__static_attributes__" 208 (.ref 29),hE P "__weakref__" 210 (.ref 32),hE P "__doc__" 211 .none] 3) #[]
noncomputable def xa:Obj:=.mk (.type "type") none (.cls (.mk (.ofString "ViewError") [.type "ValueError"] [.ref 31,.type "ValueError",.type "Exception",.type "BaseException",.type "object"] 30 (.ofString "ViewError") true [] [.ref 51] false none false)) #[some (.ref 22),none,some (.str (.ofString "ViewError") 196),some (.str (.ofString "ViewError") 204),some (.builtin "ValueError.__new__"),some (.bool true)]
noncomputable def xb:Obj:=.mk (.type "getset_descriptor") none (.fields #[.str (.ofString "__weakref__") 209,.ref 31,.builtin "ExceptionGroup.__weakref__",.none]) #[]
def xc:Obj:=hC "__init__" "CantPut.__init__" 226 9 2 3 42 231
def xf:Obj:=hF "__init__" "CantPut.__init__" (gj 3 0) D6 194 47
noncomputable def xg (P:Params):Obj:=.mk (.type "dict") none (.dict #[hE P "__module__" 221 (.str (.ofString "putback.errors") 194),hE P "__firstlineno__" 225 (.int 7 224),hE P "__init__" 233 (.ref 48),hE P "__static_attributes__" 235 (.ref 49),hE P "__doc__" 236 .none] 2) #[]
noncomputable def xh:Obj:=.mk (.type "type") none (.cls (.mk (.ofString "CantPut") [.ref 31] [.ref 51,.ref 31,.type "ValueError",.type "Exception",.type "BaseException",.type "object"] 50 (.ofString "CantPut") true [] [] false none false)) #[some (.ref 35),none,some (.str (.ofString "CantPut") 214),some (.str (.ofString "CantPut") 222),some (.builtin "ValueError.__new__"),some (.bool true)]
def xj:Obj:=gu "kind_at" 241 12 2 3 54 247
def xl:Obj:=f6 "kind_at" (top 5) D7 239 59
def xm:Obj:=gu "misfit" 252 18 2 3 61 258
def xn:Obj:=f6 "misfit" (top 7) jZ 250 66
def xo:Obj:=gu "record_misfit" 261 31 2 3 68 269
def xp:Obj:=f6 "record_misfit" (top 8) jZ 250 73
def xq:Obj:=ly "has_just" 272 39 2 3 75 275
def xr:Obj:=f6 "has_just" (top 9) jZ 250 78
def xt:Obj:=gu "rows_misfit" 278 41 2 3 80 287
def xu:Obj:=f6 "rows_misfit" (top 10) jZ 250 85
def xv:Obj:=gu "is_pair" 290 55 1 3 87 294
def xw:Obj:=f6 "is_pair" (top 11) jZ 250 92
def xx:Obj:=gu "tree_misfit" 297 57 2 3 94 305
def xy:Obj:=f6 "tree_misfit" (top 12) jZ 250 99
def xA:Obj:=gu "either_misfit" 308 68 2 3 101 315
def xB:Obj:=f6 "either_misfit" (top 13) jZ 250 106
def xC:Obj:=gu "rank" 318 78 2 3 108 325
def xD:Obj:=f6 "rank" (top 14) jZ 250 113
def xE:Obj:=gu "in_order" 328 84 2 3 115 334
def xF:Obj:=f6 "in_order" (top 15) jZ 250 120
def xG:Obj:=gu "by_key" 337 86 2 3 122 344
def xH:Obj:=f6 "by_key" (top 16) jZ 250 127
def xI:Obj:=gu "ask_fit" 349 92 2 3 129 355
def xJ:Obj:=f6 "ask_fit" (top 18) m9 347 134
def xK:Obj:=hC "behind" "View.behind" 370 98 2 3 143 375
def xM:Obj:=hF "behind" "View.behind" (gj 19 0) m9 347 148
def xN:Obj:=hC "see" "View.see" 378 101 3 3 150 384
def xO:Obj:=hF "see" "View.see" (gj 19 1) m9 347 155
def xP:Obj:=hC "put" "View.put" 387 104 4 3 157 394
def xQ:Obj:=hF "put" "View.put" (gj 19 2) m9 347 162
def xR:Obj:=hC "grade" "View.grade" 397 108 1 3 164 401
def xS:Obj:=hF "grade" "View.grade" (gj 19 3) m9 347 169
def xT:Obj:=hC "keeps" "View.keeps" 404 111 2 3 171 409
def xU:Obj:=hF "keeps" "View.keeps" (gj 19 4) m9 347 176
noncomputable def xV (P:Params):Obj:=.mk (.type "dict") none (.dict #[hE P "__module__" 365 (.str (.ofString "putback.views") 347),hE P "__firstlineno__" 369 (.int 96 368),hE P "behind" 377 (.ref 149),hE P "see" 386 (.ref 156),hE P "put" 396 (.ref 163),hE P "grade" 403 (.ref 170),hE P "keeps" 411 (.ref 177),hE P "__static_attributes__" 412 (.ref 178),hE P "__dict__" 414 (.ref 181),hE P "__weakref__" 416 (.ref 182),hE P "__doc__" 417 .none] 4) #[]
noncomputable def xW:Obj:=.mk (.type "type") none (.cls (.mk (.ofString "View") [.type "object"] [.ref 180,.type "object"] 179 (.ofString "View") true [] [.ref 255] false none false)) #[none,none,some (.str (.ofString "View") 358),some (.str (.ofString "View") 366),some (.builtin "object.__new__"),some (.bool true)]
noncomputable def xX:Obj:=.mk (.type "getset_descriptor") none (.fields #[.str (.ofString "__dict__") 413,.ref 180,.builtin "function.__dict__",.builtin "function.__dict__#set"]) #[]
noncomputable def xY:Obj:=.mk (.type "getset_descriptor") none (.fields #[.str (.ofString "__weakref__") 415,.ref 180,.builtin "ExceptionGroup.__weakref__",.none]) #[]
def xZ:Obj:=gu "holds" 422 114 2 3 185 428
def x6:Obj:=f6 "holds" (top 21) sH 420 190
def x8:Obj:=gu "value_along" 431 123 2 3 192 438
def x9:Obj:=f6 "value_along" (top 22) sH 420 197
def x_:Obj:=gu "holds_of" 441 128 2 3 199 448
def ya:Obj:=f6 "holds_of" (top 23) sH 420 204
def yb:Obj:=hC "__init__" "Keep.__init__" 465 141 2 3 213 470
def yc:Obj:=hF "__init__" "Keep.__init__" (gj 25 0) m_ 451 218
def yd:Obj:=hC "behind" "Keep.behind" 473 144 2 3 220 478
def ye:Obj:=hF "behind" "Keep.behind" (gj 25 1) m_ 451 225
def yf:Obj:=hC "see" "Keep.see" 481 147 3 3 227 487
def yg:Obj:=hF "see" "Keep.see" (gj 25 2) m_ 451 232
def yh:Obj:=wW "put" "Keep.put" 490 150 4 3 234 493
def yi:Obj:=hF "put" "Keep.put" (gj 25 3) m_ 451 237
def yj:Obj:=hC "grade" "Keep.grade" 496 159 1 3 239 500
def yk:Obj:=hF "grade" "Keep.grade" (gj 25 4) m_ 451 244
def yl:Obj:=hC "keeps" "Keep.keeps" 503 162 2 3 246 508
def ym:Obj:=hF "keeps" "Keep.keeps" (gj 25 5) m_ 451 251
noncomputable def yn (P:Params):Obj:=.mk (.type "dict") none (.dict #[hE P "__module__" 460 (.str (.ofString "putback.tables") 451),hE P "__firstlineno__" 464 (.int 139 463),hE P "__init__" 472 (.ref 219),hE P "behind" 480 (.ref 226),hE P "see" 489 (.ref 233),hE P "put" 495 (.ref 238),hE P "grade" 502 (.ref 245),hE P "keeps" 510 (.ref 252),hE P "__static_attributes__" 512 (.ref 253),hE P "__doc__" 513 .none] 2) #[]
noncomputable def yo:Obj:=.mk (.type "type") none (.cls (.mk (.ofString "Keep") [.ref 180] [.ref 255,.ref 180,.type "object"] 254 (.ofString "Keep") true [] [] false none false)) #[some (.ref 206),none,some (.str (.ofString "Keep") 453),some (.str (.ofString "Keep") 461),some (.builtin "object.__new__"),some (.bool true)]
def yp:Obj:=gu "_law_next" 518 165 2 3 258 525
def yq:Obj:=f6 "_law_next" (top 27) gM 516 263
def yr:Obj:=gu "_law_number" 528 172 2 3 265 535
def yt:Obj:=f6 "_law_number" (top 28) gM 516 270
def yu:Obj:=gu "_law_word" 538 180 2 3 272 549
def yw:Obj:=f6 "_law_word" (top 29) gM 516 277
def yx:Obj:=gu "_law_names" 552 192 3 3 279 566
def yy:Obj:=f6 "_law_names" (top 30) gM 516 284
def yz:Obj:=gu "_law_plain" 569 206 2 3 286 574
def yA:Obj:=f6 "_law_plain" (top 31) gM 516 291
def yB:Obj:=ly "_law_fields" 577 210 4 3 293 580
def yC:Obj:=f6 "_law_fields" (top 32) gM 516 296
def yD:Obj:=gu "_law_rows_kind" 583 213 4 3 298 598
def yE:Obj:=f6 "_law_rows_kind" (top 33) gM 516 303
def yF:Obj:=gu "_law_kind" 601 228 3 3 305 608
def yG:Obj:=f6 "_law_kind" (top 34) gM 516 310
def yH:Obj:=gu "_law_rank" 611 239 2 3 312 616
def yI:Obj:=f6 "_law_rank" (top 35) gM 516 317
def yJ:Obj:=gu "_law_rows" 619 243 4 3 319 631
def yK:Obj:=f6 "_law_rows" (top 36) gM 516 324
def yL:Obj:=ly "_law_value" 634 252 4 3 326 637
def yM:Obj:=f6 "_law_value" (top 37) gM 516 329
def yN:Obj:=ly "_law_alike" 640 270 3 3 331 643
def yO:Obj:=f6 "_law_alike" (top 38) gM 516 334
def yP:Obj:=ly "_law_way" 646 298 2 3 336 649
def yQ:Obj:=f6 "_law_way" (top 39) gM 516 339
def yR:Obj:=gu "_law_along" 652 302 2 3 341 658
def yS:Obj:=f6 "_law_along" (top 40) gM 516 346
def yT:Obj:=gu "_law_places" 661 306 2 3 348 669
def yU:Obj:=f6 "_law_places" (top 41) gM 516 353
def yV:Obj:=gu "_law_thing" 672 313 4 3 355 680
def yW:Obj:=f6 "_law_thing" (top 42) gM 516 360
def yX:Obj:=gu "_law_simple" 683 326 4 3 362 694
def yY:Obj:=f6 "_law_simple" (top 43) gM 516 367
def yZ:Obj:=gu "_law_look" 697 335 4 3 369 706
def y7:Obj:=f6 "_law_look" (top 44) gM 516 374
def y8:Obj:=gu "_law_true" 709 343 2 3 376 715
def y9:Obj:=f6 "_law_true" (top 45) gM 516 381
def y_:Obj:=ly "_law_pool" 718 360 4 3 383 721
def za:Obj:=f6 "_law_pool" (top 46) gM 516 386
def zb:Obj:=gu "_law_some" 724 368 5 3 388 737
def zc:Obj:=f6 "_law_some" (top 47) gM 516 393
def zd:Obj:=gu "_law_spoilt" 740 379 4 3 395 751
def ze:Obj:=f6 "_law_spoilt" (top 48) gM 516 400
def zf:Obj:=gu "_law_put" 754 399 4 3 402 764
def zh:Obj:=f6 "_law_put" (top 49) gM 516 407
def zi:Obj:=gu "_law_same_end" 767 409 3 3 409 773
def zj:Obj:=f6 "_law_same_end" (top 50) gM 516 414
def zk:Obj:=gu "_law_look_for" 776 415 4 3 416 788
def zl:Obj:=f6 "_law_look_for" (top 51) gM 516 421
def zm:Obj:=gu "_law_sorted" 791 425 2 3 423 797
def zo:Obj:=f6 "_law_sorted" (top 52) gM 516 428
def zp:Obj:=ly "_law_due" 800 427 5 3 430 803
def zq:Obj:=f6 "_law_due" (top 53) gM 516 433
def zr:Obj:=ly "_law_round" 806 436 2 3 435 809
def zt:Obj:=f6 "_law_round" (top 54) gM 516 438
def zu:Obj:=gu "law" 812 460 1 3 440 818
def zv:Obj:=f6 "law" (top 55) gM 516 445
noncomputable def D9 (P:Params):Obj:=.mk (.type "dict") none (.dict #[hE P "__name__" 165 (.str (.ofString "putback.tables") 451),hE P "__doc__" 166 .none,hE P "__package__" 167 .none,hE P "__loader__" 168 (.builtin "__main__.__loader__#opaque"),hE P "__spec__" 169 .none,hE P "__annotations__" 170 (.ref 6),hE P "__builtins__" 171 (.ref 4),hE P "__file__" 173 (.str (.ofString "/claim/cut.py") 172),hE P "__cached__" 174 .none,hE P "_wall" 193 (.ref 21),hE P "ViewError" 213 (.ref 31),hE P "CantPut" 238 (.ref 51),hE P "kind_at" 249 (.ref 60),hE P "misfit" 260 (.ref 67),hE P "record_misfit" 271 (.ref 74),hE P "has_just" 277 (.ref 79),hE P "rows_misfit" 289 (.ref 86),hE P "is_pair" 296 (.ref 93),hE P "tree_misfit" 307 (.ref 100),hE P "either_misfit" 317 (.ref 107),hE P "rank" 327 (.ref 114),hE P "in_order" 336 (.ref 121),hE P "by_key" 346 (.ref 128),hE P "ask_fit" 357 (.ref 135),hE P "View" 419 (.ref 180),hE P "holds" 430 (.ref 191),hE P "value_along" 440 (.ref 198),hE P "holds_of" 450 (.ref 205)] 28) #[]
noncomputable def D_ (P:Params):List Obj:=hT0::hI [(1,0,20),(5,0,27),(7,0,40),(12,0,59),(18,0,66),(31,0,73),(39,0,78),(41,0,85),(55,0,92),(57,0,99),(68,0,106),(78,0,113),(84,0,120),(86,0,127),(92,0,134),(96,0,141),(114,0,190),(123,0,197),(128,0,204)]::hK "<module>" 182 1 11 185::oF 13 3 "__main__" 164::hT0::fy::hT 190 ["k"]::hT0::fT "_wall" (top 0)::wZ::w6:: .mk (.type "tuple") none (.seq #[.type "ValueError"]) #[]::jY:: .mk (.type "dict") none (.dict #[hE P "__module__" 203 (.str (.ofString "putback.errors") 194),hE P "__qualname__" 205 (.str (.ofString "ViewError") 204),hE P "__firstlineno__" 207 (.int 5 206),hE P "__static_attributes__" 208 (.ref 29)] 4) #[]::hT0::fy::hK "ViewError" 198 5 25 201::oF 27 24 "putback.errors" 194::hT0::w_ P::xa::xb::qb 31::hIs 31::wX 31::jY:: .mk (.type "dict") none (.dict #[hE P "__module__" 221 (.str (.ofString "putback.errors") 194),hE P "__qualname__" 223 (.str (.ofString "CantPut") 222),hE P "__firstlineno__" 225 (.int 7 224),hE P "__init__" 233 (.ref 48),hE P "__static_attributes__" 235 (.ref 49)] 5) #[]::hT0::hI [(9,4,47)]::hK "CantPut" 216 7 38 219::oF 40 37 "putback.errors" 194::hT0::fy::hT 229 ["self","way"]::hT0::hR "__init__" "CantPut.__init__" (gj 3 0)::xc::xf::hT 234 ["way"]::xg P::xh::qb 51::hIs 51::hT0::fy::hT 244 ["fields","name","pair"]::hT0::fT "kind_at" (top 5)::xj::xl::hT0::fy::hT 255 ["kind","value","form"]::hT0::fT "misfit" (top 7)::xm::xn::hT0::fy::hT 264 ["fields","record","name","inner","place"]::hT0::fT "record_misfit" (top 8)::xo::xp::hT0::fy::fT "has_just" (top 9)::xq::xr::hT0::fy::hT 281 ["kind","rows","earlier","number","row","place"]::hT0::fT "rows_misfit" (top 10)::xt::xu::hT0::fy::hT 293 ["value"]::hT0::fT "is_pair" (top 11)::xv::xw::hT0::fy::hT 300 ["kind","tree","place","number","arm"]::hT0::fT "tree_misfit" (top 12)::xx::xy::hT0::fy::hT 311 ["fields","value","inner","place"]::hT0::fT "either_misfit" (top 13)::xA::xB::hT0::fy::hT 321 ["kind","row","key","by"]::hT0::fT "rank" (top 14)::xC::xD::hT0::fy::hT 331 ["kind","rows"]::hT 333 ["kind"]::fT "in_order" (top 15)::xE::xF::hT0::fy::hT 340 ["kind","rows","found","row"]::hT0::fT "by_key" (top 16)::xG::xH::hT0::fy::hT 352 ["kind","seen","place"]::hT0::fT "ask_fit" (top 18)::xI::xJ::hT0::jY:: .mk (.type "dict") none (.dict #[hE P "__module__" 365 (.str (.ofString "putback.views") 347),hE P "__qualname__" 367 (.str (.ofString "View") 366),hE P "__firstlineno__" 369 (.int 96 368),hE P "behind" 377 (.ref 149),hE P "see" 386 (.ref 156),hE P "put" 396 (.ref 163),hE P "grade" 403 (.ref 170),hE P "keeps" 411 (.ref 177),hE P "__static_attributes__" 412 (.ref 178)] 9) #[]::hT0::hI [(98,4,148),(101,4,155),(104,4,162),(108,4,169),(111,4,176)]::hK "View" 360 96 139 363::oF 141 138 "putback.views" 347::hT0::fy::hT 373 ["self","kind"]::hT0::hR "behind" "View.behind" (gj 19 0)::xK::xM::hT0::fy::hT 381 ["self","kind","source"]::hT0::hR "see" "View.see" (gj 19 1)::xN::xO::hT0::fy::hT 390 ["self","kind","source","seen"]::hT0::hR "put" "View.put" (gj 19 2)::xP::xQ::hT0::fy::hT 400 ["self"]::hT0::hR "grade" "View.grade" (gj 19 3)::xR::xS::hT0::fy::hT 407 ["self","name"]::hT0::hR "keeps" "View.keeps" (gj 19 4)::xT::xU::hT0::xV P:: .mk (.type "type") none (.cls (.mk (.ofString "View") [.type "object"] [.ref 180,.type "object"] 179 (.ofString "View") true [] [] false none false)) #[none,none,some (.str (.ofString "View") 358),some (.str (.ofString "View") 366),some (.builtin "object.__new__"),some (.bool true)]::xX::xY::qb 180::hIs 180::hT0::fy::hT 425 ["look","value","form"]::hT0::fT "holds" (top 21)::xZ::x6::hT0::fy::hT 434 ["path","value","there","name"]::hT0::fT "value_along" (top 22)::x8::x9::hT0::fy::hT 444 ["look","there","form","arms_or_rows"]::hT0::fT "holds_of" (top 23)::x_::ya::[]
noncomputable def endL (P:Params):List Obj:=wX 180::jY:: .mk (.type "dict") none (.dict #[hE P "__module__" 460 (.str (.ofString "putback.tables") 451),hE P "__qualname__" 462 (.str (.ofString "Keep") 461),hE P "__firstlineno__" 464 (.int 139 463),hE P "__init__" 472 (.ref 219),hE P "behind" 480 (.ref 226),hE P "see" 489 (.ref 233),hE P "put" 495 (.ref 238),hE P "grade" 502 (.ref 245),hE P "keeps" 510 (.ref 252),hE P "__static_attributes__" 512 (.ref 253)] 10) #[]::hT0::hI [(141,4,218),(144,4,225),(147,4,232),(150,4,237),(159,4,244),(162,4,251)]::hK "Keep" 455 139 209 458::oF 211 208 "putback.tables" 451::hT0::fy::hT 468 ["self","look"]::hT0::hR "__init__" "Keep.__init__" (gj 25 0)::yb::yc::hT0::fy::hT 476 ["self","kind"]::hT0::hR "behind" "Keep.behind" (gj 25 1)::yd::ye::hT0::fy::hT 484 ["self","kind","source"]::hT0::hR "see" "Keep.see" (gj 25 2)::yf::yg::hT0::fy::hR "put" "Keep.put" (gj 25 3)::yh::yi::hT0::fy::hT 499 ["self"]::hT0::hR "grade" "Keep.grade" (gj 25 4)::yj::yk::hT0::fy::hT 506 ["self","name"]::hT0::hR "keeps" "Keep.keeps" (gj 25 5)::yl::ym::hT 511 ["look"]::yn P::yo::qb 255::hIs 255::hT0::fy::hT 521 ["_law_script","_law_at","_law_cell","_law_m"]::hT0::fT "_law_next" (top 27)::yp::yq::hT0::fy::hT 531 ["_law_script","_law_at","_law_m","_law_cell"]::hT0::fT "_law_number" (top 28)::yr::yt::hT0::fy::hT 541 ["_law_script","_law_at","_law_signs","_law_m","_law_many","_law_word_here","_law_k","_law_place"]::hT0::fT "_law_word" (top 29)::yu::yw::hT0::fy::hT 555 ["_law_script","_law_at","_law_many","_law_letters","_law_m","_law_step","_law_stem","_law_cut","_law_names_here","_law_k","_law_sign"]::hT0::fT "_law_names" (top 30)::yx::yy::hT0::fy::hT 572 ["_law_script","_law_at"]::hT0::fT "_law_plain" (top 31)::yz::yA::hT0::fy::fT "_law_fields" (top 32)::yB::yC::hT0::fy::hT 586 ["_law_script","_law_at","_law_many","_law_deep","_law_names_here","_law_m","_law_lead","_law_by","_law_fields_here","_law_k","_law_kind_here","_law_name"]::hT0::fT "_law_rows_kind" (top 33)::yD::yE::hT0::fy::hT 604 ["_law_script","_law_at","_law_deep","_law_m"]::hT0::fT "_law_kind" (top 34)::yF::yG::hT0::fy::hT 614 ["_law_kind_here","_law_row"]::hT0::fT "_law_rank" (top 35)::yH::yI::hT0::fy::hT 622 ["_law_script","_law_at","_law_kind_here","_law_room","_law_rows_here","_law_seen","_law_k","_law_row"]::hT 630 ["_law_kind_here"]::fT "_law_rows" (top 36)::yJ::yK::hT0::fy::fT "_law_value" (top 37)::yL::yM::hT0::fy::fT "_law_alike" (top 38)::yN::yO::hT0::fy::fT "_law_way" (top 39)::yP::yQ::hT0::fy::hT 655 ["_law_path","_law_value_here","_law_name"]::hT0::fT "_law_along" (top 40)::yR::yS::hT0::fy::hT 664 ["_law_kind_here","_law_path","_law_found","_law_name","_law_inner"]::hT0::fT "_law_places" (top 41)::yT::yU::hT0::fy::hT 675 ["_law_script","_law_at","_law_kind_here","_law_there","_law_m"]::hT0::fT "_law_thing" (top 42)::yV::yW::hT0::fy::hT 686 ["_law_script","_law_at","_law_place","_law_value_here","_law_path","_law_kind_here","_law_m","_law_thing_here"]::hT0::fT "_law_simple" (top 43)::yX::yY::hT0::fy::hT 700 ["_law_script","_law_at","_law_leaves","_law_deep","_law_m","_law_one"]::hT0::fT "_law_look" (top 44)::yZ::y7::hT0::fy::hT 712 ["_law_look_here","_law_value_here","_law_there"]::hT0::fT "_law_true" (top 45)::y8::y9::hT0::fy::fT "_law_pool" (top 46)::y_::za::hT0::fy::hT 727 ["_law_script","_law_at","_law_kind_here","_law_pool_here","_law_room","_law_rows_here","_law_one","_law_m","_law_row"]::hT 736 ["_law_kind_here"]::fT "_law_some" (top 47)::zb::zc::hT0::fy::hT 743 ["_law_script","_law_at","_law_kind_here","_law_rows_here","_law_m","_law_n","_law_row","_law_name"]::hT0::fT "_law_spoilt" (top 48)::zd::ze::hT0::fy::hT 757 ["_law_view","_law_kind_here","_law_source","_law_seen","_law_way_here","_law_made","e"]::hT0::fT "_law_put" (top 49)::zf::zh::hT0::fy::hT 770 ["_law_kind_here","_law_found","_law_due_here"]::hT0::fT "_law_same_end" (top 50)::zi::zj::hT0::fy::hT 779 ["_law_script","_law_at","_law_kind_here","_law_rows_here","_law_places_here","_law_near","_law_leaves","_law_k","_law_place"]::hT0::fT "_law_look_for" (top 51)::zk::zl::hT0::fy::hT 794 ["_law_kind_here","_law_rows_here"]::hT 796 ["_law_kind_here"]::fT "_law_sorted" (top 52)::zm::zo::hT0::fy::fT "_law_due" (top 53)::zp::zq::hT0::fy::fT "_law_round" (top 54)::zr::zt::hT0::fy::hT 815 ["_law_script","_law_at","_law_k"]::hT0::fT "law" (top 55)::zu::zv::[]
noncomputable def Ea (P:Params):List (Nat × Obj):=(nat_lit 3,wY P)::(nat_lit 12,hI [(1,0,20),(5,0,27),(7,0,40),(12,0,59),(18,0,66),(31,0,73),(39,0,78),(41,0,85),(55,0,92),(57,0,99),(68,0,106),(78,0,113),(84,0,120),(86,0,127),(92,0,134),(96,0,141),(114,0,190),(123,0,197),(128,0,204),(139,0,211),(165,0,263),(172,0,270),(180,0,277),(192,0,284),(206,0,291),(210,0,296),(213,0,303),(228,0,310),(239,0,317),(243,0,324),(252,0,329),(270,0,334),(298,0,339),(302,0,346),(306,0,353),(313,0,360),(326,0,367),(335,0,374),(343,0,381),(360,0,386),(368,0,393),(379,0,400),(399,0,407),(409,0,414),(415,0,421),(425,0,428),(427,0,433),(436,0,438),(460,0,445)])::(nat_lit 180,xW)::[]
end
noncomputable def KK:PySem.Params->W.Frag:=λP=>(nat_lit 2,D8)::(nat_lit 3,wY P)::(nat_lit 20,wZ)::(nat_lit 21,w6)::(nat_lit 30,w_ P)::(nat_lit 31,xa)::(nat_lit 32,xb)::(nat_lit 47,xc)::(nat_lit 48,xf)::(nat_lit 50,xg P)::(nat_lit 51,xh)::(nat_lit 59,xj)::(nat_lit 60,xl)::(nat_lit 66,xm)::(nat_lit 67,xn)::(nat_lit 73,xo)::(nat_lit 74,xp)::(nat_lit 78,xq)::(nat_lit 79,xr)::(nat_lit 85,xt)::(nat_lit 86,xu)::(nat_lit 92,xv)::(nat_lit 93,xw)::(nat_lit 99,xx)::(nat_lit 100,xy)::(nat_lit 106,xA)::(nat_lit 107,xB)::(nat_lit 113,xC)::(nat_lit 114,xD)::(nat_lit 120,xE)::(nat_lit 121,xF)::(nat_lit 127,xG)::(nat_lit 128,xH)::(nat_lit 134,xI)::(nat_lit 135,xJ)::(nat_lit 148,xK)::(nat_lit 149,xM)::(nat_lit 155,xN)::(nat_lit 156,xO)::(nat_lit 162,xP)::(nat_lit 163,xQ)::(nat_lit 169,xR)::(nat_lit 170,xS)::(nat_lit 176,xT)::(nat_lit 177,xU)::(nat_lit 179,xV P)::(nat_lit 180,xW)::(nat_lit 181,xX)::(nat_lit 182,xY)::(nat_lit 190,xZ)::(nat_lit 191,x6)::(nat_lit 197,x8)::(nat_lit 198,x9)::(nat_lit 204,x_)::(nat_lit 205,ya)::(nat_lit 218,yb)::(nat_lit 219,yc)::(nat_lit 225,yd)::(nat_lit 226,ye)::(nat_lit 232,yf)::(nat_lit 233,yg)::(nat_lit 237,yh)::(nat_lit 238,yi)::(nat_lit 244,yj)::(nat_lit 245,yk)::(nat_lit 251,yl)::(nat_lit 252,ym)::(nat_lit 254,yn P)::(nat_lit 255,yo)::(nat_lit 263,yp)::(nat_lit 264,yq)::(nat_lit 270,yr)::(nat_lit 271,yt)::(nat_lit 277,yu)::(nat_lit 278,yw)::(nat_lit 284,yx)::(nat_lit 285,yy)::(nat_lit 291,yz)::(nat_lit 292,yA)::(nat_lit 296,yB)::(nat_lit 297,yC)::(nat_lit 303,yD)::(nat_lit 304,yE)::(nat_lit 310,yF)::(nat_lit 311,yG)::(nat_lit 317,yH)::(nat_lit 318,yI)::(nat_lit 324,yJ)::(nat_lit 325,yK)::(nat_lit 329,yL)::(nat_lit 330,yM)::(nat_lit 334,yN)::(nat_lit 335,yO)::(nat_lit 339,yP)::(nat_lit 340,yQ)::(nat_lit 346,yR)::(nat_lit 347,yS)::(nat_lit 353,yT)::(nat_lit 354,yU)::(nat_lit 360,yV)::(nat_lit 361,yW)::(nat_lit 367,yX)::(nat_lit 368,yY)::(nat_lit 374,yZ)::(nat_lit 375,y7)::(nat_lit 381,y8)::(nat_lit 382,y9)::(nat_lit 386,y_)::(nat_lit 387,za)::(nat_lit 393,zb)::(nat_lit 394,zc)::(nat_lit 400,zd)::(nat_lit 401,ze)::(nat_lit 407,zf)::(nat_lit 408,zh)::(nat_lit 414,zi)::(nat_lit 415,zj)::(nat_lit 421,zk)::(nat_lit 422,zl)::(nat_lit 428,zm)::(nat_lit 429,zo)::(nat_lit 433,zp)::(nat_lit 434,zq)::(nat_lit 438,zr)::(nat_lit 439,zt)::(nat_lit 445,zu)::(nat_lit 446,zv)::[]
noncomputable def lz:List Nat:=nat_lit 2::nat_lit 3::nat_lit 20::nat_lit 21::nat_lit 30::nat_lit 31::nat_lit 32::nat_lit 47::nat_lit 48::nat_lit 50::nat_lit 51::nat_lit 59::nat_lit 60::nat_lit 66::nat_lit 67::nat_lit 73::nat_lit 74::nat_lit 78::nat_lit 79::nat_lit 85::nat_lit 86::nat_lit 92::nat_lit 93::nat_lit 99::nat_lit 100::nat_lit 106::nat_lit 107::nat_lit 113::nat_lit 114::nat_lit 120::nat_lit 121::nat_lit 127::nat_lit 128::nat_lit 134::nat_lit 135::nat_lit 148::nat_lit 149::nat_lit 155::nat_lit 156::nat_lit 162::nat_lit 163::nat_lit 169::nat_lit 170::nat_lit 176::nat_lit 177::nat_lit 179::nat_lit 180::nat_lit 181::nat_lit 182::nat_lit 190::nat_lit 191::nat_lit 197::nat_lit 198::nat_lit 204::nat_lit 205::nat_lit 218::nat_lit 219::nat_lit 225::nat_lit 226::nat_lit 232::nat_lit 233::nat_lit 237::nat_lit 238::nat_lit 244::nat_lit 245::nat_lit 251::nat_lit 252::nat_lit 254::nat_lit 255::nat_lit 263::nat_lit 264::nat_lit 270::nat_lit 271::nat_lit 277::nat_lit 278::nat_lit 284::nat_lit 285::nat_lit 291::nat_lit 292::nat_lit 296::nat_lit 297::nat_lit 303::nat_lit 304::nat_lit 310::nat_lit 311::nat_lit 317::nat_lit 318::nat_lit 324::nat_lit 325::nat_lit 329::nat_lit 330::nat_lit 334::nat_lit 335::nat_lit 339::nat_lit 340::nat_lit 346::nat_lit 347::nat_lit 353::nat_lit 354::nat_lit 360::nat_lit 361::nat_lit 367::nat_lit 368::nat_lit 374::nat_lit 375::nat_lit 381::nat_lit 382::nat_lit 386::nat_lit 387::nat_lit 393::nat_lit 394::nat_lit 400::nat_lit 401::nat_lit 407::nat_lit 408::nat_lit 414::nat_lit 415::nat_lit 421::nat_lit 422::nat_lit 428::nat_lit 429::nat_lit 433::nat_lit 434::nat_lit 438::nat_lit 439::nat_lit 445::nat_lit 446::[]
noncomputable def zw (P:PySem.Params):W.BT:=sF 11 (D_ P) ((sG P).ins 3 (D9 P))
noncomputable def Eb (P:PySem.Params):W.BT:=wM (Ea P) (sF 206 (endL P) (zw P))
noncomputable def qv:PySem.Program:={ PySem.Challenge.pw_putback_k41_keep_refused_and_twice with main:={ (PySem.Challenge.pw_putback_k41_keep_refused_and_twice).main with body:=top 0::top 2::top 3::top 5::top 7::top 8::top 9::top 10::top 11::top 12::top 13::top 14::top 15::top 16::top 18::top 19::top 21::top 22::top 23::top 25::top 27::top 28::top 29::top 30::top 31::top 32::top 33::top 34::top 35::top 36::top 37::top 38::top 39::top 40::top 41::top 42::top 43::top 44::top 45::top 46::top 47::top 48::top 49::top 50::top 51::top 52::top 53::top 54::top 55::[] } }
theorem l6 (P:PySem.Params):lz=(KK P).map (·.1):=by kernel_rfl
noncomputable def zx (w:PySem.World) (os:PySem.OsState):W.SharedT:=⟨zw w.params,206,(W.boot_heap w.params).life,#[],W.boot_drawn,453,os⟩
noncomputable def l7 (w:PySem.World) (os:PySem.OsState):W.SharedT:=⟨Eb w.params,447,(W.boot_heap w.params).life,#[],W.boot_drawn,821,os⟩
noncomputable def sI:List PySem.Stmt:=W.behindTheImports (W.OpenLaw.row PySem.Challenge.rw_putback_k41_keep_refused_and_twice).prog
noncomputable def qc:PySem.Env:={ scope:=((W.OpenLaw.row PySem.Challenge.rw_putback_k41_keep_refused_and_twice).prog).main.scope,locals:=PySem.mainNs,globals:=PySem.mainNs,cells:=[],code:=.ref 13,frame:=some 14 }
noncomputable def oG:PySem.Code:=.body (W.behindTheImports (W.OpenLaw.row PySem.Challenge.rw_putback_k41_keep_refused_and_twice).prog) qc
open W PyProof.Rows in
theorem Ec:∀w os,p_ (W.OpenLaw.row PySem.Challenge.rw_putback_k41_keep_refused_and_twice).prog w 11 (some (.ref 6)) qc oG ⟨0,0,0,0⟩ (sI.take 25) 12 1 5000 (qa w os)=some (⟨jJ jK (.body (behindTheImports (W.OpenLaw.row PySem.Challenge.rw_putback_k41_keep_refused_and_twice).prog) qc),oG,⟨0,0,0,0⟩,[topFrame ⟨0,0,0,0⟩]⟩,oG,oG,zx w os,⟨138,0,138,8⟩):=by
 intro w os
 kernel_rfl
open W PyProof.Rows in
theorem Ed:∀w os,l5 (W.OpenLaw.row PySem.Challenge.rw_putback_k41_keep_refused_and_twice).prog w 11 (some (.ref 6)) 6000 (zx w os) (restOf (sI.drop 25) qc oG ⟨138,0,138,8⟩ [topFrame ⟨0,0,0,0⟩])=some (l7 w os):=by
 intro w os
 kernel_rfl
open W PyProof.Rows in
theorem Ee:∀w os,(staticsOk (importedModules ((W.OpenLaw.row PySem.Challenge.rw_putback_k41_keep_refused_and_twice).prog).main.body) (boot_heap w.params) (l7 w os).abs.heap && namesBound (W.OpenLaw.row PySem.Challenge.rw_putback_k41_keep_refused_and_twice).prog (l7 w os).abs.heap && gensDone (l7 w os).abs && laidKept (boot_heap w.params) (l7 w os).abs.heap)=true:=by
 intro w os
 kernel_rfl
open W PyProof.Rows in
theorem Ef:∀w os,seenQ qv [] (importedModules ((W.OpenLaw.row PySem.Challenge.rw_putback_k41_keep_refused_and_twice).prog).main.body) (λs=>xlAt qv [] s && recOk (RowW.records (W.OpenRow.toRowW (W.OpenLaw.row PySem.Challenge.rw_putback_k41_keep_refused_and_twice))) s) true (l7 w os).abs=openGood qv []:=by
 intro w os
 kernel_rfl
open W PyProof.Rows in
theorem Eg:∀w os,Hook.obs (W.kmHook Pb.KK Pb.lz Pb.l6 [116,320,424,441]) (l7 w os).abs=Hook.val (W.kmHook Pb.KK Pb.lz Pb.l6 [116,320,424,441]) w:=by
 intro w os
 kernel_rfl
open W PyProof.Rows in
theorem said:PySem.Challenge.rw_putback_k41_keep_refused_and_twice.wellSaid=true:=by
 delta OpenLaw.wellSaid OpenRow.wellSaid OpenRow.partSaid looksOpen
 repeat' (with_reducible refine look_both ?_ ?_)
 all_goals kernel_rfl
end Pb
namespace L2
open Spec PyProof.Rows
noncomputable abbrev Key:=Sum Int Str
noncomputable def ng:Key->Value->Bool
 | .inl k,v=>Value.isInt k v
 | .inr x,v=>Value.isStrOf x v
noncomputable def Eh (w:World):Key->Int
 | .inl k=>hashInt k
 | .inr x=>hashStr w x
theorem kr:∀{k:Key}{v:Value},ng k v=true->(∃i t,k=Sum.inl i/\v=Value.int i t)\/(∃x t,k=Sum.inr x/\v=Value.str x t)
 | .inl i,v,h=>by
   obtain⟨t,e⟩:=Value.isInt_shape (k:=i) (v:=v) h;exact .inl ⟨i,t,rfl,e⟩
 | .inr x,v,h=>by
   obtain⟨t,e⟩:=Value.isStrOf_shape (x:=x) (v:=v) h;exact .inr ⟨x,t,rfl,e⟩
theorem Ej (i:Int)(t:Tok):ng (.inl i) (.int i t)=true:=by simp[ng,Value.isInt]
theorem El (x:Str)(t:Tok):ng (.inr x) (.str x t)=true:=by simp[ng,Value.isStrOf]
theorem Em (a b:Int):decide ((Sum.inl a:Key)=Sum.inl b)=(a == b):=by
 by_cases e:a=b
 . subst e;simp
 . have h:¬(Sum.inl a:Key)=Sum.inl b:=λq=>e (Sum.inl.inj q);rw[decide_eq_false h];exact(beq_eq_false_iff_ne.mpr e).symm
theorem En (a b:Str):decide ((Sum.inr a:Key)=Sum.inr b)=decide (a=b):=by
 by_cases e:a=b
 . subst e;simp
 . have h:¬(Sum.inr a:Key)=Sum.inr b:=λq=>e (Sum.inr.inj q);rw[decide_eq_false h,decide_eq_false e]
theorem Eo (a:Int)(b:Str):decide ((Sum.inl a:Key)=Sum.inr b)=false:=decide_eq_false (λq=>nomatch q)
theorem Ep (a:Str)(b:Int):decide ((Sum.inr a:Key)=Sum.inl b)=false:=decide_eq_false (λq=>nomatch q)
noncomputable def i3 (prog:Program) (w:World):PySem.KeyKind prog w Key where
 is:=ng
 hash:=Eh w
 inj:=λv a b Y U=>by
  rcases kr Y with⟨i,t,rfl,rfl⟩|⟨x,t,rfl,rfl⟩
  . rcases kr U with⟨j,u,rfl,e⟩|⟨y,u,rfl,e⟩
    . injection e with I _;rw[I]
    . exact nomatch e
  . rcases kr U with⟨j,u,rfl,e⟩|⟨y,u,rfl,e⟩
    . exact nomatch e
    . injection e with I _;rw[I]
 byValue:=λk v h=>by
  rcases kr h with⟨i,t,rfl,rfl⟩|⟨x,t,rfl,rfl⟩ <;> rfl
 pyHash:=λJ h=>by
  rcases kr J with⟨i,t,rfl,rfl⟩|⟨x,t,rfl,rfl⟩
  . exact wpAny_pyHash_int h
  . exact wpAny_pyHash_str h
 eqBool:=λhu J h=>by
  rcases kr hu with⟨i,t,rfl,rfl⟩|⟨x,t,rfl,rfl⟩
  . rcases kr J with⟨j,u,rfl,rfl⟩|⟨y,u,rfl,rfl⟩
    . rw[Em] at h;exact wpAny_eqBool_int h
    . rw[Eo] at h;exact SeqAt.EqAt.int_str i t y u _ _ _ _ h
  . rcases kr J with⟨j,u,rfl,rfl⟩|⟨y,u,rfl,rfl⟩
    . rw[Ep] at h;exact SeqAt.EqAt.str_int x t j u _ _ _ _ h
    . rw[En] at h;exact wpAny_eqBool_str h
 «strs»:=λk x t v h=>by
  rcases kr h with⟨i,u,rfl,e⟩|⟨y,u,rfl,e⟩
  . exact nomatch e
  . injection e with I _
    subst I
    cases v <;> rfl
theorem Er (prog:Program)(w:World)(i:Int)(t:Tok):(i3 prog w).is (.inl i) (.int i t)=true:=Ej i t
theorem Es (prog:Program)(w:World)(x:Str)(t:Tok):(i3 prog w).is (.inr x) (.str x t)=true:=El x t
inductive V where
 |non|bl (b:Bool)|int (i:Int)|str (x:Str)|ju (b:Array UInt8)|flt (b:UInt64)|ref (a:Addr)|ty (n:String)
 deriving DecidableEq
def RelV:V->Value->Prop
 | .non,u=>u=Value.none
 | .bl b,u=>u=Value.bool b
 | .int i,u=>∃t,u=Value.int i t
 | .str x,u=>∃t,u=Value.str x t
 | .ju b,u=>∃t,u=Value.bytes b t
 | .flt b,u=>∃t,u=Value.float b t
 | .ref a,u=>u=Value.ref a
 | .ty n,u=>u=Value.type n
abbrev Vals:List V->List Value->Prop:=Paired RelV
theorem Vals.length {xs:List V}{us:List Value}(r:Vals xs us):xs.length=us.length:=Paired.length r
theorem Vals.get:∀{xs:List V}{us:List Value}{i:Nat}{x:V},Vals xs us->xs[i]? =some x->∃u,us[i]? =some u/\RelV x u
 |_,_,_,_,.nil,e=>by simp at e
 |_,_,0,_,.cons r _,e=>by simp at e;subst e;exact(Zr rfl r)
 |_,_,i+1,x,.cons _ t,e=>by
  obtain⟨u,h1,h2⟩:=Vals.get (i:=i) (x:=x) t (by simpa using e);exact⟨u,by simpa using h1,h2⟩
theorem Vals.set {x:V}{u:Value}(r:RelV x u):∀{xs:List V}{us:List Value}(i:Nat),Vals xs us->Vals (xs.set i x) (us.set i u)
 |_,_,_,.nil=>.nil
 |_,_,0,.cons _ t=>.cons r t
 |_,_,i+1,.cons q t=>.cons q (Vals.set r i t)
theorem Vals.append:∀{xs ys:List V}{us ws:List Value},Vals xs us->Vals ys ws->Vals (xs++ys) (us++ws)
 |_,_,_,_,.nil,s=>s
 |_,_,_,_,.cons r t,s=>.cons r (Vals.append t s)
theorem Vals.take:∀{xs:List V}{us:List Value}(n:Nat),Vals xs us->Vals (xs.take n) (us.take n)
 |_,_,0,_=>.nil
 |_,_,_+1,.nil=>.nil
 |_,_,n+1,.cons r t=>.cons r (Vals.take n t)
theorem Vals.drop:∀{xs:List V}{us:List Value}(n:Nat),Vals xs us->Vals (xs.drop n) (us.drop n)
 |_,_,0,r=>r
 |_,_,_+1,.nil=>.nil
 |_,_,n+1,.cons _ t=>Vals.drop n t
theorem Vals.none_of:∀{xs:List V}{us:List Value}{i:Nat},Vals xs us->xs[i]? =none->us[i]? =none:=λ{xs us i} r e=>by
 have h1:=r.length;have h2:xs.length<=i:=List.getElem?_eq_none_iff.mp e;exact List.getElem?_eq_none_iff.mpr (by omega)
def iB:Option V->Option Value->Prop
 |some v,some u=>RelV v u
 |none,none=>True
 |_,_=>False
def KV {κ:Type}:List (κ × V)->List (κ × Value)->Prop:=Paired λ(p:κ × V) (q:κ × Value)=>p.1=q.1/\RelV p.2 q.2
noncomputable def kV:Key->V
 | .inl i=>.int i
 | .inr x=>.str x
inductive HO where
 |lst (xs:List V)
 |tup (xs:List V)
 |dK (kvs:List (Key × V))|dT (kvs:List (List Key × V))
 |set (S:Int->Bool) (n:Nat)
 |ins (C dx:Addr) (fs:List (Str × V))
 |own (x:Addr)
 |xd (fs:List (Str × V))
 |met (f x:Addr)
 |rng (lo hi:Int)
 |iI (o:Obj) (u:HO)
 |gF (ps:Array Value)
 |ext (φ:Heap->Prop)
noncomputable abbrev Hp:=Addr->Option HO
noncomputable def upd (H:Hp) (a:Addr) (o:HO):Hp:=λb=>if b=a then some o else H b
theorem eF {H:Hp}{a:Addr}{o:HO}:upd H a o a=some o:=by unfold upd;rw[if_pos rfl]
theorem eu {H:Hp}{a b:Addr}{o:HO}(h:b≠a):upd H a o b=H b:=by unfold upd;rw[if_neg h]
theorem gZ {H:Hp}{a b:Addr}{o u:HO}(h:H a=some o)(h':H b=some u)(d:o≠u):a≠b:=by
 intro e;subst e;rw[h] at h';exact d (Option.some.inj h')
theorem eL {H:Hp}{a b:Addr}{o:HO}(h:H a=some o)(h':H b=none):a≠b:=by
 intro e;subst e;rw[h] at h';cases h'
section
variable (P:Program)(w:World)
def gC (H:Hp) (h:Heap) (a:Addr):HO->Prop
 | .lst xs=>xs.length<=sizeLine/\∃(I:List Value) (n:Nat),Vals xs I/\h.get? a=some { cls:=.type "list",data:=.seq I.toArray n }
 | .tup xs=>xs.length<=sizeLine/\∃I:List Value,Vals xs I/\IsTup h a I.toArray
 | .dK kvs=>kvs.length<=sizeLine/\(a == sysModules)=false/\∃vs,KV kvs vs/\h.DictOf (i3 P w) a vs
 | .dT kvs=>kvs.length<=sizeLine/\(a == sysModules)=false/\∃xs:List (List Key × Addr × Value),
    Paired (λ(p:List Key × V) (q:List Key × Addr × Value)=>p.1=q.1/\H q.2.1=some (.tup (p.1.map kV))/\RelV p.2 q.2.2) kvs xs/\
    ∃o es U,h.get? a=some o/\o.ExactDict/\o.data=.dict es U/\es.toList=xs.map (entryOfKey (tupleKind (i3 P w)))/\(xs.map (·.1)).Nodup
 | .set S n=>h.SetOf (intKind P w) a S n
 | .ins C dx fs=>H dx=some (.own a)/\fs.length<=1000/\dx≠a/\h.get? a=some (W.instObj C dx)/\
    ∃mA,h.Ns1 dx mA/\(∀f,iB (fs.lookup f) (mA f))/\PySem.Within mA (fs.map (·.1))
 | .own _=>∃o,h.get? a=some o
 | .xd fs=>∃mA,h.Ns1 a mA/\∀f,iB (fs.lookup f) (mA f)
 | .rng lo hi=>∃t u v,h.get? a=some { cls:=.type "range",data:=.fields #[.int lo t,.int hi u,.int 1 v] }
 | .iI o u=>h.get? a=some o/\gC H h a u
 | .gF ps=>h.get? a=some { cls:=.none,data:=.fields ps }
 | .met f x=>h.get? a=some (W.methodObj (.ref f) (.ref x))
 | .ext J=>J h/\(∃o,h.get? a=some o)/\∀h1 h2:Heap,J h1->(∀o,h1.get? a=some o->h2.get? a=some o)->J h2
def gw (H:Hp) (h:Heap):Prop:=∀a o,H a=some o->gC P w H h a o
end
section
variable {P:Program}{w:World}{H H':Hp}{h h':Heap}{a:Addr}{o:HO}
theorem gC.lt (x:gC P w H h a o):a<h.objs.size:=by
 cases o with
 |lst xs=>obtain⟨_,_,_,_,e⟩:=x;exact Q01 e
 |tup xs=>obtain⟨_,_,_,p⟩:=x;exact p.lt
 |dK kvs=>obtain⟨_,_,_,_,o,_,_,e,_⟩:=x;exact Q01 e
 |dT kvs=>obtain⟨_,_,_,_,o,_,_,e,_⟩:=x;exact Q01 e
 |set S n=>obtain⟨o,_,_,_,e,_⟩:=x;exact Q01 e
 |ins C dx fs=>obtain⟨_,_,_,e,_⟩:=x;exact Q01 e
 |own y=>obtain⟨_,e⟩:=x;exact Q01 e
 |xd fs=>obtain⟨_,⟨_,_,_,e,_⟩,_⟩:=x;exact Q01 e
 |rng lo hi=>obtain⟨_,_,_,e⟩:=x;exact Q01 e
 |iI I u=>obtain⟨e,_⟩:=x;exact Q01 e
 |gF ps=>exact Q01 (show h.get? a=some _ from x)
 |met f y=>exact Q01 (show h.get? a=some _ from x)
 |ext J=>obtain⟨_,⟨_,e⟩,_⟩:=x;exact Q01 e
theorem Paired.oH {α U:Type}{F G:α->U->Prop}:∀{I:List α}{J:List U},Paired F I J->(∀a b,F a b->G a b)->Paired G I J
 |_,_,.nil,_=>.nil
 |_,_,.cons r t,f=>.cons (f _ _ r) (Paired.oH t f)
theorem gC.stay (x:gC P w H h a o)(k:∀b u,(b=a\/H b=some (.own a))->h.get? b=some u->h'.get? b=some u)
 (ho:∀b,H b=some (.own a)->H' b=some (.own a)) (ht:∀b xs,H b=some (.tup xs)->H' b=some (.tup xs)):gC P w H' h' a o:=by
 induction o with
 |lst xs=>obtain⟨z,U,n,r,e⟩:=x;exact⟨z,U,n,r,k _ _ (.inl rfl) e⟩
 |tup xs=>obtain⟨z,U,r,I,e,c⟩:=x;exact⟨z,U,r,I,k _ _ (.inl rfl) e,c⟩
 |dK kvs=>obtain⟨z,y,vs,r,I,es,J,e,c⟩:=x;exact⟨z,y,vs,r,I,es,J,k _ _ (.inl rfl) e,c⟩
 |dT kvs=>
  obtain⟨z,y,xs,r,I,es,J,e,c⟩:=x;exact⟨z,y,xs,Paired.oH r λp q z=>⟨z.1,ht _ _ z.2.1,z.2.2⟩,I,es,J,k _ _ (.inl rfl) e,c⟩
 |set S n=>obtain⟨I,es,J,t,e,c⟩:=x;exact⟨I,es,J,t,k _ _ (.inl rfl) e,c⟩
 |ins C dx fs=>
  obtain⟨d,z,ne,e,mA,⟨Y,es,J,e2,c⟩,r⟩:=x;exact⟨ho _ d,z,ne,k _ _ (.inl rfl) e,mA,⟨Y,es,J,k _ _ (.inr d) e2,c⟩,r⟩
 |own y=>obtain⟨I,e⟩:=x;exact⟨I,k _ _ (.inl rfl) e⟩
 |xd fs=>obtain⟨mA,⟨Y,es,J,e,c⟩,r⟩:=x;exact⟨mA,⟨Y,es,J,k _ _ (.inl rfl) e,c⟩,r⟩
 |rng lo hi=>obtain⟨t,u,v,e⟩:=x;exact⟨t,u,v,k _ _ (.inl rfl) e⟩
 |iI I u ih=>obtain⟨e,q⟩:=x;exact⟨k _ _ (.inl rfl) e,ih q⟩
 |gF ps=>
  have e:h.get? a=some { cls:=.none,data:=.fields ps }:=x;show h'.get? a=some { cls:=.none,data:=.fields ps };exact k a _ (.inl rfl) e
 |met f y=>
  have e:h.get? a=some (W.methodObj (.ref f) (.ref y)):=x;show h'.get? a=some (W.methodObj (.ref f) (.ref y));exact k a _ (.inl rfl) e
 |ext φ=>obtain⟨p,⟨o,e⟩,st⟩:=x;exact⟨st _ _ p λo q=>k _ _ (.inl rfl) q,⟨o,k _ _ (.inl rfl) e⟩,st⟩
theorem gw.lt (x:gw P w H h)(e:H a=some o):a<h.objs.size:=(x a o e).lt
theorem gw.fresh (x:gw P w H h)(e:h.objs.size<=a):H a=none:=by
 cases q:H a with
 |none=>rfl
 |some u=>exact absurd (Q09 (x.lt q) e) (Q0m _)
theorem gw.kept (x:gw P w H h)(k:∀b u,h.get? b=some u->h'.get? b=some u):gw P w H h':=λa o e=>
 (x a o e).stay (λb u _ q=>k b u q) (λ_ q=>q) λ_ _ q=>q
theorem gw.laid (x:gw P w H h)(k:∀b u,h.get? b=some u->h'.get? b=some u)(hp:h.objs.size<=a)(new:gC P w (upd H a o) h' a o):gw P w (upd H a o) h':=λb u e=>by
 have I:=x.fresh hp;by_cases J:b=a
 . subst J;rw[eF] at e;cases e;exact new
 . rw[eu J] at e;exact(x b u e).stay (λc v _ q=>k c v q) (λc q=>by rw[eu (eL q I)];exact q) λc xs q=>by rw[eu (eL q I)];exact q
end
def Rd (H:Hp) (a:Addr) (u:HO):Prop:=H a=some u\/∃o,H a=some (.iI o u)
theorem Rd.ok {P:Program}{w:World}{H:Hp}{h:Heap}{a:Addr}{u:HO}(r:Rd H a u)(x:gw P w H h):gC P w H h a u:=by
 rcases r with r|⟨o,r⟩
 . exact x a u r
 . obtain⟨_,q⟩:=x a _ r;exact q
def oJ:Option HO->Prop
 |some (.lst _)=>True
 |some (.dK _)=>True
 |some (.dT _)=>True
 |some (.set _ _)=>True
 |some (.ins _ _ _)=>True
 |some (.ext _)=>True
 |_=>False
section
variable {P:Program}{w:World}{H:Hp}{h h':Heap}{x e:Addr}{o':HO}
theorem gw.write (ok:gw P w H h)(mu:oJ (H x))(he:e=x\/H e=some (.own x))(k:∀b u,b≠e->h.get? b=some u->h'.get? b=some u)(aa:∃u,h'.get? e=some u)
 (new:gC P w (upd H x o') h' x o'):gw P w (upd H x o') h':=λb u q=>by
 have J:∀c y,H c=some (.own y)->c≠x:=λc y r z=>by subst z;rw[r] at mu;exact mu
 have U:∀c xs,H c=some (.tup xs)->c≠x:=λc xs r z=>by subst z;rw[r] at mu;exact mu
 by_cases Y:b=x
 . subst Y;rw[eF] at q;cases q;exact new
 . rw[eu Y] at q;by_cases I:b=e
   . have q':H b=some (.own x):=by
      rcases he with z|z
      . exact absurd (I.trans z) Y
      . rw[I];exact z
     rw[q] at q';cases q';obtain⟨v,hv⟩:=aa;exact⟨v,by rw[I];exact hv⟩
   . refine(ok b u q).stay (λc v hc r=>k c v ?_ r) (λc r=>by rw[eu (J c b r)];exact r) λc xs r=>by rw[eu (U c xs r)];exact r
     rcases hc with rfl|hc
     . exact I
     . rintro rfl;rcases he with z|z
       . exact J c b hc z
       . rw[hc] at z;cases z;exact Y rfl
end
structure Un (fs ex:List Addr) (H H':Hp) (h h':Heap):Prop where
 keep:∀b o,h.get? b=some o->H b=none->b ∉ fs->b ∉ ex->h'.get? b=some o
 slot:∀b o,h.get? b=some o->H b=none->b∈fs->b ∉ ex->∃sl,h'.get? b=some { o with slots:=sl }
 free:∀b o,h.get? b=some o->H b=none->b ∉ ex->H' b=none
 there:∀b o,h.get? b=some o->b ∉ ex->∃o',h'.get? b=some o'
 tups:∀b xs,H b=some (.tup xs)->H' b=some (.tup xs)
 i4:∀b o u,H b=some (.iI o u)->H' b=some (.iI o u)
 i5:∀b ps,H b=some (.gF ps)->∃more,H' b=some (.gF (ps++more))
section
variable {fs fs' ex ex':List Addr}{H H1 H2:Hp}{h h1 h2 h':Heap}{a x e:Addr}{o:HO}
theorem Un.any (u:Un fs ex H H1 h h1){b:Addr}{I:Obj}(q:h.get? b=some I)(n:H b=none)(J:b ∉ ex):∃Y,h1.get? b=some { I with slots:=Y }:=by
 by_cases U:b∈fs
 . exact u.slot b I q n U J
 . exact⟨I.slots,u.keep b I q n U J⟩
theorem Un.kept (k:∀b u,h.get? b=some u->h'.get? b=some u):Un fs ex H H h h':=
 ⟨λb I q _ _ _=>k b I q,λb I q _ _ _=>⟨I.slots,k b I q⟩,λ_ _ _ n _=>n,λb I q _=>⟨I,k b I q⟩,λ_ _ q=>q,λ_ _ _ q=>q,λ_ ps q=>⟨#[],by rw[q];simp⟩⟩
theorem Un.refl:Un fs ex H H h h:=Un.kept λ_ _ q=>q
theorem Un.laid (k:∀b u,h.get? b=some u->h'.get? b=some u)(hp:h.objs.size<=a)(I:H a=none):Un fs ex H (upd H a o) h h' where
 keep:=λb u q _ _ _=>k b u q
 slot:=λb u q _ _ _=>⟨u.slots,k b u q⟩
 free:=λb u q n _=>by rw[eu (Q0a (Q09 (Q01 q) hp))];exact n
 there:=λb u q _=>⟨u,k b u q⟩
 tups:=λb xs q=>by rw[eu (eL q I)];exact q
 i4:=λb u xs q=>by rw[eu (eL q I)];exact q
 i5:=λb ps q=>⟨#[],by rw[eu (eL q I),q];simp⟩
theorem Un.write (mu:oJ (H x))(he:e=x\/H e=some (.own x))(k:∀b u,b≠e->h.get? b=some u->h'.get? b=some u)(U:∃u,h'.get? e=some u):Un fs ex H (upd H x o) h h':=by
 have Y:∀b,H b=none->b≠x:=λb n z=>by subst z;rw[n] at mu;exact mu
 have hb:∀b,H b=none->b≠e:=λb n z=>by
  subst z;rcases he with r|r
  . exact Y b n r
  . rw[n] at r;cases r
 have J:∀b u,H b=some u->¬oJ (some u)->b≠x:=λb u q nm z=>by subst z;rw[q] at mu;exact nm mu
 refine⟨λb u q n _ _=>k b u (hb b n) q,λb u q n _ _=>⟨u.slots,k b u (hb b n) q⟩,λb u q n _=>by rw[eu (Y b n)];exact n,λb u q _=>?_,
  λb xs q=>by rw[eu (J b _ q λz=>z)];exact q,λb u xs q=>by rw[eu (J b _ q λz=>z)];exact q,λb ps q=>⟨#[],by rw[eu (J b _ q λz=>z),q];simp⟩⟩
 by_cases I:b=e
 . subst I;exact U
 . exact⟨u,k b u I q⟩
end
noncomputable def qd (h:Heap) (H:Hp):List Addr:=(List.range h.objs.size).filter λa=>(H a).isSome
noncomputable def j0 (h:Heap) (H:Hp):Heap:=W.hideAll h (qd h H)
theorem Et (h:Heap)(H:Hp):(j0 h H).objs.size=h.objs.size:=W.hideAll_size _ _
theorem Eu {h:Heap}{H:Hp}{b:Addr}{o:Obj}(e:h.get? b=some o)(n:H b=none):(j0 h H).get? b=some o:=
 W.hideAll_get _ e λI=>by
   have q:(H b).isSome=true:=(List.mem_filter.mp I).2;rw[n] at q;simp at q
theorem Ew {h:Heap}{H:Hp}{b:Addr}{o:Obj}(e:(j0 h H).get? b=some o):h.get? b=some o/\H b=none:=by
 have I:h.get? b=some o:=W.of_hideAll (qd h H) e;refine⟨I,?_⟩
 cases q:H b with
 |none=>rfl
 |some x=>
  have J:b∈qd h H:=List.mem_filter.mpr ⟨List.mem_range.mpr (Q01 I),by simp[q]⟩;have z:(j0 h H).get? b=none:=W.hideAll_none (qd h H) J;rw[z] at e;cases e
noncomputable def Ex (g h:Heap) (L:Addr):List (Addr × Obj):=(List.range h.objs.size).filterMap λa=>if a=L\/(g.get? a).isSome=true then none else(h.get? a).map λo=>(a,o)
noncomputable def rest (g h:Heap) (L d:Addr):List (Addr × Obj):=(Ex g h L).filter λp=>decide (p.1≠d)
structure Mod (K:W.Frag) (mg:Str->Option Value) (base:Heap):Prop where
 nh:K.In base
 glob:base.Ns mainGlobals mg
 blt:∃mb,base.Ns builtinsNs mb/\∀x:Str,x≠"__name__"->mb x=bootBuiltins x
 nolimit:base.NoLimit
structure Cx where
 prog:Program
 w:World
 K:W.Frag
 mg:Str->Option Value
 base:Heap
 A:Around
 N:List Str
 s₀:Shared
 H₀:Hp
 env:Env
 outer:List Env
 stack:List Env
 ex:List Addr
 fn:Str->Bool
 calm:Bool
 pn:List (Addr × Obj)
 xe:Value->Shared->Prop
noncomputable def frs (l:List Env):List Addr:=l.filterMap (·.frame)
noncomputable abbrev Cx.fs (X:Cx):List Addr:=frs X.outer
def qe (sc:Scope) (x:Str):Prop:=sc.names.lookup x=some .local\/sc.names.lookup x=some .cell\/sc.names.lookup x=some .free
def Loc (sc:Scope) (x:Str):Prop:=sc.names.lookup x=some .local\/sc.names.lookup x=some .cell
def Look (env:Env) (h:Heap) (m:Str->Option Value) (x:Str) (u:Value):Prop:=
 (env.kindOf x=some .local/\m x=some u)\/((env.kindOf x=some .cell\/env.kindOf x=some .free)/\∃c,env.cells.lookup x=some c/\h.IsCell c (some u))
structure Cx.Ok (X:Cx):Prop where
 mod:Mod X.K X.mg X.base
 kind:X.env.scope.kind=.function
 glob:X.env.globals=mainGlobals
 blt:X.env.builtins=builtinsNs
 above:X.s₀.heap.objs.size<=X.env.locals
 inj:∀x y c,X.env.cells.lookup x=some c->X.env.cells.lookup y=some c->x=y
 has:∀x,(X.env.kindOf x=some .cell\/X.env.kindOf x=some .free)->∃c,X.env.cells.lookup x=some c
 cab:∀x c,X.fn x=true->X.env.cells.lookup x=some c->X.s₀.heap.objs.size<=c
 hd:X.calm=true->X.A.handled=none
 frames:X.A.frames=some X.stack
 stk:X.stack=X.outer\/(X.stack=X.env::X.outer/\X.env.frame=some X.env.locals)
 oK:∀b∈X.ex,b≠X.env.locals/\∀x c,X.env.cells.lookup x=some c->c≠b
 bs:∀b o,X.base.get? b=some o->X.s₀.heap.get? b=some o/\X.H₀ b=none
 jh:X.base.objs.size<=X.s₀.heap.objs.size
 lA:∀b o,X.base.get? b=some o->b ∉ X.ex
 l8:∀b∈X.ex,b ∉ X.fs
 iN:X.s₀.heap.FunFrames X.base X.outer
 j1:∀b∈X.fs,X.H₀ b=none
structure Inv (X:Cx) (pins:List (Addr × Obj)) (σ:List (Option V)) (H:Hp) (s:Shared):Prop where
 ok:X.Ok
 os:s.os=X.s₀.os
 bare:AllBare s.gens
 base:Un X.fs X.ex X.H₀ H X.s₀.heap s.heap
 loc:∃m,s.heap.Ns X.env.locals m/\∀(i:Nat) (x:Str) (v:V),X.N[i]? =some x->σ[i]? =some (some v)->qe X.env.scope x->∃u,RelV v u/\Look X.env s.heap m x u
 cell:∀x c,X.env.cells.lookup x=some c->∃v,s.heap.IsCell c v
 free:H X.env.locals=none
 iC:∀x c,X.env.cells.lookup x=some c->H c=none
 pin:∀p∈X.pn++pins,s.heap.get? p.1=some p.2/\H p.1=none/\p.1≠X.env.locals/\p.1 ∉ X.fs/\∀v,p.2.data≠ .cell v
 hok:gw X.prog X.w H s.heap
 len:σ.length=X.N.length
section
variable {X:Cx}{pins:List (Addr × Obj)}{σ:List (Option V)}{H H':Hp}{s:Shared}{h':Heap}
theorem Cx.Ok.Ey (ok:X.Ok){b:Addr}{o:Obj}(e:X.base.get? b=some o):b ∉ X.fs:=λI=>by
 have:=(ok.iN.mem I).1;rw[e] at this;cases this
theorem Inv.bs (I:Inv X pins σ H s):∀b o,X.base.get? b=some o->s.heap.get? b=some o/\H b=none:=λb o e=>
 ⟨I.base.keep b o (I.ok.bs b o e).1 (I.ok.bs b o e).2 (I.ok.Ey e) (I.ok.lA b o e),I.base.free b o (I.ok.bs b o e).1 (I.ok.bs b o e).2 (I.ok.lA b o e)⟩
theorem Inv.bk (I:Inv X pins σ H s):∀b o,X.base.get? b=some o->s.heap.get? b=some o:=λb o e=>(I.bs b o e).1
theorem Inv.mod (I:Inv X pins σ H s):Mod X.K X.mg X.base:=I.ok.mod
theorem Inv.gG (I:Inv X pins σ H s):X.K.In s.heap:=I.ok.mod.nh.keeps I.bk
theorem Inv.nolimit (I:Inv X pins σ H s):s.heap.NoLimit:=I.ok.mod.nolimit.keeps I.bk
theorem Inv.lt (I:Inv X pins σ H s):X.env.locals<s.heap.objs.size:=let⟨_,J,_⟩:=I.loc;J.lt
theorem Inv.sz (I:Inv X pins σ H s):X.s₀.heap.objs.size<=s.heap.objs.size:=Q0e I.ok.above (Q0k I.lt)
theorem Inv.ni (I:Inv X pins σ H s){a:Addr}(h:s.heap.objs.size<=a):a ∉ X.fs:=λJ=>by
 obtain⟨_,o,U,_⟩:=I.ok.iN.mem J;exact absurd (Q09 (Q01 U) (Q0e I.sz h)) (Q0m _)
theorem Inv.jL (I:Inv X pins σ H s):∀x c,X.env.cells.lookup x=some c->c≠X.env.locals:=λx c e z=>by
 obtain⟨v,o,Y,hd⟩:=I.cell x c e;obtain⟨m,⟨o',es,ep,J,U,_⟩,_⟩:=I.loc;rw[z,J] at Y;cases Y;rw[U] at hd;cases hd
theorem Inv.iN (I:Inv X pins σ H s):s.heap.FunFrames X.base X.outer:=by
 have all:∀(l:List Env),(∀b∈frs l,b∈X.fs)->X.s₀.heap.FunFrames X.base l->s.heap.FunFrames X.base l:=by
  intro l
  induction l with
  |nil=>intro _ _;trivial
  |cons env r ih=>
   intro hs hl;obtain⟨hk,⟨L,o,J,hn,ho,hd⟩,hr⟩:=hl;have U:L∈X.fs:=hs L (by unfold frs;rw[Q23,J];exact Q06);obtain⟨sl,e⟩:=I.base.slot L o ho (I.ok.j1 L U) U λz=>I.ok.l8 L z U;exact⟨hk,⟨L,_,J,hn,e,hd⟩,ih (λb Y=>hs b (by unfold frs;rw[Q23,J];exact Q0b _ Y)) hr⟩
 exact all X.outer (λ_ Y=>Y) I.ok.iN
theorem Inv.stack (I:Inv X pins σ H s):s.heap.FunFrames X.base X.stack:=by
 rcases I.ok.stk with e|⟨e,J⟩
 . rw[e];exact I.iN
 . rw[e];obtain⟨m,U,_⟩:=I.loc;refine .cons (by rw[I.ok.kind];decide) J U ?_ I.iN;exact Q24 (Q0e I.ok.jh I.ok.above)
theorem Inv.nj (I:Inv X pins σ H s):∀b∈frs X.stack,b∈X.env.locals::X.fs:=λb J=>by
 rcases I.ok.stk with e|⟨e,U⟩
 . rw[e] at J;exact Q0b _ J
 . rw[e] at J;unfold frs at J;rw[Q23,U] at J;exact J
theorem Inv.oM (I:Inv X pins σ H s):∀b∈frs X.stack,H b=none:=λb J=>by
 rcases List.mem_cons.mp (I.nj b J) with e|J
 . rw[e];exact I.free
 . obtain⟨_,o,U,_⟩:=I.ok.iN.mem J;exact I.base.free b o U (I.ok.j1 b J) λz=>I.ok.l8 b z J
theorem Inv.step {g':Array GenState}{t':Nat}{d':Drawn}{ch:List Addr}(I:Inv X pins σ H s)
 (U:∀b∈ch,(b∈X.ex\/X.s₀.heap.objs.size<=b)/\b≠X.env.locals/\(∀x c,X.env.cells.lookup x=some c->c≠b)/\∀p∈X.pn++pins,p.1≠b)
 (keep:∀b o,b≠X.env.locals->b ∉ X.fs->b ∉ ch->s.heap.get? b=some o->H b=none->h'.get? b=some o)
 (slot:∀b o,b≠X.env.locals->b∈X.fs->b ∉ ch->s.heap.get? b=some o->H b=none->∃sl,h'.get? b=some { o with slots:=sl }) (free:∀b o,b ∉ ch->s.heap.get? b=some o->H b=none->H' b=none)
 (there:∀b o,b ∉ ch->s.heap.get? b=some o->∃o',h'.get? b=some o')
 (tups:∀b xs,H b=some (.tup xs)->H' b=some (.tup xs)) (i4:∀b o u,H b=some (.iI o u)->H' b=some (.iI o u)) (i5:∀b ps,H b=some (.gF ps)->∃ae,H' b=some (.gF (ps++ae)))
 (ns:∀m,s.heap.Ns X.env.locals m->h'.Ns X.env.locals m) (af:gw X.prog X.w H' h') (hg:AllBare g'):
 Inv X pins σ H' { s with heap:=h',gens:=g',drawn:=d',toks:=t' }:=by
 have ac:∀b o,X.s₀.heap.get? b=some o->b≠X.env.locals:=λb o e=>Q0a (Q09 (Q01 e) I.ok.above)
 have ab:∀b o,X.s₀.heap.get? b=some o->b ∉ X.ex->b ∉ ch:=λb o e J hb=>by
  rcases(U b hb).1 with z|z
  . exact J z
  . exact absurd (Q09 (Q01 e) z) (Q0m _)
 have aa:∀x c,X.env.cells.lookup x=some c->∀v,s.heap.IsCell c v->h'.IsCell c v:=λx c e v ⟨o,ho,hd⟩=>by
  have Y:c ∉ ch:=λz=>(U c z).2.2.1 x c e rfl;by_cases hc:c∈X.fs
  . obtain⟨sl,q⟩:=slot c o (I.jL x c e) hc Y ho (I.iC x c e);exact⟨_,q,hd⟩
  . exact⟨o,keep c o (I.jL x c e) hc Y ho (I.iC x c e),hd⟩
 refine⟨I.ok,I.os,hg,⟨λb o e n hb J=>?_,λb o e n hb J=>?_,λb o e n J=>?_,λb o e J=>?_,λb xs e=>tups b xs (I.base.tups b xs e),λb o xs e=>i4 b o xs (I.base.i4 b o xs e),λb ps e=>?_⟩,?_,λx c e=>?_,?_,λx c e=>?_,λp hp=>?_,af,I.len⟩
 . exact keep b o (ac b o e) hb (ab b o e J) (I.base.keep b o e n hb J) (I.base.free b o e n J)
 . obtain⟨sl,e1⟩:=I.base.slot b o e n hb J;obtain⟨ag,e2⟩:=slot b _ (ac b o e) hb (ab b o e J) e1 (I.base.free b o e n J);exact⟨ag,e2⟩
 . obtain⟨o',e1⟩:=I.base.there b o e J;exact free b o' (ab b o e J) e1 (I.base.free b o e n J)
 . obtain⟨o',e1⟩:=I.base.there b o e J;exact there b o' (ab b o e J) e1
 . obtain⟨m1,e1⟩:=I.base.i5 b ps e;obtain⟨m2,e2⟩:=i5 b _ e1;exact⟨m1++m2,by rw[e2,Array.append_assoc]⟩
 . obtain⟨m,hn,hl⟩:=I.loc;refine⟨m,ns m hn,λi x v e1 e2 e3=>?_⟩;obtain⟨u,r,l⟩:=hl i x v e1 e2 e3;refine⟨u,r,?_⟩;rcases l with l|⟨k,c,e,z⟩
   . exact .inl l
   . exact .inr ⟨k,c,e,aa x c e _ z⟩
 . obtain⟨v,z⟩:=I.cell x c e;exact⟨v,aa x c e v z⟩
 . obtain⟨m,⟨o,_,_,ho,_⟩,_⟩:=I.loc;exact free _ o (λz=>(U _ z).2.1 rfl) ho I.free
 . obtain⟨v,o,ho,hd⟩:=I.cell x c e;exact free c o (λz=>(U c z).2.2.1 x c e rfl) ho (I.iC x c e)
 . obtain⟨e,n,ne,nf,d⟩:=I.pin p hp;have Y:p.1 ∉ ch:=λz=>(U p.1 z).2.2.2 p hp rfl;exact⟨keep p.1 p.2 ne nf Y e n,free p.1 p.2 Y e n,ne,nf,d⟩
theorem Inv.un {t':Nat}(I:Inv X pins σ H s)(u:Un X.fs [] H H' s.heap h')(Y:gw X.prog X.w H' h'):Inv X pins σ H' { s with heap:=h',toks:=t' }:=by
 obtain⟨m,⟨o,es,ep,ho,r⟩,_⟩:=id I.loc;obtain⟨sl,hL⟩:=u.any ho I.free (by simp)
 exact I.step (g':=s.gens) (d':=s.drawn) (ch:=[]) (λ_ z=>nomatch z) (λb o _ U _ e n=>u.keep b o e n U (by simp)) (λb o _ U _ e n=>u.slot b o e n U (by simp)) (λb o _ e n=>u.free b o e n (by simp)) (λb o _ e=>u.there b o e (by simp)) u.tups u.i4 u.i5 (λm' hm=>by
  obtain⟨o',aa,ab,J,r'⟩:=hm;rw[ho] at J;cases J;exact⟨_,aa,ab,hL,r'⟩) Y I.bare
theorem Inv.call {g':Array GenState}{t':Nat}{d':Drawn}{ch:List Addr}(I:Inv X pins σ H s)(u:Un (frs X.stack) ch H H' s.heap h')(aa:gw X.prog X.w H' h')(hg:AllBare g')
 (J:∀b∈ch,(b∈X.ex\/X.s₀.heap.objs.size<=b)/\b≠X.env.locals/\(∀x c,X.env.cells.lookup x=some c->c≠b)/\∀p∈X.pn++pins,p.1≠b):
 Inv X pins σ H' { s with heap:=h',gens:=g',drawn:=d',toks:=t' }:=by
 obtain⟨m,⟨o,es,ep,ho,r⟩,_⟩:=id I.loc;obtain⟨sl,Y⟩:=u.any ho I.free λz=>(J _ z).2.1 rfl
 exact I.step (ch:=ch) J (λb o Y hb hc e n=>u.keep b o e n (λz=>(List.mem_cons.mp (I.nj b z)).elim Y hb) hc) (λb o _ _ hc e n=>u.any e n hc) (λb o hc e n=>u.free b o e n hc) (λb o hc e=>u.there b o e hc) u.tups u.i4 u.i5 (λm' hm=>by
  obtain⟨o',ab,ac,U,r'⟩:=hm;rw[ho] at U;cases U;exact⟨_,ab,ac,Y,r'⟩) aa hg
theorem Inv.turned {t':Nat}{it:Addr}(I:Inv X pins σ H s)(k:∀b o,b≠it->s.heap.get? b=some o->h'.get? b=some o)(Y:H it=none)(U:it≠X.env.locals)
 (h1:it∈X.ex\/X.s₀.heap.objs.size<=it) (h2:∀x c,X.env.cells.lookup x=some c->c≠it) (h3:∀p∈X.pn++pins,p.1≠it):Inv X pins σ H { s with heap:=h',toks:=t' }:=by
 have J:∀b u,H b=some u->b≠it:=λb u e z=>by rw[z,Y] at e;cases e
 refine I.step (g':=s.gens) (d':=s.drawn) (ch:=[it]) (λb hb=>?_) (λb o _ _ hc e _=>k b o (λz=>hc (by simp[z])) e) (λb o _ _ hc e _=>⟨o.slots,k b o (λz=>hc (by simp[z])) e⟩) (λ_ _ _ _ n=>n)
  (λb o hc e=>⟨o,k b o (λz=>hc (by simp[z])) e⟩) (λ_ _ e=>e) (λ_ _ _ e=>e) (λb ps e=>⟨#[],by rw[e];simp⟩) (λm hm=>?_) (λb u e=>?_) I.bare
 . have e:b=it:=by simpa using hb
   subst e;exact⟨h1,U,h2,h3⟩
 . obtain⟨o,es,ep,ho,r⟩:=hm;exact⟨o,es,ep,k _ o (Ne.symm U) ho,r⟩
 . refine(I.hok b u e).stay (λc v hc q=>k c v ?_ q) (λ_ q=>q) λ_ _ q=>q;rcases hc with z|z
   . rw[z];exact J b u e
   . exact J c _ z
theorem Inv.tok (I:Inv X pins σ H s)(t:Nat):Inv X pins σ H { s with toks:=t }:=I.un (h':=s.heap) (t':=t) Un.refl I.hok
theorem Inv.kept {t':Nat}(I:Inv X pins σ H s)(k:∀b u,s.heap.get? b=some u->h'.get? b=some u):Inv X pins σ H { s with heap:=h',toks:=t' }:=I.un (Un.kept k) (I.hok.kept k)
theorem Inv.laid {a:Addr}{o:HO}{t':Nat}(I:Inv X pins σ H s)(k:∀b u,s.heap.get? b=some u->h'.get? b=some u)(hp:s.heap.objs.size<=a)(new:gC X.prog X.w (upd H a o) h' a o):
 Inv X pins σ (upd H a o) { s with heap:=h',toks:=t' }:=I.un (Un.laid k hp (I.hok.fresh hp)) (I.hok.laid k hp new)
theorem Inv.write {x e:Addr}{o:HO}{t':Nat}(I:Inv X pins σ H s)(mu:oJ (H x))(U:e=x\/H e=some (.own x))(k:∀b u,b≠e->s.heap.get? b=some u->h'.get? b=some u)(J:∃u,h'.get? e=some u)
 (new:gC X.prog X.w (upd H x o) h' x o):Inv X pins σ (upd H x o) { s with heap:=h',toks:=t' }:=I.un (Un.write mu U k J) (I.hok.write mu U k J new)
theorem Inv.weak {J:List (Option V)}(I:Inv X pins σ H s)(hl:J.length=σ.length)(w:∀(i:Nat) v,J[i]? =some (some v)->σ[i]? =some (some v)):Inv X pins J H s:=
 ⟨I.ok,I.os,I.bare,I.base,let⟨m,Y,U⟩:=I.loc;⟨m,Y,λi x v e1 e2 e3=>U i x v e1 (w i v e2) e3⟩,I.cell,I.free,I.iC,I.pin,I.hok,hl.trans I.len⟩
theorem Inv.l9 {J:List (Addr × Obj)}(I:Inv X pins σ H s)(h:∀p∈J,s.heap.get? p.1=some p.2/\H p.1=none/\p.1≠X.env.locals/\p.1 ∉ X.fs/\∀v,p.2.data≠ .cell v):Inv X J σ H s:=
 ⟨I.ok,I.os,I.bare,I.base,I.loc,I.cell,I.free,I.iC,λp hp=>(List.mem_append.mp hp).elim (λz=>I.pin p (Q0v _ z)) (h p),I.hok,I.len⟩
theorem sJ {N:List Str}(I:N.Nodup){i j:Nat}{x:Str}(a:N[i]? =some x)(b:N[j]? =some x):i=j:=by
 obtain⟨h1,J⟩:=List.getElem?_eq_some_iff.mp a;obtain⟨h2,U⟩:=List.getElem?_eq_some_iff.mp b;exact(Q25 I).mp (J.trans U.symm)
theorem Ez {M:Model}{A:Around}{E:Value->Shared->Prop}{i:Nat}{x:Str}{v:V}{u:Value}{Q:Unit->Shared->Prop}(I:Inv X pins σ H s)(hN:X.N.Nodup)(hi:X.N[i]? =some x)(hx:Loc X.env.scope x)(r:RelV v u)
 (h:∀s',Inv X pins (σ.set i (some v)) H s'->(∃a,Heap.SameBut a s.heap s'.heap/\(a=X.env.locals\/X.env.cells.lookup x=some a))->Q () s') (hf:X.fn x=true\/X.env.scope.names.lookup x=some .local:=by first|exact .inl rfl|exact .inr rfl|assumption):wpAny M A (storeName X.env x u) Q E s:=by
 obtain⟨m,hn,hl⟩:=id I.loc;have ah:(X.env.scope.kind == .class || (X.env.scope.kind == .module && X.env.locals != X.env.globals))=false:=by rw[I.ok.kind];rfl
 have ab:i<σ.length:=by rw[I.len];exact(List.getElem?_eq_some_iff.mp hi).1
 have jL:=I.jL
 have Y:∀{a:Addr} {h':Heap},(∃o,s.heap.get? a=some o/\H a=none)->Heap.SameBut a s.heap h'->gw X.prog X.w H h':=λ{a h'} ha J b ob e=>by
  obtain⟨_,_,aa⟩:=ha;refine(I.hok b ob e).stay (λc w' hc q=>(J.2 c ?_).trans q) (λ_ q=>q) λ_ _ q=>q;rintro rfl;rcases hc with rfl|hc
  . rw[aa] at e;cases e
  . rw[aa] at hc;cases hc
 rcases hx with hk|hk
 . refine wpAny_storeName_local hk hn (λh' aj J=>?_) ah;obtain⟨oL,_,_,ak,_⟩:=id hn;refine h _ ⟨I.ok,I.os,I.bare,⟨λb o e n hb hx=>?_,λb o e n hb hx=>?_,I.base.free,λb o e hx=>?_,I.base.tups,I.base.i4,I.base.i5⟩,⟨_,aj,λj y v' U e2 e3=>?_⟩,λy c e=>?_,I.free,I.iC,λp hp=>?_,Y ⟨oL,ak,I.free⟩ J,by simpa using I.len⟩ ⟨_,J,.inl rfl⟩
   . exact(J.2 b (Q0a (Q09 (Q01 e) I.ok.above))).trans (I.base.keep b o e n hb hx)
   . obtain⟨sl,U⟩:=I.base.slot b o e n hb hx;exact⟨sl,(J.2 b (Q0a (Q09 (Q01 e) I.ok.above))).trans U⟩
   . obtain⟨o',U⟩:=I.base.there b o e hx;exact⟨o',(J.2 b (Q0a (Q09 (Q01 e) I.ok.above))).trans U⟩
   . by_cases hj:j=i
     . subst hj;rw[hi] at U;cases U;rw[Q26 ab] at e2
       cases e2;exact⟨u,r,.inl ⟨hk,by simp⟩⟩
     . rw[Q1r (Ne.symm hj)] at e2;obtain⟨u',r',q⟩:=hl j y v' U e2 e3;refine⟨u',r',?_⟩;rcases q with⟨k,e⟩|⟨k,c,e,z⟩
       . refine .inl ⟨k,?_⟩;have:y≠x:=λe=>hj (sJ hN U (e ▸ hi));simp[this,e]
       . exact .inr ⟨k,c,e,z.sameBut J (jL y c e)⟩
   . obtain⟨w',z⟩:=I.cell y c e;exact⟨w',z.sameBut J (jL y c e)⟩
   . obtain⟨e,n,ne,nf,d⟩:=I.pin p hp;exact⟨(J.2 p.1 ne).trans e,n,ne,nf,d⟩
 . have ac:X.fn x=true:=by
    rcases hf with z|z
    . exact z
    . rw[z] at hk;cases hk
   obtain⟨c,hc⟩:=I.ok.has x (.inl hk);obtain⟨w',z⟩:=I.cell x c hc;refine wpAny_storeName_cell I.ok.kind hk hc z (λh' ae J=>?_);obtain⟨oc,af,ai⟩:=id z;refine h { s with heap:=h' } ⟨I.ok,I.os,I.bare,⟨λb o e n hb hx=>?_,λb o e n hb hx=>?_,I.base.free,λb o e hx=>?_,I.base.tups,I.base.i4,I.base.i5⟩,⟨m,hn.sameBut J (Ne.symm (jL x c hc)),λj y v' U e2 e3=>?_⟩,λy c' e=>?_,I.free,I.iC,λp hp=>?_,Y ⟨oc,af,I.iC x c hc⟩ J,by simpa using I.len⟩ ⟨c,J,.inr hc⟩
   . exact(J.2 b (Q0a (Q09 (Q01 e) (I.ok.cab x c ac hc)))).trans (I.base.keep b o e n hb hx)
   . obtain⟨sl,U⟩:=I.base.slot b o e n hb hx;exact⟨sl,(J.2 b (Q0a (Q09 (Q01 e) (I.ok.cab x c ac hc)))).trans U⟩
   . obtain⟨o',U⟩:=I.base.there b o e hx;exact⟨o',(J.2 b (Q0a (Q09 (Q01 e) (I.ok.cab x c ac hc)))).trans U⟩
   . by_cases hj:j=i
     . subst hj;rw[hi] at U;cases U;rw[Q26 ab] at e2
       cases e2;exact⟨u,r,.inr ⟨.inl hk,c,hc,ae⟩⟩
     . rw[Q1r (Ne.symm hj)] at e2;obtain⟨u',r',q⟩:=hl j y v' U e2 e3;refine⟨u',r',?_⟩;rcases q with q|⟨k,c',e,z'⟩
       . exact .inl q
       . refine .inr ⟨k,c',e,z'.sameBut J ?_⟩;rintro rfl;exact hj (sJ hN U (I.ok.inj _ _ _ e hc ▸ hi))
   . by_cases ag:c'=c
     . subst ag;exact⟨_,ae⟩
     . obtain⟨w2,z2⟩:=I.cell y c' e;exact⟨w2,z2.sameBut J ag⟩
   . obtain⟨e,n,ne,nf,d⟩:=I.pin p hp;refine⟨(J.2 p.1 ?_).trans e,n,ne,nf,d⟩;intro q;rw[q,af] at e;have q':oc=p.2:=Option.some.inj e;exact d w' (by rw[<-q'];exact ai)
theorem oN {M:Model}{A:Around}{E:Value->Shared->Prop}{i:Nat}{x:Str}{v:V}{u:Value}{Q:Unit->Shared->Prop}(I:Inv X pins σ H s)(J:X.N.Nodup)(hi:X.N[i]? =some x)(U:Loc X.env.scope x)(r:RelV v u)
 (h:∀s',Inv X pins (σ.set i (some v)) H s'->Q () s') (Y:X.fn x=true\/X.env.scope.names.lookup x=some .local:=by first|exact .inl rfl|exact .inr rfl|assumption):wpAny M A (storeName X.env x u) Q E s:=
 Ez I J hi U r (λs' I' _=>h s' I') Y
theorem Inv.call' {s':Shared}{ch:List Addr}(I:Inv X pins σ H s)(Y:s'.os=s.os)(u:Un (frs X.stack) ch H H' s.heap s'.heap)(J:gw X.prog X.w H' s'.heap)(hg:AllBare s'.gens)
 (U:∀b∈ch,(b∈X.ex\/X.s₀.heap.objs.size<=b)/\b≠X.env.locals/\(∀x c,X.env.cells.lookup x=some c->c≠b)/\∀p∈X.pn++pins,p.1≠b):Inv X pins σ H' s':=by
 obtain⟨h',g',d',t',o'⟩:=s';have e:o'=s.os:=Y;subst e;exact I.call (g':=g') (t':=t') (d':=d') u J hg U
end
noncomputable abbrev XK:=Value->Option Addr->Hp->Prop
noncomputable abbrev St:=List (Option V)
noncomputable abbrev VK:=V->Hp->Prop
noncomputable abbrev TE:=St->Hp->VK->Prop
noncomputable abbrev TT:=St->Hp->(Bool->Hp->Prop)->Prop
noncomputable abbrev TA:=St->Hp->(List V->Hp->Prop)->Prop
structure Ends where
 nx:St->Hp->Prop
 rt:VK
 bk:St->Hp->Prop:=λ_ _=>False
 ct:St->Hp->Prop:=λ_ _=>False
noncomputable abbrev TS:=Ends->St->Hp->Prop
def EP (X:Cx) (pins:List (Addr × Obj)) (σ:St) (Q:VK) (u:Value) (s':Shared):Prop:=∃v H',Inv X pins σ H' s'/\RelV v u/\Q v H'
def TP (X:Cx) (pins:List (Addr × Obj)) (σ:St) (Q:Bool->Hp->Prop) (b:Bool) (s':Shared):Prop:=∃H',Inv X pins σ H' s'/\Q b H'
def AP (X:Cx) (pins:List (Addr × Obj)) (σ:St) (Q:List V->Hp->Prop) (us:List Value) (s':Shared):Prop:=∃vs H',Inv X pins σ H' s'/\Vals vs us/\Q vs H'
def SP (X:Cx) (pins:List (Addr × Obj)) (D:Ends) (f:Flow) (s':Shared):Prop:=
 match f with
 | .next=>∃I H',Inv X pins I H' s'/\D.nx I H'
 | .brk=>∃I H',Inv X pins I H' s'/\D.bk I H'
 | .cont=>∃I H',Inv X pins I H' s'/\D.ct I H'
 | .ret u=>∃v I H',Inv X pins I H' s'/\RelV v u/\D.rt v H'
def PE (X:Cx) (e:Expr) (t:TE):Prop:=
 ∀(pins:List (Addr × Obj)) (s:Shared) (σ:St) (H:Hp) (Q:VK),Inv X pins σ H s->t σ H Q->wpAny (model X.prog X.w) X.A (eval e X.env) (EP X pins σ Q) X.xe s
def PT (X:Cx) (e:Expr) (t:TT):Prop:=
 ∀(pins:List (Addr × Obj)) (s:Shared) (σ:St) (H:Hp) (Q:Bool->Hp->Prop),Inv X pins σ H s->t σ H Q->wpAny (model X.prog X.w) X.A (isTrue e X.env (eval e X.env)) (TP X pins σ Q) X.xe s
def PW (X:Cx) (e:Expr) (t:TT):Prop:=
 ∀(I:Sem Value) (pins:List (Addr × Obj)) (s:Shared) (σ:St) (H:Hp) (Q:Bool->Hp->Prop),Inv X pins σ H s->t σ H Q->wpAny (model X.prog X.w) X.A (isTrue e X.env I) (TP X pins σ Q) X.xe s
theorem PW.pt {X:Cx}{e:Expr}{t:TT}(h:PW X e t):PT X e t:=h _
def PA (X:Cx) (es:List Expr) (t:TA):Prop:=
 ∀(pos:Pos) (pins:List (Addr × Obj)) (s:Shared) (σ:St) (H:Hp) (Q:List V->Hp->Prop),Inv X pins σ H s->t σ H Q->wpAny (model X.prog X.w) X.A (spliced (backTo pos (starEach es X.env))) (AP X pins σ Q) X.xe s
def PS (X:Cx) (st:Stmt) (t:TS):Prop:=
 ∀(pins:List (Addr × Obj)) (s:Shared) (σ:St) (H:Hp) (D:Ends),Inv X pins σ H s->t D σ H->wpAny (model X.prog X.w) X.A (exec st X.env) (SP X pins D) X.xe s
def iD (X:Cx) (st:List Stmt) (t:TS):Prop:=
 ∀(pins:List (Addr × Obj)) (s:Shared) (σ:St) (H:Hp) (D:Ends),Inv X pins σ H s->t D σ H->wpAny (model X.prog X.w) X.A (execs st X.env) (SP X pins D) X.xe s
theorem e_ {α:Type}{t:Sem α}{Q I:α->Shared->Prop}{M:Model}{A:Around}{E:Value->Shared->Prop}{s:Shared}(h:wpAny M A t Q E s)(J:∀a s,Q a s->I a s):wpAny M A t I E s:=Q0n h J λ_ _ x=>x
section
variable {X:Cx}
def fF (i:Nat):TE:=λσ H Q=>∃v,σ[i]? =some (some v)/\Q v H
def tC (v:V):TE:=λ_ H Q=>Q v H
theorem EA {i:Nat}{x:Str}{pos:Pos}(hN:X.N[i]? =some x)(hv:qe X.env.scope x)(Y:(x == ("__debug__":Str))=false:=by decide)(aa:(x == ("__classdict__":Str))=false:=by decide):PE X (.Name x pos) (fF i):=by
 intro pins s σ H Q I h;obtain⟨v,e,h⟩:=h;obtain⟨m,hn,hl⟩:=I.loc;obtain⟨u,r,l⟩:=hl i x v hN e hv;have fin:EP X pins σ Q u s:=⟨v,H,I,r,h⟩;rcases l with⟨U,hm⟩|⟨U,c,hc,J⟩
 . exact wpAny_Name (wpAny_loadName_local I.ok.kind U hn hm fin) Y
 . rcases U with U|U
   . exact wpAny_Name (wpAny_loadName_cell I.ok.kind U hc J fin) Y
   . exact wpAny_Name (wpAny_loadName_free I.ok.kind U hc J fin aa) Y
theorem b_ {i j pos}:PE X (.Constant (.int i) j pos) (tC (.int i)):=λ_ _ _ H _ I h=>wpAny_Constant_int ⟨.int i,H,I.tok _,⟨_,rfl⟩,h⟩
theorem ip {b j pos}:PE X (.Constant (.bool b) j pos) (tC (.bl b)):=λ_ _ _ H _ I h=>Constant_bool ⟨.bl b,H,I,rfl,h⟩
theorem h8 {j pos}:PE X (.Constant .none j pos) (tC .non):=λ_ _ _ H _ I h=>Constant_none ⟨.non,H,I,rfl,h⟩
theorem fg {x j pos}:PE X (.Constant (.str x) j pos) (tC (.str x)):=λ_ _ _ H _ I h=>Calls.Constant_str ⟨.str x,H,I.tok _,⟨_,rfl⟩,h⟩
def Gl (X:Cx) (x:Str):Prop:=X.env.kindOf x=some .globalImplicit
theorem qf {E:Value->Shared->Prop}{pins:List (Addr × Obj)}{s:Shared}{σ:St}{H:Hp}{x:Str}{u:Value}{pos:Pos}{Q:Value->Shared->Prop}(I:Inv X pins σ H s)(J:Gl X x)(U:X.mg x=some u)(h:Q u s)
 (Y:(x == ("__debug__":Str))=false:=by decide):wpAny (model X.prog X.w) X.A (eval (.Name x pos) X.env) Q E s:=
 Calls.Name_function_global I.ok.kind J (Calls.loadGlobal_global (by rw[I.ok.glob];exact I.mod.glob.keeps I.bk) U h) Y
theorem l_ {E:Value->Shared->Prop}{pins:List (Addr × Obj)}{s:Shared}{σ:St}{H:Hp}{x:Str}{u:Value}{pos:Pos}{Q:Value->Shared->Prop}(I:Inv X pins σ H s)(J:Gl X x)(U:X.mg x=none)(Y:bootBuiltins x=some u)(h:Q u s)
 (hn:x≠"__name__":=by decide) (hd:(x == ("__debug__":Str))=false:=by decide):wpAny (model X.prog X.w) X.A (eval (.Name x pos) X.env) Q E s:=by
 obtain⟨mb,h1,h2⟩:=I.mod.blt;exact Calls.Name_function_global I.ok.kind J (Calls.loadGlobal_builtin (by rw[I.ok.glob];exact I.mod.glob.keeps I.bk) U (by rw[I.ok.blt];exact h1.keeps I.bk) ((h2 x hn).trans Y) h) hd
theorem iq {x:Str}{v:V}{u:Value}{pos:Pos}(J:Gl X x)(U:X.mg x=none)(Y:bootBuiltins x=some u)(r:RelV v u)(hn:x≠"__name__":=by decide)(hd:(x == ("__debug__":Str))=false:=by decide):PE X (.Name x pos) (tC v):=
 λ_ _ _ H _ I h=>l_ I J U Y ⟨v,H,I,r,h⟩ hn hd
variable {a b:Expr}{ta tb:TE}{pos:Pos}
def PC (X:Cx) (op:CmpOp) (a b:Expr) (t:TE):Prop:=
 ∀(pins:List (Addr × Obj)) (s:Shared) (σ:St) (H:Hp) (Q:VK),Inv X pins σ H s->t σ H Q->
  wpAny (model X.prog X.w) X.A (eval a X.env) (λv I=>wpAny (model X.prog X.w) X.A (eval b X.env) (λu J=>wpAny (model X.prog X.w) X.A (compareOp op v u) (EP X pins σ Q) X.xe J) X.xe I) X.xe s
def tB (t:TE):TT:=λσ H Q=>t σ H λx H1=>∃c,x=.bl c/\Q c H1
theorem EB {op:CmpOp}{t:TE}(h:PC X op a b t)(h1:behindInMarks op b=false:=by first|exact J _ (by decide) (by decide)|rfl):PE X (.Compare a [op] [b] pos) t:=λpins s σ H Q I hw=>wpAny_Compare1 (h pins s σ H Q I hw) h1
theorem qg {op:CmpOp}{t:TE}(h:PC X op a b t)(h1:behindInMarks op b=false:=by first|exact J _ (by decide) (by decide)|rfl):PT X (.Compare a [op] [b] pos) (tB t):=by
 intro pins s σ H Q I hw;refine wpAny_isTrue_Compare1 (e_ (h pins s σ H _ I hw) λv s1 h1=>e_ h1 λu s2 h2=>e_ h2 λc s3 zq=>?_) h1;obtain⟨x,H1,U,Y,q1⟩:=zq;obtain⟨d,rfl,q⟩:=q1
 cases Y;exact wpAny_truthy_bool ⟨H1,U,q⟩
theorem gN {e:Expr}{t:TE}(h:PE X e t)(U:∀J,isTrue e X.env J=(do let v <-J;standAt e.pos;holding [v] (truthy v)):=by intro _;rfl):PT X e (tB t):=by
 intro pins s σ H Q I hw;refine isTrue_plain (e_ (h pins s σ H _ I hw) λv s1 zq=>?_) (U _);obtain⟨x,H1,Y,r1,q1⟩:=zq;obtain⟨d,rfl,q⟩:=q1
 cases r1;exact wpAny_truthy_bool ⟨H1,Y,q⟩
variable {tA qh:TT}{rest:List Expr}
def zy (t u:TT):TT:=λσ H Q=>t σ H λc H1=>if c=true then u σ H1 Q else Q false H1
def EC (t u:TT):TT:=λσ H Q=>t σ H λc H1=>if c=true then Q true H1 else u σ H1 Q
def qi (t:TT):TT:=λσ H Q=>t σ H λc H1=>Q (!c) H1
theorem nq (J:PT X a tA):PW X (.BoolOp .And [a] pos) tA:=by
 intro U pins s σ H Q I h;refine isTrue_and (e_ (J pins s σ H Q I h) λc Y e=>?_)
 cases c with
 |true=>exact isTrue_and_nil e
 |false=>exact e
theorem ib (J:PT X a tA):PW X (.BoolOp .Or [a] pos) tA:=by
 intro U pins s σ H Q I h;refine isTrue_or (e_ (J pins s σ H Q I h) λc Y e=>?_)
 cases c with
 |false=>exact isTrue_or_nil e
 |true=>exact e
theorem ma (Y:PT X a tA)(hb:PW X (.BoolOp .And (b::rest) pos) qh):PW X (.BoolOp .And (a::b::rest) pos) (zy tA qh):=by
 intro wh pins s σ H Q I h;refine isTrue_and (e_ (Y pins s σ H _ I h) λc s1 ⟨H1,J,U⟩=>?_)
 cases c with
 |true=>exact hb wh pins s1 σ H1 Q J U
 |false=>exact⟨H1,J,U⟩
theorem ic (Y:PT X a tA)(hb:PW X (.BoolOp .Or (b::rest) pos) qh):PW X (.BoolOp .Or (a::b::rest) pos) (EC tA qh):=by
 intro wh pins s σ H Q I h;refine isTrue_or (e_ (Y pins s σ H _ I h) λc s1 ⟨H1,J,U⟩=>?_)
 cases c with
 |true=>exact⟨H1,J,U⟩
 |false=>exact hb wh pins s1 σ H1 Q J U
theorem hU (J:PT X a tA):PT X (.UnaryOp .Not a pos) (qi tA):=by
 intro pins s σ H Q I h;exact isTrue_not (J pins s σ H (λc H1=>Q (!c) H1) I h)
def zA (ta tb:TE):TE:=λσ H Q=>ta σ H λx H1=>∃c,x=.bl c/\if c=true then tb σ H1 Q else Q (.bl false) H1
def ED (ta tb:TE):TE:=λσ H Q=>ta σ H λx H1=>∃c,x=.bl c/\if c=true then Q (.bl true) H1 else tb σ H1 Q
def zB (ta:TE):TE:=λσ H Q=>ta σ H λx H1=>∃c,x=.bl c/\Q (.bl (!c)) H1
theorem ku {op}{t:TE}(h:PE X a t):PE X (.BoolOp op [a] pos) t:=λpins s σ H Q I hw=>BoolOp_one (h pins s σ H Q I hw)
theorem lB (Y:PE X a ta)(hb:PE X (.BoolOp .And (b::rest) pos) tb):PE X (.BoolOp .And (a::b::rest) pos) (zA ta tb):=by
 intro pins s σ H Q I h;refine BoolOp_and (e_ (Y pins s σ H _ I h) λv s1 zq=>?_);obtain⟨x,H1,U,r1,J⟩:=zq;obtain⟨c,rfl,J⟩:=J
 cases r1;refine wpAny_truthy_bool ?_
 cases c with
 |true=>exact hb pins s1 σ H1 Q U J
 |false=>exact⟨.bl false,H1,U,rfl,J⟩
theorem zC (Y:PE X a ta)(hb:PE X (.BoolOp .Or (b::rest) pos) tb):PE X (.BoolOp .Or (a::b::rest) pos) (ED ta tb):=by
 intro pins s σ H Q I h;refine BoolOp_or (e_ (Y pins s σ H _ I h) λv s1 zq=>?_);obtain⟨x,H1,U,r1,J⟩:=zq;obtain⟨c,rfl,J⟩:=J
 cases r1;refine wpAny_truthy_bool ?_
 cases c with
 |false=>exact hb pins s1 σ H1 Q U J
 |true=>exact⟨.bl true,H1,U,rfl,J⟩
theorem qj (U:PE X a ta):PE X (.UnaryOp .Not a pos) (zB ta):=by
 intro pins s σ H Q I h;refine UnaryOp_ (e_ (U pins s σ H _ I h) λv s1 zq=>?_);obtain⟨x,H1,Y,r1,J⟩:=zq;obtain⟨c,rfl,J⟩:=J
 cases r1;exact not_of (wpAny_truthy_bool ⟨.bl (!c),H1,Y,rfl,J⟩)
def EE (t:TT) (ta tb:TE):TE:=λσ H Q=>t σ H λc H1=>if c=true then ta σ H1 Q else tb σ H1 Q
theorem sL {c:Expr}(hc:PT X c tA)(ha:PE X a ta)(hb:PE X b tb):PE X (.IfExp c a b pos) (EE tA ta tb):=by
 intro pins s σ H Q I h;refine wpAny_IfExp (e_ (hc pins s σ H _ I h) λd J ⟨H1,U,Y⟩=>?_)
 cases d with
 |true=>exact ha pins J σ H1 Q U Y
 |false=>exact hb pins J σ H1 Q U Y
end
def eA (K:W.Frag) (H:Hp) (a:Addr) (xs:List V):Prop:=
 Rd H a (.lst xs)\/
  ∃(o:Obj) (I:Array Value) (n:Nat),K.lookup a=some o/\o.cls=.type "list"/\o.dict=none/\o.data=.seq I n/\I.size<=sizeLine/\Vals xs I.toList
def d_ (K:W.Frag) (H:Hp) (a:Addr) (xs:List V):Prop:=
 Rd H a (.tup xs)\/
  ∃(o:Obj) (I:Array Value) (n:Nat),K.lookup a=some o/\o.cls=.type "tuple"/\o.data=.seq I n/\I.size<=sizeLine/\Vals xs I.toList
noncomputable def EF:Value->Option V
 | .none=>some .non
 | .bool b=>some (.bl b)
 | .int i _=>some (.int i)
 | .str x _=>some (.str x)
 | .bytes b _=>some (.ju b)
 | .float b _=>some (.flt b)
 | .ref a=>some (.ref a)
 | .type n=>some (.ty n)
 |_=>none
theorem RelV.abs {x:V}{u:Value}(r:RelV x u):EF u=some x:=by
 cases x with
 |non=>cases r;rfl
 |bl _=>cases r;rfl
 |int _=>obtain⟨t,rfl⟩:=r;rfl
 |str _=>obtain⟨t,rfl⟩:=r;rfl
 |ju _=>obtain⟨t,rfl⟩:=r;rfl
 |flt _=>obtain⟨t,rfl⟩:=r;rfl
 |ref _=>cases r;rfl
 |ty _=>cases r;rfl
theorem RelV.inj {x y:V}{u:Value}(r:RelV x u)(q:RelV y u):x=y:=Option.some.inj (r.abs.symm.trans q.abs)
theorem Vals.inj:∀{xs ys:List V}{us:List Value},Vals xs us->Vals ys us->xs=ys
 |_,_,_,.nil,.nil=>rfl
 |_,_,_,.cons r t,.cons I t'=>by rw[r.inj I,Vals.inj t t']
section
variable {X:Cx}{pins:List (Addr × Obj)}{σ:St}{H:Hp}{s:Shared}{a:Addr}{xs ys:List V}
theorem eA.of {K:W.Frag}(h:H a=some (.lst xs)):eA K H a xs:=.inl (.inl h)
theorem d_.of {K:W.Frag}(h:H a=some (.tup xs)):d_ K H a xs:=.inl (.inl h)
theorem Inv.list (I:Inv X pins σ H s)(h:eA X.K H a xs):∃J:List Value,Vals xs J/\PlainL s.heap a J.toArray/\xs.length<=sizeLine:=by
 rcases h with h|⟨o,J,n,U,hc,Y,hs,hz,r⟩
 . obtain⟨z,J,n,r,e⟩:=h.ok I.hok;exact⟨J,r,⟨_,n,e,rfl,rfl,rfl⟩,z⟩
 . refine⟨J.toList,r,⟨o,n,I.gG a o U,hc,Y,by simpa using hs⟩,?_⟩;have e:=r.length;simp only[Q1q] at e;omega
theorem Inv.tuple (I:Inv X pins σ H s)(h:d_ X.K H a xs):∃J:List Value,Vals xs J/\IsTup s.heap a J.toArray/\xs.length<=sizeLine:=by
 rcases h with h|⟨o,J,n,U,hc,Y,hz,r⟩
 . obtain⟨z,J,r,p⟩:=h.ok I.hok;exact⟨J,r,p,z⟩
 . refine⟨J.toList,r,⟨o,I.gG a o U,hc,n,by simpa using Y⟩,?_⟩;have e:=r.length;simp only[Q1q] at e;omega
theorem Inv.qm (I:Inv X pins σ H s)(h:eA X.K H a xs)(h':eA X.K H a ys):xs=ys:=by
 obtain⟨J,r,⟨o,n,e,_,_,d⟩,_⟩:=I.list h;obtain⟨its',Y,⟨o',n',U,_,_,d'⟩,_⟩:=I.list h';rw[e] at U;cases U;rw[d] at d';injection d' with d1 _
 have:J=its':=by simpa using congrArg Array.toList d1
 subst this;exact r.inj Y
theorem Inv.EG (I:Inv X pins σ H s)(h:d_ X.K H a xs)(h':d_ X.K H a ys):xs=ys:=by
 obtain⟨J,r,⟨o,e,_,n,d⟩,_⟩:=I.tuple h;obtain⟨its',Y,⟨o',U,_,n',d'⟩,_⟩:=I.tuple h';rw[e] at U;cases U;rw[d] at d';injection d' with d1 _
 have:J=its':=by simpa using congrArg Array.toList d1
 subst this;exact r.inj Y
end
noncomputable abbrev Cx.wish (X:Cx) (E:Value->Shared->Prop):Cx:={ X with xe:=E }
noncomputable abbrev Cx.fB (X:Cx):Cx:=X.wish λ_ _=>False
theorem Cx.Ok.wish {X:Cx}(ok:X.Ok)(E:Value->Shared->Prop):(X.wish E).Ok:=
 ⟨ok.mod,ok.kind,ok.glob,ok.blt,ok.above,ok.inj,ok.has,ok.cab,ok.hd,ok.frames,ok.stk,ok.oK,ok.bs,ok.jh,ok.lA,ok.l8,ok.iN,ok.j1⟩
theorem Cx.Ok.jM {X:Cx}{E:Value->Shared->Prop}(ok:(X.wish E).Ok):X.Ok:=
 ⟨ok.mod,ok.kind,ok.glob,ok.blt,ok.above,ok.inj,ok.has,ok.cab,ok.hd,ok.frames,ok.stk,ok.oK,ok.bs,ok.jh,ok.lA,ok.l8,ok.iN,ok.j1⟩
section
variable {X:Cx}{pins:List (Addr × Obj)}{σ:St}{H:Hp}{s:Shared}{E:Value->Shared->Prop}
theorem Inv.wish (I:Inv X pins σ H s)(E:Value->Shared->Prop):Inv (X.wish E) pins σ H s:=⟨I.ok.wish E,I.os,I.bare,I.base,I.loc,I.cell,I.free,I.iC,I.pin,I.hok,I.len⟩
theorem Inv.jM (I:Inv (X.wish E) pins σ H s):Inv X pins σ H s:=⟨I.ok.jM,I.os,I.bare,I.base,I.loc,I.cell,I.free,I.iC,I.pin,I.hok,I.len⟩
theorem SP.jM {D:Ends}{f:Flow}{s':Shared}(h:SP (X.wish E) pins D f s'):SP X pins D f s':=by
 cases f with
 |next=>obtain⟨J,H',I,q⟩:=h;exact⟨J,H',I.jM,q⟩
 |brk=>obtain⟨J,H',I,q⟩:=h;exact⟨J,H',I.jM,q⟩
 |cont=>obtain⟨J,H',I,q⟩:=h;exact⟨J,H',I.jM,q⟩
 |ret u=>obtain⟨v,J,H',I,r,q⟩:=h;exact⟨v,J,H',I.jM,r,q⟩
theorem iD.fB {st:List Stmt}{t:TS}(h:iD X.fB st t):iD X st t:=λpins s σ H D I hw=>
 Q0n (h pins s σ H D (I.wish _) hw) (λ_ _ q=>q.jM) λ_ _ z=>False.elim z
end
section
variable {X:Cx}{st:Stmt}{rest:List Stmt}{t u:TS}{e:Expr}{te:TE}{pos:Pos}
def EH:TS:=λD σ H=>D.nx σ H
def qo (t u:TS):TS:=λD σ H=>t { D with nx:=u D } σ H
theorem eS:iD X [] EH:=λ_ _ σ H _ I h=>wpAny_execs_nil ⟨σ,H,I,h⟩
theorem en (h1:PS X st t)(h2:iD X rest u):iD X (st::rest) (qo t u):=by
 intro pins s σ H D I h;refine wpAny_execs_cons (e_ (h1 pins s σ H { D with nx:=u D } I h) λf U q=>?_)
 cases f with
 |next=>
  obtain⟨J,H',Y,q⟩:=q;exact h2 pins U J H' D Y q
 |ret v=>exact q
 |brk=>exact q
 |cont=>exact q
theorem eG (h1:PS X st t):iD X [st] t:=by
 intro pins s σ H D I h;refine wpAny_execs_cons (e_ (h1 pins s σ H D I h) λf J q=>?_)
 cases f with
 |next=>exact wpAny_execs_nil q
 |ret v=>exact q
 |brk=>exact q
 |cont=>exact q
theorem Inv.quiet {pins:List (Addr × Obj)}{σ:St}{H:Hp}{s:Shared}(I:Inv X pins σ H s):interactive X.env=false:=by simp[interactive,I.ok.kind]
def EI (te:TE):TS:=λD σ H=>te σ H λ_ H1=>D.nx σ H1
theorem kx (J:PE X e te)(U:swapsWith e none pos.line X.env=pure false:=by rfl):PS X (.Expr e pos) (EI te):=by
 intro pins s σ H D I h;exact wpAny_Expr_any (e_ (J pins s σ H _ I h) λv s1 ⟨x,H1,Y,r1,q1⟩=>⟨σ,H1,Y,q1⟩) I.quiet U
def sM (te:TE):TS:=λD σ H=>te σ H D.rt
theorem eJ (J:PE X e te):PS X (.Return (some e) pos) (sM te):=by
 intro pins s σ H D I h;exact wpAny_Return_some (e_ (J pins s σ H _ I h) λv s1 ⟨x,H1,U,Y,q1⟩=>⟨x,σ,H1,U,Y,q1⟩)
def ky (c:TT) (t u:TS):TS:=λD σ H=>c σ H λb H1=>if b=true then t D σ H1 else u D σ H1
theorem eR {c:Expr}{a b:List Stmt}{tc:TT}(hc:PT X c tc)(ha:iD X a t)(hb:iD X b u):PS X (.If c a b pos) (ky tc t u):=by
 intro pins s σ H D I h;refine wpAny_If (e_ (hc pins s σ H _ I h) λd J ⟨H1,U,Y⟩=>?_)
 cases d with
 |true=>exact ha pins J σ H1 D U Y
 |false=>exact hb pins J σ H1 D U Y
def EJ:TS:=λ_ _ _=>False
theorem EK {I:List Stmt}:iD X I EJ:=λ_ _ _ _ _ _ h=>h.elim
end
noncomputable abbrev TG:=V->St->Hp->(St->Hp->Prop)->Prop
noncomputable abbrev md:=List V->St->Hp->(St->Hp->Prop)->Prop
def PG (X:Cx) (I:Expr) (t:TG):Prop:=
 ∀(pins:List (Addr × Obj)) (s:Shared) (σ:St) (H:Hp) (v:V) (u:Value) (Q:St->Hp->Prop),Inv X pins σ H s->RelV v u->t v σ H Q->
  wpAny (model X.prog X.w) X.A (assign I X.env u) (λ_ s'=>∃J H',Inv X pins J H' s'/\Q J H') X.xe s
def qp (X:Cx) (ts:List Expr) (t:md):Prop:=
 ∀(pins:List (Addr × Obj)) (s:Shared) (σ:St) (H:Hp) (vs:List V) (us:List Value) (Q:St->Hp->Prop),Inv X pins σ H s->Vals vs us->t vs σ H Q->
  wpAny (model X.prog X.w) X.A (assignInOrder ((assignEach ts X.env).map (·.2)) us) (λ_ s'=>∃I H',Inv X pins I H' s'/\Q I H') X.xe s
noncomputable abbrev sN:=V->V->V->Hp->(Hp->Prop)->Prop
def zD (X:Cx) (t:sN):Prop:=
 ∀(pins:List (Addr × Obj)) (s:Shared) (σ:St) (H:Hp) (o i v:V) (I J u:Value) (Q:Hp->Prop),Inv X pins σ H s->RelV o I->RelV i J->RelV v u->t o i v H Q->
  wpAny (model X.prog X.w) X.A (setItem I J u) (λ_ s'=>∃H',Inv X pins σ H' s'/\Q H') X.xe s
section
variable {X:Cx}{pos:Pos}
def gX (i:Nat):TG:=λv σ H Q=>Q (σ.set i (some v)) H
theorem fQ {i:Nat}{x:Str}(J:X.N.Nodup)(hi:X.N[i]? =some x)(U:Loc X.env.scope x)(Y:X.fn x=true\/X.env.scope.names.lookup x=some .local:=by first|exact .inl rfl|exact .inr rfl|assumption):PG X (.Name x pos) (gX i):=by
 intro pins s σ H v u Q I r h;exact wpAny_assign_Name (oN I J hi U r (λs' I'=>⟨_,H,I',h⟩) Y)
def oO:md:=λvs σ H Q=>vs=[]/\Q σ H
def kz (t:TG) (u:md):md:=λvs σ H Q=>∃v r,vs=v::r/\t v σ H λI H'=>u r I H' Q
theorem i6:qp X [] oO:=by
 intro pins s σ H vs us Q I r h;obtain⟨e,h⟩:=h;subst e
 cases r;exact assignInOrder_nil ⟨σ,H,I,h⟩
theorem gQ {e:Expr}{es:List Expr}{t:TG}{u:md}(h1:PG X e t)(h2:qp X es u)
 (U:(assignEach (e::es) X.env).map (·.2)=assign e X.env::(assignEach es X.env).map (·.2):=by rfl):qp X (e::es) (kz t u):=by
 intro pins s σ H vs us Q I r h;obtain⟨v,vr,Y,h⟩:=h;subst Y
 cases r with
 |cons r rr=>
  rw[U];refine assignInOrder_cons (e_ (h1 pins s σ H _ _ _ I r h) λ_ s1 zq=>?_);obtain⟨J,H1,I1,q1⟩:=zq;exact h2 pins s1 J H1 _ _ Q I1 rr q1
def oP (K:W.Frag) (n:Nat) (t:md):TG:=λv σ H Q=>∃a xs,v=.ref a/\d_ K H a xs/\xs.length=n/\t xs σ H Q
theorem i7 {es:List Expr}{k:Nat}{t:md}{n:Nat}(hc:X.calm=true)(h:qp X es t)
 (Y:(assignEach es X.env).length=n:=by rfl) (J:(assignEach es X.env).findIdx? (·.1)=none:=by rfl):PG X (.Tuple es k pos) (oP X.K n t):=by
 intro pins s σ H v u Q I r hw;obtain⟨a,xs,e1,hq,hl,hw⟩:=hw;subst e1
 cases r;obtain⟨aa,U,ht,hz⟩:=I.tuple hq;refine assign_Tuple_tuple (I.ok.hd hc) ht (by simp[Y,<-hl,U.length]) J λh' hx=>?_;have I1:Inv X pins σ H { s with heap:=h' }:=I.kept (t':=s.toks) λb o e=>hx b o (Q0a (Q01 e)) e;exact h pins _ σ H xs _ Q I1 (by simpa using U) hw
def EL (to I:TE) (t:sN):TG:=λv σ H Q=>to σ H λo H1=>I σ H1 λi H2=>t o i v H2 λJ=>Q σ J
theorem EM {o i:Expr}{to Y:TE}{t:sN}(ho:PE X o to)(hi:PE X i Y)(hs:zD X t)
 (ha:∀v,assign (.Subscript o i pos) X.env v=(do
   let J <-holding [v] (eval o X.env);let U <-holding [v,J] (eval i X.env)
   standAt pos
   holding [v,J,U] (setItem J U v)
   release [v,J,U] []):=by intro _;rfl):PG X (.Subscript o i pos) (EL to Y t):=by
 intro pins s σ H v u Q I r h;rw[ha];refine Q0 (wpAny_holding (e_ (ho pins s σ H _ I h) λJ s1 zq=>?_));obtain⟨x,H1,I1,r1,q1⟩:=zq;refine Q0 (wpAny_holding (e_ (hi pins s1 σ H1 _ I1 q1) λU s2 zq=>?_));obtain⟨y,H2,I2,r2,q2⟩:=zq;refine Q0 (wpAny_standAt (Q0 (wpAny_holding (e_ (hs pins s2 σ H2 x y v J U u _ I2 r1 r2 r q2) λ_ s3 ⟨H3,I3,q3⟩=>?_))));exact wpAny_release ⟨σ,H3,I3,q3⟩
def nr (te:TE) (g:TG):TS:=λD σ H=>te σ H λx H1=>g x σ H1 D.nx
theorem qr {tg e:Expr}{te:TE}{g:TG}(J:PE X e te)(U:PG X tg g)(Y:swapsWithSole [tg] e pos.line X.env=pure false:=by rfl)(hw:swappedStores [tg] e X.env=pure none:=by rfl)
 (h1:(assignEach [tg] X.env).map (·.2)=[assign tg X.env]:=by rfl):PS X (.Assign [tg] e pos) (nr te g):=by
 intro pins s σ H D I h;refine wpAny_Assign_stores (e_ (J pins s σ H _ I h) λv s1 zq=>?_) Y hw;obtain⟨x,H1,I1,r1,q1⟩:=zq;rw[h1];exact e_ (U pins s1 σ H1 x v _ I1 r1 q1) λ_ s2 q=>q
theorem zE {i:Nat}{x:Str}{e:Expr}{te:TE}{pos':Pos}(J:X.N.Nodup)(hi:X.N[i]? =some x)(U:Loc X.env.scope x)(Y:PE X e te)(hs:swapsWith e (some (.Name x pos')) pos.line X.env=pure false:=by rfl)(hf:X.fn x=true\/X.env.scope.names.lookup x=some .local:=by first|exact .inl rfl|exact .inr rfl|assumption):
 PS X (.Assign [.Name x pos'] e pos) (nr te (gX i)):=by
 intro pins s σ H D I h;refine wpAny_Assign_Name (e_ (Y pins s σ H _ I h) λv s1 zq=>?_) hs;obtain⟨y,H1,I1,r1,q1⟩:=zq;exact oN I1 J hi U r1 (λs2 I2=>⟨_,H1,I2,q1⟩) hf
end
section
variable {X:Cx}{pos:Pos}
end
structure It where
 go:Nat->Hp->Prop
 jN:Nat->Hp->V->Hp->Prop
 stop:Nat->Hp->Prop
def ir (X:Cx) (pins:List (Addr × Obj)) (H:Hp) (b:Addr):Prop:=
 H b=none/\b≠X.env.locals/\b ∉ X.fs/\(b∈X.ex\/X.s₀.heap.objs.size<=b)/\(∀x c,X.env.cells.lookup x=some c->c≠b)/\∀p∈X.pn++pins,p.1≠b
theorem Inv.mf {X:Cx}{pins:List (Addr × Obj)}{σ:St}{H H':Hp}{s:Shared}{b:Addr}(I:Inv X pins σ H s)(J:s.heap.objs.size<=b)(U:H' b=none):ir X pins H' b:=by
 refine⟨U,Q0t (Q09 I.lt J),I.ni J,.inr (Q0e I.sz J),λx c e z=>?_,λp hp z=>?_⟩
 . obtain⟨v,q⟩:=I.cell x c e;exact absurd (Q09 q.lt (by rw[z];exact J)) (Q0m _)
 . exact absurd (Q09 (Q01 (I.pin p hp).1) (by rw[z];exact J)) (Q0m _)
structure Turn (P:Program) (w:World) (K:W.Frag) (tg:Expr) (J:It) (fp:List Addr) (it:Addr) (tn:Nat->Heap->Prop):Prop where
 mem:it∈fp
 obj:∀i h,tn i h->∀b∈fp,∃o,h.get? b=some o/\∀v,o.data≠ .cell v
 keep:∀i h h',tn i h->(∀b∈fp,∀o,h.get? b=some o->h'.get? b=some o)->tn i h'
 item:∀(X:Cx),X.prog=P->X.w=w->X.K=K->X.calm=true->∀(i:Nat) (pins:List (Addr × Obj)) (s:Shared) (σ:St) (H:Hp) (E:Value->Shared->Prop),Inv X pins σ H s->(∀b∈fp,ir X pins H b)->tn i s.heap->J.go i H->
  wpAny (model P w) X.A (pyNext (.ref it)) (λr s1=>∃u,r=some u/\
   wpAny (model P w) X.A (letOwnedTupleGo tg (.ref it) u) (λ_ s2=>∃x H',Inv X pins σ H' s2/\RelV x u/\J.jN i H x H'/\tn (i+1) s2.heap/\∀b∈fp,H' b=none) E s1) E s
 done:∀(X:Cx),X.prog=P->X.w=w->X.K=K->X.calm=true->∀(i:Nat) (pins:List (Addr × Obj)) (s:Shared) (σ:St) (H:Hp) (E:Value->Shared->Prop),Inv X pins σ H s->(∀b∈fp,ir X pins H b)->tn i s.heap->J.stop i H->
  wpAny (model P w) X.A (pyNext (.ref it)) (λr s1=>r=none/\Inv X pins σ H s1) E s
 self:∀(A:Around) (i:Nat) (s:Shared) (Q:Value->Shared->Prop) (E:Value->Shared->Prop),tn i s.heap->Q (.ref it) s->wpAny (model P w) A (pyIter (.ref it)) Q E s
noncomputable abbrev TI:=St->Hp->(It->Hp->Prop)->Prop
def PIE (X:Cx) (pins:List (Addr × Obj)) (σ:St) (tg:Expr) (R:It->Hp->Prop) (I:Value) (U:Shared):Prop:=
 ∃(it:Addr) (fp:List Addr) (Y:Nat->Heap->Prop) (J:It) (H':Hp),I=.ref it/\Inv X pins σ H' U/\Turn X.prog X.w X.K tg J fp it Y/\Y 0 U.heap/\(∀b∈fp,ir X pins H' b)/\R J H'
def PI (X:Cx) (tg iter:Expr) (I:TI):Prop:=
 ∀(pins:List (Addr × Obj)) (s:Shared) (σ:St) (H:Hp) (R:It->Hp->Prop),Inv X pins σ H s->I σ H R->
  wpAny (model X.prog X.w) X.A (eval iter X.env) (λv J=>wpAny (model X.prog X.w) X.A (pyIter v) (PIE X pins σ tg R) X.xe J) X.xe s
theorem sO {M:Model}{A:Around}{E:Value->Shared->Prop}{s:Shared}{tg:Expr}{it:Addr}{u:Value}{o:Obj}{n:String}{vs:Array Value}{Q:Unit->Shared->Prop}(J:s.heap.get? it=some o)(hc:o.cls=.type n)(U:o.data=.fields vs)
 (Y:["enumerate","zip","dict_itemiterator","dict_reverseitemiterator","odict_iterator","itertools.zip_longest","itertools.pairwise"].contains n=false) (I:Q () s):wpAny M A (letOwnedTupleGo tg (.ref it) u) Q E s:=by
 unfold letOwnedTupleGo
 cases tg <;> first
  |exact Q0c I
  |(cases u <;> first
     |exact Q0c I
     |(refine Q0 (wpAny_load J ?_)
       rw[hc,U];show wpAny M A (if(["enumerate","zip","dict_itemiterator","dict_reverseitemiterator","odict_iterator","itertools.zip_longest","itertools.pairwise"].contains n && vs[0]? == some (rawInt _))=true then _ else _) Q E s;rw[if_neg (by intro h;rw[Y,Bool.false_and] at h;cases h)];exact Q0c I))
noncomputable def nt (K:W.Frag) (a:Addr):It:=
 ⟨λi H=>∃xs x,eA K H a xs/\xs[i]? =some x,λi H x H'=>H'=H/\∀xs,eA K H a xs->xs[i]? =some x,λi H=>∃xs,eA K H a xs/\xs.length<=i⟩
noncomputable def nu (K:W.Frag) (a:Addr):It:=
 ⟨λi H=>∃xs x,d_ K H a xs/\xs[i]? =some x,λi H x H'=>H'=H/\∀xs,d_ K H a xs->xs[i]? =some x,λi H=>∃xs,d_ K H a xs/\xs.length<=i⟩
noncomputable def ny (lo:Int) (n:Nat):It:=⟨λi _=>i<n,λi H x H'=>H'=H/\x=.int (lo+i),λi _=>n<=i⟩
theorem EN {P:Program}{w:World}{K:W.Frag}{tg:Expr}(a it:Addr):Turn P w K tg (nt K a) [it] it (λi h=>h.IsListIter it a i) where
 mem:=by simp
 obj:=λi h st b J=>by
  have e:b=it:=by simpa using J
  subst e;obtain⟨o,e,c,d⟩:=st;exact⟨o,e,λv z=>by rw[d] at z;cases z⟩
 keep:=λi h h' st k=>st.at λo e=>k it (by simp) o e
 item:=by
  intro X hP hw hK hc i pins s σ H E I Y st hg;subst hP hw hK;obtain⟨xs,x,hq,hx⟩:=hg;obtain⟨aa,rv,p,hz⟩:=I.list hq;obtain⟨u,hu,ru⟩:=rv.get hx;obtain⟨f0,f1,f2,f3,f4,f5⟩:=Y it (by simp);refine wpAny_pyNext_list_item st p.isList (x:=u) (by simpa using hu) λh' U sb=>?_;have I1:Inv X pins σ H { s with heap:=h' }:=I.turned (t':=s.toks) (λb o J e=>(sb.2 b J).trans e) f0 f1 f3 f4 f5;obtain⟨o,e,c,d⟩:=id U;exact⟨u,rfl,sO (s:={ s with heap:=h' }) e c d (by decide) ⟨x,H,I1,ru,⟨rfl,λys hy=>by rw[I.qm hy hq];exact hx⟩,U,λb J=>(Y b J).1⟩⟩
 done:=by
  intro X hP hw hK hc i pins s σ H E I Y st hg;subst hP hw hK;obtain⟨xs,hq,hx⟩:=hg;obtain⟨aa,rv,p,hz⟩:=I.list hq;obtain⟨f0,f1,f2,f3,f4,f5⟩:=Y it (by simp);have hl:=rv.length;exact wpAny_pyNext_list_end (I.ok.hd hc) st p.isList (by simp;omega) λh' eb=>⟨rfl,I.turned (t':=s.toks) (λb o J e=>eb b o J e) f0 f1 f3 f4 f5⟩
 self:=λ_ _ _ _ _ st h=>wpAny_pyIter_listiter st h
theorem EO {P:Program}{w:World}{K:W.Frag}{tg:Expr}(a it:Addr):Turn P w K tg (nu K a) [it] it (λi h=>h.IsTupleIter it a i) where
 mem:=by simp
 obj:=λi h st b J=>by
  have e:b=it:=by simpa using J
  subst e;obtain⟨o,e,c,d⟩:=st;exact⟨o,e,λv z=>by rw[d] at z;cases z⟩
 keep:=λi h h' st k=>st.at λo e=>k it (by simp) o e
 item:=by
  intro X hP hw hK hc i pins s σ H E I hf st hg;subst hP hw hK;obtain⟨xs,x,hq,hx⟩:=hg;obtain⟨U,rv,p,hz⟩:=I.tuple hq;obtain⟨u,hu,ru⟩:=rv.get hx;obtain⟨f0,f1,f2,f3,f4,f5⟩:=hf it (by simp);refine wpAny_pyNext_tuple_item st (show s.heap.IsTuple a U.toArray from p) (x:=u) (by simpa using hu) λh' Y sb=>?_;have I1:Inv X pins σ H { s with heap:=h' }:=I.turned (t':=s.toks) (λb o J e=>(sb.2 b J).trans e) f0 f1 f3 f4 f5;obtain⟨o,e,c,d⟩:=id Y;exact⟨u,rfl,sO (s:={ s with heap:=h' }) e c d (by decide) ⟨x,H,I1,ru,⟨rfl,λys hy=>by rw[I.EG hy hq];exact hx⟩,Y,λb J=>(hf b J).1⟩⟩
 done:=by
  intro X hP hw hK hc i pins s σ H E I hf st hg;subst hP hw hK;obtain⟨xs,hq,hx⟩:=hg;obtain⟨U,rv,p,hz⟩:=I.tuple hq;obtain⟨f0,f1,f2,f3,f4,f5⟩:=hf it (by simp);have hl:=rv.length;exact wpAny_pyNext_tuple_end (I.ok.hd hc) st (show s.heap.IsTuple a U.toArray from p) (by simp;omega) λh' eb=>⟨rfl,I.turned (t':=s.toks) (λb o J e=>eb b o J e) f0 f1 f3 f4 f5⟩
 self:=λ_ _ _ _ _ st h=>wpAny_pyIter_tupleiter st h
theorem ER {P:Program}{w:World}{K:PySem.W.Frag}{tg:Expr}(it:Addr)(lo:Int)(n:Nat):Turn P w K tg (ny lo n) [it] it (λi h=>IsRangeIter h it (lo+(i:Nat) * 1) ((n:Int) - (i:Nat)) 1) where
 mem:=by simp
 obj:=λi h st b J=>by
  have e:b=it:=by simpa using J
  subst e
  exact⟨_,st,λv z=>by
   have z':Data.fields _=Data.cell v:=z
   cases z'⟩
 keep:=λi h h' st k=>k it (by simp) _ st
 item:=by
  intro X hP hw hK hc i pins s σ H E I Y st hg;subst hP hw hK;obtain⟨f0,f1,f2,f3,f4,f5⟩:=Y it (by simp);have W:=Walks.range (prog:=X.prog) (w:=X.w) (I.ok.hd hc) it lo 1 n;refine W.item i s _ _ hg st λv h' tk hv U kk=>?_;obtain⟨t,rfl⟩:=hv;have I1:Inv X pins σ H { s with heap:=h',toks:=tk }:=I.turned (λb o J e=>kk b o (by simpa using J) e) f0 f1 f3 f4 f5;refine(Zr rfl (sO (s:={ s with heap:=h',toks:=tk }) (n:="range_iterator") U rfl rfl (by decide) ⟨.int (lo+i),H,I1,⟨t,?_⟩,⟨rfl,rfl⟩,U,λb J=>(Y b J).1⟩));rw[Int.mul_one]
 done:=by
  intro X hP hw hK hc i pins s σ H E I Y st hg;subst hP hw hK;obtain⟨f0,f1,f2,f3,f4,f5⟩:=Y it (by simp);exact wpAny_pyNext_range_end (I.ok.hd hc) st (by have:n<=i:=hg;omega) λh' eb=>⟨rfl,I.turned (t':=s.toks) (λb o J e=>eb b o J e) f0 f1 f3 f4 f5⟩
 self:=λ_ _ _ _ _ st h=>wpAny_pyIter_rangeiter st h
section
variable {X:Cx}{tg:Expr}
def ES (K:W.Frag) (tl:TE):TI:=λσ H R=>tl σ H λx H1=>∃a,x=.ref a/\(∃xs,eA K H1 a xs)/\R (nt K a) H1
def ET (K:W.Frag) (tl:TE):TI:=λσ H R=>tl σ H λx H1=>∃a,x=.ref a/\(∃xs,d_ K H1 a xs)/\R (nu K a) H1
theorem kB {l:Expr}{tl:TE}(hl:PE X l tl):PI X tg l (ES X.K tl):=by
 intro pins s σ H R I h;refine e_ (hl pins s σ H _ I h) λv J zq=>?_;obtain⟨x,H1,U,Y,q1⟩:=zq;obtain⟨a,e,⟨xs,hq⟩,q⟩:=q1;subst e
 cases Y;obtain⟨aa,rv,p,hz⟩:=U.list hq;refine wpAny_pyIter_list p.isList ?_;refine⟨J.heap.objs.size,[J.heap.objs.size],_,_,H1,rfl,U.kept (t':=J.toks) λb o e=>Q07 _ e,EN a _,⟨_,Q0o _ rfl,rfl,rfl⟩,λb hb=>?_,q⟩;have e:b=J.heap.objs.size:=by simpa using hb
 subst e;exact U.mf (Q00 _) (U.hok.fresh (Q00 _))
theorem j2 {l:Expr}{tl:TE}(hl:PE X l tl):PI X tg l (ET X.K tl):=by
 intro pins s σ H R I h;refine e_ (hl pins s σ H _ I h) λv J zq=>?_;obtain⟨x,H1,U,r1,q1⟩:=zq;obtain⟨a,e,⟨xs,hq⟩,q⟩:=q1;subst e
 cases r1;obtain⟨Y,rv,p,hz⟩:=U.tuple hq;refine wpAny_pyIter_tuple (show J.heap.IsTuple a Y.toArray from p) ?_;refine⟨J.heap.objs.size,[J.heap.objs.size],_,_,H1,rfl,U.kept (t':=J.toks) λb o e=>Q07 _ e,EO a _,⟨_,Q0o _ rfl,rfl,rfl⟩,λb hb=>?_,q⟩;have e:b=J.heap.objs.size:=by simpa using hb
 subst e;exact U.mf (Q00 _) (U.hok.fresh (Q00 _))
theorem EU {pins:List (Addr × Obj)}{σ:St}{H:Hp}{s:Shared}{R:It->Hp->Prop}{E:Value->Shared->Prop}{lo hi:Int}{t u v:Tok}{tk:Nat}(I:Inv X pins σ H s)(h1: -(2 ^ 62)<=lo)(h2:lo<2 ^ 62)(U: -(2 ^ 62)<=hi)(Y:hi<2 ^ 62)
 (q:R (ny lo (hi - lo).toNat) H):wpAny (model X.prog X.w) X.A (pyIter (.ref s.heap.objs.size)) (PIE X pins σ tg R) E { s with heap:=s.heap.push { cls:=.type "range",data:=.fields #[.int lo t,.int hi u,.int 1 v] },toks:=tk }:=by
 refine wpAny_pyIter_range (IsRange.new ..) (small_one h1 h2 U Y) ?_;have J:Inv X pins σ H { s with heap:=s.heap.push { cls:=.type "range",data:=.fields #[.int lo t,.int hi u,.int 1 v] },toks:=tk }:=I.kept λb o e=>Q07 _ e
 refine⟨(s.heap.push { cls:=.type "range",data:=.fields #[.int lo t,.int hi u,.int 1 v] }).objs.size,[(s.heap.push { cls:=.type "range",data:=.fields #[.int lo t,.int hi u,.int 1 v] }).objs.size],_,_,H,rfl,
  J.kept (t':=tk) λb o e=>Q07 _ e,ER _ lo (hi - lo).toNat,?_,λb hb=>?_,q⟩
 . have e1:lo+((0:Nat):Int) * 1=lo:=by simp
   have e2:(((hi - lo).toNat:Nat):Int) - ((0:Nat):Int)=Builtin.Range.rangeSize lo hi 1:=by rw[rangeSize_one];split <;> omega
   show IsRangeIter _ _ (lo+((0:Nat):Int) * 1) ((((hi - lo).toNat:Nat):Int) - ((0:Nat):Int)) 1;rw[e1,e2];exact Q0o _ rfl
 . have e:b=(s.heap.push { cls:=.type "range",data:=.fields #[.int lo t,.int hi u,.int 1 v] }).objs.size:=by simpa using hb
   subst e;exact J.mf (Q00 _) (J.hok.fresh (Q00 _))
def EV (ta:TA):TI:=λσ H R=>ta σ H λvs H1=>∃j:Int,vs=[.int j]/\ -(2 ^ 62)<=j/\j<2 ^ 62/\R (ny 0 j.toNat) H1
theorem kE {a:Expr}{ta:TA}{p pos:Pos}(U:Gl X "range")(Y:X.mg "range"=none)(ha:PA X [a] ta)(hs:starEach [a] X.env=[(false,eval a X.env)]:=by rfl):PI X tg (.Call (.Name "range" p) [a] [] pos) (EV ta):=by
 intro pins s σ H R I h;refine Call_ (l_ I U Y boot_range (PyProof.Rows.callWith_type1 (e_ (ha pos pins s σ H _ I h) λus s1 zq=>?_) hs rfl));obtain⟨vs,H1,I1,r1,J⟩:=zq;obtain⟨j,e,J,q2,q⟩:=J;subst e
 cases r1 with
 |cons r rr=>
  cases rr;obtain⟨t,rfl⟩:=r;exact call_range_1 (EU I1 (by omega) (by omega) J q2 (by simpa using q))
def EW (wi:TI) (g:TG) (tb:TS):TS:=λD σ H=>wi σ H λJ H1=>∃W:Nat->Nat->St->Hp->Prop,(∃m,W 0 m σ H1)/\∀i m σ H,W i m σ H->
 (J.stop i H/\D.nx σ H)\/(J.go i H/\∃N:St->Hp->Prop,(∀I H',N I H'->∃Y,Y<m/\W (i+1) Y I H')/\∀x H',J.jN i H x H'->g x σ H' λU H2=>tb { D with nx:=N,ct:=N,bk:=D.nx } U H2)
noncomputable def qt (fp:List Addr) (h:Heap):List (Addr × Obj):=fp.filterMap λb=>(h.get? b).map λo=>(b,o)
theorem oQ {fp:List Addr}{h:Heap}{b:Addr}{o:Obj}(I:b∈fp)(e:h.get? b=some o):(b,o)∈qt fp h:=List.mem_filterMap.mpr ⟨b,I,by rw[e];rfl⟩
theorem EX {fp:List Addr}{h:Heap}{p:Addr × Obj}(hp:p∈qt fp h):p.1∈fp/\h.get? p.1=some p.2:=by
 obtain⟨b,I,e⟩:=List.mem_filterMap.mp hp
 cases q:h.get? b with
 |none=>rw[q] at e;cases e
 |some o=>
  rw[q] at e;have J:(b,o)=p:=Option.some.inj e;subst J;exact⟨I,q⟩
theorem Inv.pinned {pins:List (Addr × Obj)}{σ:St}{H:Hp}{s:Shared}{fp:List Addr}(I:Inv X pins σ H s)(Y:∀b∈fp,ir X pins H b)(ho:∀b∈fp,∃o,s.heap.get? b=some o/\∀v,o.data≠ .cell v):Inv X (pins++qt fp s.heap) σ H s:=
 I.l9 λp hp=>(List.mem_append.mp hp).elim (λz=>I.pin p (Q08 _ z)) λz=>by
   obtain⟨J,e⟩:=EX z;obtain⟨f0,f1,f2,_⟩:=Y p.1 J;obtain⟨o,U,d⟩:=ho p.1 J;rw[e] at U;cases U;exact⟨e,f0,f1,f2,d⟩
theorem Inv.lC {pins pl:List (Addr × Obj)}{σ:St}{H:Hp}{s:Shared}(I:Inv X (pins++pl) σ H s):Inv X pins σ H s:=I.l9 λp hp=>I.pin p (Q08 _ (Q0v _ hp))
theorem ie {iter:Expr}{body:List Stmt}{wi:TI}{g:TG}{tb:TS}{pos:Pos}(hp:PassesOwn (model X.prog X.w) X.A X.env X.xe)(hc:X.calm=true)(hi:PI X tg iter wi)(hg:PG X tg g)(Y:iD X body tb)
 (hs:∀x,foldedSetIterable iter X.env x=pure x:=by intro _;rfl):PS X (.For tg iter body [] pos) (EW wi g tb):=by
 intro pins s σ H D I h;refine wpAny_For (e_ (hi pins s σ H _ I h) λv s1 h1=>e_ h1 λal s2 h2=>?_) hs;obtain⟨it,fp,tn,J,H2,e,I2,T,ah,f2,W,⟨m0,w0⟩,turn⟩:=h2;subst e;have ac:∀{H':Hp},(∀b∈fp,H' b=none)->∀b∈fp,ir X pins H' b:=λhn b Y=>⟨hn b Y,(f2 b Y).2⟩;refine codeAny_forLoop_any (λn s'=>∃i aa H',Inv X pins aa H' s'/\tn i s'.heap/\(∀b∈fp,H' b=none)/\W i n aa H') ?_ m0 ⟨0,σ,H2,I2,ah,λb Y=>(f2 b Y).1,w0⟩;intro n s3 zq;obtain⟨i,ab,H3,I3,af,ag,w3⟩:=zq;rcases turn i n ab H3 w3 with⟨stop,qn⟩|⟨go,N,hN,step⟩
 . refine wpAny_passesOwn hp (e_ (T.done X rfl rfl rfl hc i pins s3 ab H3 X.xe I3 (ac ag) af stop) λr s4 ⟨hr,I4⟩=>?_);subst hr;exact wpAny_execs_nil ⟨ab,H3,I4,qn⟩
 . refine wpAny_passesOwn hp (e_ (T.item X rfl rfl rfl hc i pins s3 ab H3 X.xe I3 (ac ag) af go) λr s4 ⟨u,hr,h4⟩=>?_);subst hr;refine wpAny_passesOwn hp (e_ h4 λ_ s5 zq=>?_);obtain⟨x,H5,I5,r5,y5,ae,ai⟩:=zq;have aj:=I5.pinned (ac ai) (T.obj _ _ ae);refine wpAny_passesOwn hp (e_ (hg _ s5 ab H5 x u _ aj r5 (step x H5 y5)) λ_ s6 zq=>?_);obtain⟨ak,H6,I6,q6⟩:=zq;refine wpAny_passesOwn hp (e_ (Y _ s6 ak H6 _ I6 q6) λf s7 q7=>?_)
   have again:∀{U:St} {H7:Hp},Inv X (pins++qt fp s5.heap) U H7 s7->N U H7->∃m,m<n/\∃i aa H',Inv X pins aa H' s7/\tn i s7.heap/\(∀b∈fp,H' b=none)/\W i m aa H':=λ{U H7} I7 n7=>by
    obtain⟨m',hm,w7⟩:=hN U H7 n7;refine⟨m',hm,i+1,U,H7,I7.lC,T.keep _ _ _ ae λb Y o e=>(I7.pin (b,o) (Q08 _ (Q08 _ (oQ Y e)))).1,λb Y=>?_,w7⟩;obtain⟨o,e,d⟩:=T.obj _ _ ae b Y;exact(I7.pin (b,o) (Q08 _ (Q08 _ (oQ Y e)))).2.1
   cases f with
   |next=>obtain⟨U,H7,I7,n7⟩:=q7;exact again I7 n7
   |cont=>obtain⟨U,H7,I7,n7⟩:=q7;exact again I7 n7
   |brk=>obtain⟨U,H7,I7,q7⟩:=q7;exact⟨U,H7,I7.lC,q7⟩
   |ret v=>obtain⟨x7,U,H7,I7,r7,q7⟩:=q7;exact⟨x7,U,H7,I7.lC,r7,q7⟩
end
theorem zF {K:PySem.W.Frag}{a:Addr}{xs:List V}{g:TG}{tb:TS}{D:Ends}{σ:St}{H:Hp}(Pv:Nat->St->Hp->Prop)(h0:Pv 0 σ H)(hl:∀i σ H,i<=xs.length->Pv i σ H->eA K H a xs)
 (hs:∀i x σ H,xs[i]? =some x->Pv i σ H->g x σ H λI H2=>tb { D with nx:=Pv (i+1),ct:=Pv (i+1),bk:=D.nx } I H2) (hd:∀σ H,Pv xs.length σ H->D.nx σ H):
 ∃W:Nat->Nat->St->Hp->Prop,(∃m,W 0 m σ H)/\∀i m σ H,W i m σ H->
  ((nt K a).stop i H/\D.nx σ H)\/((nt K a).go i H/\∃N:St->Hp->Prop,(∀J H',N J H'->∃Y,Y<m/\W (i+1) Y J H')/\∀x H',(nt K a).jN i H x H'->g x σ H' λI H2=>tb { D with nx:=N,ct:=N,bk:=D.nx } I H2):=by
 refine⟨λi m σ H=>m=xs.length - i/\i<=xs.length/\Pv i σ H,⟨xs.length,by simp,Q04 _,h0⟩,?_⟩;rintro i m σ H ⟨rfl,hi,p⟩;have q:=hl i σ H hi p;by_cases U:i<xs.length
 . refine .inr ⟨⟨xs,xs[i],q,by simp[U]⟩,Pv (i+1),λJ H' p'=>⟨xs.length - (i+1),by omega,rfl,U,p'⟩,λx H' y=>?_⟩;obtain⟨e,y⟩:=y;subst e;exact hs i x σ _ (y xs q) p
 . have e:i=xs.length:=by omega
   subst e;exact .inl ⟨⟨xs,q,Q00 _⟩,hd σ H p⟩
theorem mi {K:PySem.W.Frag}{a:Addr}{xs:List V}{g:TG}{tb:TS}{D:Ends}{σ:St}{H:Hp}(Pv:Nat->St->Hp->Prop)(h0:Pv 0 σ H)(hl:∀i σ H,i<=xs.length->Pv i σ H->d_ K H a xs)
 (hs:∀i x σ H,xs[i]? =some x->Pv i σ H->g x σ H λI H2=>tb { D with nx:=Pv (i+1),ct:=Pv (i+1),bk:=D.nx } I H2) (hd:∀σ H,Pv xs.length σ H->D.nx σ H):
 ∃W:Nat->Nat->St->Hp->Prop,(∃m,W 0 m σ H)/\∀i m σ H,W i m σ H->
  ((nu K a).stop i H/\D.nx σ H)\/((nu K a).go i H/\∃N:St->Hp->Prop,(∀J H',N J H'->∃Y,Y<m/\W (i+1) Y J H')/\∀x H',(nu K a).jN i H x H'->g x σ H' λI H2=>tb { D with nx:=N,ct:=N,bk:=D.nx } I H2):=by
 refine⟨λi m σ H=>m=xs.length - i/\i<=xs.length/\Pv i σ H,⟨xs.length,by simp,Q04 _,h0⟩,?_⟩;rintro i m σ H ⟨rfl,hi,p⟩;have q:=hl i σ H hi p;by_cases U:i<xs.length
 . refine .inr ⟨⟨xs,xs[i],q,by simp[U]⟩,Pv (i+1),λJ H' p'=>⟨xs.length - (i+1),by omega,rfl,U,p'⟩,λx H' y=>?_⟩;obtain⟨e,y⟩:=y;subst e;exact hs i x σ _ (y xs q) p
 . have e:i=xs.length:=by omega
   subst e;exact .inl ⟨⟨xs,q,Q00 _⟩,hd σ H p⟩
theorem kF {lo:Int}{n:Nat}{g:TG}{tb:TS}{D:Ends}{σ:St}{H:Hp}(Pv:Nat->St->Hp->Prop)(h0:Pv 0 σ H)
 (hs:∀i σ H,i<n->Pv i σ H->g (.int (lo+i)) σ H λI H2=>tb { D with nx:=Pv (i+1),ct:=Pv (i+1),bk:=D.nx } I H2) (hd:∀σ H,Pv n σ H->D.nx σ H):
 ∃W:Nat->Nat->St->Hp->Prop,(∃m,W 0 m σ H)/\∀i m σ H,W i m σ H->
  ((ny lo n).stop i H/\D.nx σ H)\/((ny lo n).go i H/\∃N:St->Hp->Prop,(∀J H',N J H'->∃Y,Y<m/\W (i+1) Y J H')/\∀x H',(ny lo n).jN i H x H'->g x σ H' λI H2=>tb { D with nx:=N,ct:=N,bk:=D.nx } I H2):=by
 refine⟨λi m σ H=>m=n - i/\i<=n/\Pv i σ H,⟨n,by simp,Q04 _,h0⟩,?_⟩;rintro i m σ H ⟨rfl,hi,p⟩;by_cases U:i<n
 . refine .inr ⟨U,Pv (i+1),λJ H' p'=>⟨n - (i+1),by omega,rfl,U,p'⟩,λx H' y=>?_⟩;obtain⟨e,y⟩:=y;subst e y;exact hs i σ _ U p
 . have e:i=n:=by omega
   subst e;exact .inl ⟨Q00 _,hd σ H p⟩
noncomputable abbrev R2:=V->V->Hp->VK->Prop
def gH (X:Cx) (f:Value->Value->Sem Value) (r:R2):Prop:=
 ∀(pins:List (Addr × Obj)) (s:Shared) (σ:St) (H:Hp) (x y:V) (v u:Value) (Q:VK),Inv X pins σ H s->RelV x v->RelV y u->r x y H Q->
  wpAny (model X.prog X.w) X.A (f v u) (EP X pins σ Q) X.xe s
def sP (X:Cx) (f:Value->Sem Value) (r:V->Hp->VK->Prop):Prop:=
 ∀(pins:List (Addr × Obj)) (s:Shared) (σ:St) (H:Hp) (x:V) (v:Value) (Q:VK),Inv X pins σ H s->RelV x v->r x H Q->
  wpAny (model X.prog X.w) X.A (f v) (EP X pins σ Q) X.xe s
def ji (X:Cx) (f:Value) (r:List V->Hp->VK->Prop):Prop:=
 ∀(pins:List (Addr × Obj)) (s:Shared) (σ:St) (H:Hp) (xs:List V) (us:List Value) (Q:VK),Inv X pins σ H s->Vals xs us->r xs H Q->
  wpAny (model X.prog X.w) X.A (call f us) (EP X pins σ Q) X.xe s
def gI (r:R2) (ta tb:TE):TE:=λσ H Q=>ta σ H λx H1=>tb σ H1 λy H2=>r x y H2 Q
def EY (r:V->Hp->VK->Prop) (ta:TE):TE:=λσ H Q=>ta σ H λx H1=>r x H1 Q
def rI (C:Int->Int->Prop) (g:Int->Int->V):R2:=λx y H Q=>∃i j,x=.int i/\y=.int j/\C i j/\Q (g i j) H
def mj (g:Int->Int->V):R2:=λx y H Q=>∃i j,x=.int i/\y=.int j/\Q (g i j) H
def rU (g:Int->V):V->Hp->VK->Prop:=λx H Q=>∃i,x=.int i/\Q (g i) H
section
variable {X:Cx}{a b c:Expr}{ta tb tc:TE}{pos:Pos}
theorem sQ (ha:PE X a ta)(hb:PE X b tb){pins:List (Addr × Obj)}{s:Shared}{σ:St}{H:Hp}{R:V->V->Hp->Prop}(I:Inv X pins σ H s)
 (h:ta σ H λx H1=>tb σ H1 λy H2=>R x y H2) {Q:Value->Shared->Prop} {f:Value->Value->Sem Value}
 (hf:∀v u Y x y H2,Inv X pins σ H2 Y->RelV x v->RelV y u->R x y H2->wpAny (model X.prog X.w) X.A (f v u) Q X.xe Y):
 wpAny (model X.prog X.w) X.A (eval a X.env) (λv J=>wpAny (model X.prog X.w) X.A (eval b X.env) (λu U=>wpAny (model X.prog X.w) X.A (f v u) Q X.xe U) X.xe J) X.xe s:=by
 refine e_ (ha pins s σ H _ I h) λv s1 zq=>?_;obtain⟨x,H1,I1,r1,q1⟩:=zq;refine e_ (hb pins s1 σ H1 _ I1 q1) λu Y zq=>?_;obtain⟨y,H2,I2,r2,q2⟩:=zq;exact hf v u Y x y H2 I2 r1 r2 q2
theorem eB {op:Operator}{r:R2}(J:gH X (binaryOp op) r)(U:PE X a ta)(Y:PE X b tb):PE X (.BinOp a op b pos) (gI r ta tb):=by
 intro pins s σ H Q I h;exact wpAny_BinOp (sQ U Y I h λv u s2 x y H2 I2 rx ry q=>J pins s2 σ H2 x y v u Q I2 rx ry q)
theorem qu {op:UnaryOp}{r:V->Hp->VK->Prop}(J:sP X (unaryOp op) r)(U:PE X a ta):PE X (.UnaryOp op a pos) (EY r ta):=by
 intro pins s σ H Q I h;exact UnaryOp_ (e_ (U pins s σ H _ I h) λv Y ⟨x,H1,I1,r1,q1⟩=>J pins Y σ H1 x v Q I1 r1 q1)
theorem qw {f:Value->Value->Sem Value}{C:Int->Int->Prop}{g:Int->Int->Int}
 (rule:∀(i j:Int) (t u:Tok) (s:Shared) (Q:Value->Shared->Prop) (E:Value->Shared->Prop),C i j->Q (.int (g i j) s.toks) { s with toks:=s.toks+1 }->wpAny (model X.prog X.w) X.A (f (.int i t) (.int j u)) Q E s):
 gH X f (rI C λi j=>.int (g i j)):=by
 intro pins s σ H x y v u Q I J U h;obtain⟨i,j,rfl,rfl,hc,q⟩:=h;obtain⟨t,rfl⟩:=J;obtain⟨t',rfl⟩:=U;exact rule i j t t' s _ _ hc ⟨.int (g i j),H,I.tok _,⟨_,rfl⟩,q⟩
theorem zG {f:Value->Value->Sem Value}{g:Int->Int->Int}
 (rule:∀(i j:Int) (t u:Tok) (s:Shared) (Q:Value->Shared->Prop) (E:Value->Shared->Prop),Q (.int (g i j) s.toks) { s with toks:=s.toks+1 }->wpAny (model X.prog X.w) X.A (f (.int i t) (.int j u)) Q E s):
 gH X f (mj λi j=>.int (g i j)):=by
 intro pins s σ H x y v u Q I J U h;obtain⟨i,j,rfl,rfl,q⟩:=h;obtain⟨t,rfl⟩:=J;obtain⟨t',rfl⟩:=U;exact rule i j t t' s _ _ ⟨.int (g i j),H,I.tok _,⟨_,rfl⟩,q⟩
theorem sR {f:Value->Value->Sem Value}{g:Int->Int->Bool}
 (rule:∀(i j:Int) (t u:Tok) (s:Shared) (Q:Value->Shared->Prop) (E:Value->Shared->Prop),Q (.bool (g i j)) s->wpAny (model X.prog X.w) X.A (f (.int i t) (.int j u)) Q E s):
 gH X f (mj λi j=>.bl (g i j)):=by
 intro pins s σ H x y v u Q I J U h;obtain⟨i,j,rfl,rfl,q⟩:=h;obtain⟨t,rfl⟩:=J;obtain⟨t',rfl⟩:=U;exact rule i j t t' s _ _ ⟨.bl (g i j),H,I,rfl,q⟩
def EZ (i j:Int):Prop:=0<j/\j<1073741824
def sS (i j:Int):Prop:=0<=j/\j<=1000000/\i.natAbs<2 ^ 64
def sT (i j:Int):Prop:=(-(2 ^ 64)<i/\i<2 ^ 64)\/(-(2 ^ 64)<j/\j<2 ^ 64)
theorem sT.ok {i j:Int}(h:sT i j):IntMulOk i j:=by
 rcases h with⟨h1,h2⟩|⟨h1,h2⟩
 . exact .of_left (intBits_le_64 h1 h2)
 . exact .of_right (intBits_le_64 h1 h2)
theorem hX:gH X (binaryOp .Add) (mj λi j=>.int (i+j)):=zG λ_ _ _ _ _ _ _ q=>add_int q
theorem jv:gH X (binaryOp .Sub) (mj λi j=>.int (i - j)):=zG λ_ _ _ _ _ _ _ q=>sub_int q
theorem kG:gH X (binaryOp .Mult) (rI sT λi j=>.int (i * j)):=qw λ_ _ _ _ _ _ _ hc q=>mul_int q hc.ok
theorem gm:gH X (binaryOp .FloorDiv) (rI EZ λi j=>.int (i / j)):=qw λi j _ _ _ _ _ hc q=>by
 have h1:(0:Int)<j:=hc.1;have h2:j<1073741824:=hc.2;exact floordiv_int (by omega) (by rw[Int.fdiv_eq_ediv_of_nonneg i (by omega)];exact q) (.inl (PyProof.noPylong_small (by omega)))
theorem fm:gH X (binaryOp .Mod) (rI (λ_ j=>0<j) λi j=>.int (i % j)):=qw λi j _ _ _ _ _ hc q=>by
 have h1:(0:Int)<j:=hc;exact mod_int' (by omega) (by rw[Int.fmod_eq_emod_of_nonneg i (by omega)];exact q)
theorem qx:gH X (binaryOp .Pow) (rI sS λi j=>.int (i ^ j.toNat)):=qw λ_ _ _ _ _ _ _ hc q=>pow_int_small hc.1 hc.2.1 hc.2.2 q
theorem E1 {f:Value->Sem Value}{g:Int->Int}
 (rule:∀(i:Int) (t:Tok) (s:Shared) (Q:Value->Shared->Prop) (E:Value->Shared->Prop),Q (.int (g i) s.toks) { s with toks:=s.toks+1 }->wpAny (model X.prog X.w) X.A (f (.int i t)) Q E s):
 sP X f (rU λi=>.int (g i)):=by
 intro pins s σ H x v Q I J h;obtain⟨i,rfl,q⟩:=h;obtain⟨t,rfl⟩:=J;exact rule i t s _ _ ⟨.int (g i),H,I.tok _,⟨_,rfl⟩,q⟩
theorem qy:sP X (unaryOp .USub) (rU λi=>.int (-i)):=E1 λ_ _ _ _ _ q=>neg_int q
end
noncomputable def zH:V->V->Bool
 | .non,.non=>true| .non,.int _=>true| .int _,.non=>true| .non,.bl _=>true| .bl _,.non=>true| .non,.str _=>true| .str _,.non=>true
 | .int _,.int _=>true| .bl _,.bl _=>true| .str _,.str _=>true| .ju _,.ju _=>true
 | .int _,.str _=>true| .str _,.int _=>true| .bl _,.str _=>true| .str _,.bl _=>true
 |_,_=>false
def kH:R2:=λx y H Q=>zH x y=true/\Q (.bl (decide (x=y))) H
def E2:R2:=λx y H Q=>zH x y=true/\Q (.bl (!decide (x=y))) H
theorem zI {i j:Int}:decide (V.int i=V.int j)=(i == j):=by
 rw[Bool.eq_iff_iff];simp
theorem zJ {i j:Bool}:decide (V.bl i=V.bl j)=(i == j):=by
 rw[Bool.eq_iff_iff];simp
theorem zK {i j:Str}:decide (V.str i=V.str j)=(i == j):=by
 rw[Bool.eq_iff_iff];simp
theorem zL {i j:Array UInt8}:decide (V.ju i=V.ju j)=(i.toList == j.toList):=by
 rw[Bool.eq_iff_iff]
 cases i
 cases j;simp
section
variable {X:Cx}{a b c:Expr}{ta tb tc:TE}{pos:Pos}
theorem gD {pins:List (Addr × Obj)}{σ:St}{H:Hp}{s:Shared}{Q:VK}{k J:Bool}(I:Inv X pins σ H s)(q:Q (.bl k) H)(e:k=J):EP X pins σ Q (.bool J) s:=by
 subst e;exact⟨.bl k,H,I,rfl,q⟩
theorem fi:gH X (compareOp .Eq) kH:=by
 intro pins s σ H x y v u Q I Y J h;obtain⟨U,q⟩:=h
 cases x with
 |non=>
  cases Y
  cases y with
  |non=>cases J;exact PySem.EqNone.eq_none_none (gD I q (by simp))
  |bl j=>cases J;exact PySem.EqNone.eq_none_bool (gD I q (by simp))
  |int j=>obtain⟨t',rfl⟩:=J;exact PySem.EqNone.eq_none_int (gD I q (by simp))
  |str j=>obtain⟨t',rfl⟩:=J;exact PySem.EqNone.eq_none_str (gD I q (by simp))
  |_=>exact absurd (show false=true from U) Bool.false_ne_true
 |bl i=>
  cases Y
  cases y with
  |non=>cases J;exact PySem.EqNone.eq_bool_none (gD I q (by simp))
  |bl j=>cases J;exact eq_bool (gD I q zJ)
  |str j=>obtain⟨t',rfl⟩:=J;exact PySem.EqMixed.eq_bool_str (gD I q (by simp))
  |_=>exact absurd (show false=true from U) Bool.false_ne_true
 |int i=>
  obtain⟨t,rfl⟩:=Y
  cases y with
  |non=>cases J;exact PySem.EqNone.eq_int_none (gD I q (by simp))
  |int j=>obtain⟨t',rfl⟩:=J;exact eq_int (gD I q zI)
  |str j=>obtain⟨t',rfl⟩:=J;exact PySem.EqMixed.eq_int_str (gD I q (by simp))
  |_=>exact absurd (show false=true from U) Bool.false_ne_true
 |str i=>
  obtain⟨t,rfl⟩:=Y
  cases y with
  |non=>cases J;exact PySem.EqNone.eq_str_none (gD I q (by simp))
  |bl j=>cases J;exact PySem.EqMixed.eq_str_bool (gD I q (by simp))
  |int j=>obtain⟨t',rfl⟩:=J;exact PySem.EqMixed.eq_str_int (gD I q (by simp))
  |str j=>obtain⟨t',rfl⟩:=J;exact eq_str (gD I q zK)
  |_=>exact absurd (show false=true from U) Bool.false_ne_true
 |ju i=>
  obtain⟨t,rfl⟩:=Y
  cases y with
  |ju j=>obtain⟨t',rfl⟩:=J;exact W.eq_bytes (gD I q zL)
  |_=>exact absurd (show false=true from U) Bool.false_ne_true
 |_=>cases y <;> exact absurd (show false=true from U) Bool.false_ne_true
theorem jO:gH X (compareOp .NotEq) E2:=by
 intro pins s σ H x y v u Q I Y J h;obtain⟨U,q⟩:=h
 cases x with
 |non=>
  cases Y
  cases y with
  |non=>cases J;exact PySem.EqNone.ne_none_none (gD I q (by simp))
  |bl j=>cases J;exact PySem.EqNone.ne_none_bool (gD I q (by simp))
  |int j=>obtain⟨t',rfl⟩:=J;exact PySem.EqNone.ne_none_int (gD I q (by simp))
  |str j=>obtain⟨t',rfl⟩:=J;exact PySem.EqNone.ne_none_str (gD I q (by simp))
  |_=>exact absurd (show false=true from U) Bool.false_ne_true
 |bl i=>
  cases Y
  cases y with
  |non=>cases J;exact PySem.EqNone.ne_bool_none (gD I q (by simp))
  |bl j=>cases J;exact ne_bool (gD I q (congrArg not zJ))
  |str j=>obtain⟨t',rfl⟩:=J;exact PySem.EqMixed.ne_bool_str (gD I q (by simp))
  |_=>exact absurd (show false=true from U) Bool.false_ne_true
 |int i=>
  obtain⟨t,rfl⟩:=Y
  cases y with
  |non=>cases J;exact PySem.EqNone.ne_int_none (gD I q (by simp))
  |int j=>obtain⟨t',rfl⟩:=J;exact ne_int (gD I q (congrArg not zI))
  |str j=>obtain⟨t',rfl⟩:=J;exact PySem.EqMixed.ne_int_str (gD I q (by simp))
  |_=>exact absurd (show false=true from U) Bool.false_ne_true
 |str i=>
  obtain⟨t,rfl⟩:=Y
  cases y with
  |non=>cases J;exact PySem.EqNone.ne_str_none (gD I q (by simp))
  |bl j=>cases J;exact PySem.EqMixed.ne_str_bool (gD I q (by simp))
  |int j=>obtain⟨t',rfl⟩:=J;exact PySem.EqMixed.ne_str_int (gD I q (by simp))
  |str j=>obtain⟨t',rfl⟩:=J;exact ne_str (gD I q (congrArg not zK))
  |_=>exact absurd (show false=true from U) Bool.false_ne_true
 |ju i=>
  obtain⟨t,rfl⟩:=Y
  cases y with
  |ju j=>obtain⟨t',rfl⟩:=J;exact W.ne_bytes (gD I q (congrArg not zL))
  |_=>exact absurd (show false=true from U) Bool.false_ne_true
 |_=>cases y <;> exact absurd (show false=true from U) Bool.false_ne_true
theorem oR:gH X (compareOp .Lt) (mj λi j=>.bl (decide (i<j))):=sR λ_ _ _ _ _ _ _ q=>lt_int q
theorem zM:gH X (compareOp .LtE) (mj λi j=>.bl (decide (i<=j))):=sR λ_ _ _ _ _ _ _ q=>le_int q
theorem jP:gH X (compareOp .Gt) (mj λi j=>.bl (decide (j<i))):=sR λ_ _ _ _ _ _ _ q=>gt_int q
theorem E3:gH X (compareOp .Lt) (λx y H Q=>∃i j,x=.str i/\y=.str j/\Q (.bl (decide (i.cps.toList<j.cps.toList))) H):=by
 intro pins s σ H x y v u Q I J U h;obtain⟨i,j,rfl,rfl,q⟩:=h;obtain⟨t,rfl⟩:=J;obtain⟨t',rfl⟩:=U;exact lt_str (gD I q rfl)
theorem zN:gH X (compareOp .Is) (λx y H Q=>y=.non/\Q (.bl (decide (x=.non))) H):=by
 intro pins s σ H x y v u Q I J U h;obtain⟨rfl,q⟩:=h
 cases U;refine is_none_gen (gD I q ?_)
 cases x <;> first
  |(cases J;rfl)
  |(obtain⟨t,rfl⟩:=J;rfl)
theorem ml:gH X (compareOp .IsNot) (λx y H Q=>y=.non/\Q (.bl (!decide (x=.non))) H):=by
 intro pins s σ H x y v u Q I J U h;obtain⟨rfl,q⟩:=h
 cases U;refine isnot_none_gen (gD I q ?_)
 cases x <;> first
  |(cases J;rfl)
  |(obtain⟨t,rfl⟩:=J;rfl)
theorem eM (b:Expr){op:CmpOp}(h:op≠ .In:=by decide)(h2:op≠ .NotIn:=by decide):behindInMarks op b=false:=by
 have I:(op == CmpOp.In)=false:=by cases op <;> first|rfl|exact absurd rfl h
 have J:(op == CmpOp.NotIn)=false:=by cases op <;> first|rfl|exact absurd rfl h2
 cases b <;> simp[behindInMarks,I,J]
theorem iO {op:CmpOp}{r:R2}(J:gH X (compareOp op) r)(U:PE X a ta)(Y:PE X b tb)(hm:behindInMarks op b=false):PE X (.Compare a [op] [b] pos) (gI r ta tb):=by
 intro pins s σ H Q I h;exact wpAny_Compare1 (sQ U Y I h λv u s2 x y H2 I2 rx ry q=>J pins s2 σ H2 x y v u Q I2 rx ry q) hm
def lD (t:TE):TT:=λσ H Q=>t σ H λx H'=>∃k,x=.bl k/\Q k H'
theorem eP {op:CmpOp}{r:R2}(J:gH X (compareOp op) r)(U:PE X a ta)(Y:PE X b tb)(hm:behindInMarks op b=false):PT X (.Compare a [op] [b] pos) (lD (gI r ta tb)):=by
 intro pins s σ H Q I h
 refine wpAny_isTrue_Compare1 (e_ (U pins s σ H _ I h) λv s1 ⟨x,H1,I1,r1,q1⟩=>e_ (Y pins s1 σ H1 _ I1 q1) λu s2 ⟨y,H2,I2,r2,q2⟩=>
  e_ (J pins s2 σ H2 x y v u _ I2 r1 r2 q2) λc s3 ⟨z,H3,I3,r3,k,e,q3⟩=>?_) hm
 subst e
 cases r3;exact wpAny_truthy_bool ⟨H3,I3,q3⟩
theorem nz:(sizeLine:Nat)<2 ^ 63:=by rw[sizeLine_eq];decide
theorem mq:gH X (binaryOp .Add) (λx y H Q=>∃i j,x=.str i/\y=.str j/\i.length+j.length<=sizeLine/\Q (.str (i++j)) H):=by
 intro pins s σ H x y v u Q I J U h;obtain⟨i,j,rfl,rfl,Y,q⟩:=h;obtain⟨t,rfl⟩:=J;obtain⟨t',rfl⟩:=U;exact add_str (λt' tk=>⟨.str (i++j),H,I.tok _,⟨_,rfl⟩,q⟩) Y
theorem vals1 {x:V}{us:List Value}(r:Vals [x] us):∃u,us=[u]/\RelV x u:=by
 cases r with
 |cons I J=>cases J;exact(Zr rfl I)
theorem vals2 {x y:V}{us:List Value}(r:Vals [x,y] us):∃u I,us=[u,I]/\RelV x u/\RelV y I:=by
 cases r with
 |cons J U=>
  cases U with
  |cons Y r4=>cases r4;exact⟨_,Zr rfl ⟨J,Y⟩⟩
theorem E4:ji X (.type "int") (λxs H Q=>(∃i,xs=[.int i]/\Q (.int i) H)\/∃k,xs=[.bl k]/\Q (.int (if k then 1 else 0)) H):=by
 intro pins s σ H xs us Q I r h;rcases h with⟨i,rfl,q⟩|⟨k,rfl,q⟩
 . obtain⟨u,rfl,t,rfl⟩:=vals1 r;exact call_int_int ⟨.int i,H,I,⟨_,rfl⟩,q⟩
 . obtain⟨u,rfl,J⟩:=vals1 r
   cases J;exact call_int_bool ⟨.int (if k then 1 else 0),H,I.tok _,⟨_,rfl⟩,q⟩
end
structure mw (h:Heap) (x dx C:Addr) (mA:Str->Option Value):Prop where
 obj:h.get? x=some (W.instObj C dx)
 ns:h.Ns1 dx mA
 ne:dx≠x
theorem E5 {h:Heap}{dx:Addr}{mA:Str->Option Value}(n:h.Ns1 dx mA):∃J,h.get? dx=some J/\∀name,W.lookIn name J=some (mA name):=by
 obtain⟨o,es,ep,U,Y,hk,_,hm⟩:=n;refine⟨o,U,λname=>?_⟩;have e:=hm name;unfold nsFind findBy at e;rw[<-Q2r] at e;unfold W.lookIn;rw[Y];dsimp only;split
 . rename_i y q;rw[q] at e;exact congrArg some e
 . rename_i q;rw[q] at e
   have a:es.toList.any (·.refKey)=false:=by
    rw[List.any_eq_false];intro y hy;obtain⟨z,t,I⟩:=hk y (Array.mem_toList_iff.mp hy);simp[DictEntry.refKey,I]
   have a':¬es.toList.any (·.refKey)=true:=by rw[a];exact Bool.false_ne_true
   rw[if_neg a'];exact congrArg some e
theorem mw.look {h:Heap}{x dx C:Addr}{mA:Str->Option Value}(I:mw h x dx C mA):∃J,W.InstAt h x (W.instObj C dx) C (some J)/\∀name,W.lookIn name J=some (mA name):=
 let⟨J,U,hl⟩:=E5 I.ns
 ⟨J,⟨I.obj,rfl,rfl,U⟩,hl⟩
section
variable {prog:Program}{w:World}{A:Around}{E:Value->Shared->Prop}{s:Shared}{K:W.Frag}{x dx C f:Addr}{mA:Str->Option Value}{name:Str}{v:Value}
theorem get_map {U:Bool}{Q:Value->Shared->Prop}(X:K.In s.heap)(I:mw s.heap x dx C mA)(hg:W.plainGet K C name=true)(hh:W.hasDictIn K C=true)
 (ha:W.findIn K (.ref C) name=some none) (hv:mA name=some v) (Y:W.handedIn v=true) (h:Q v { s with toks:=s.toks+1 }):
 wpAny (model prog w) A (getAttr (.ref x) name U) Q E s:=by
 obtain⟨od,J,hl⟩:=I.look;exact W.get_value X J (W.plainGet_of hg).1 (W.findObj_own hh ha rfl (by rw[hl,hv])) Y h
theorem E6 {pl:Sem Bool}{Q:Value × List Value->Shared->Prop}(X:K.In s.heap)(I:mw s.heap x dx C mA)(U:W.plainGet K C name=true)
 (Y:W.findIn K (.ref C) name=some (some (.ref f))) (ht:W.isFn K (.ref f)=true) (hv:mA name=none) (h:Q (.ref f,[.ref x]) s):
 wpAny (model prog w) A (getMethod (.ref x) name pl) Q E s:=by
 obtain⟨od,J,hl⟩:=I.look;exact W.method_fn X J (W.plainGet_of U).1 (W.plainGet_of U).2 Y (beq_iff_eq.mp ht) (by show(W.lookIn name od).map (·.isSome)=some false;rw[hl,hv];rfl) h
theorem E7 {ns:List Str}{Q:Unit->Shared->Prop}(X:K.In s.heap)(I:mw s.heap x dx C mA)
 (hs:W.findIn K (.ref C) "__setattr__"=some (some (.builtin "object.__setattr__"))) (hp:W.plainOver K C=true) (ht:W.takerIn K C name=some none) (hh:W.hasDictIn K C=true)
 (hw:PySem.Within mA ns) (hsz:ns.length<=sizeLine)
 (h:∀h',mw h' x dx C (λy=>if y=name then some v else mA y)->Heap.SameBut dx s.heap h'->Q () { s with heap:=h',toks:=s.toks+2 }):
 wpAny (model prog w) A (setAttr (.ref x) name v) Q E s:=by
 obtain⟨od,J,hl⟩:=I.look;refine W.set_plain X J hs (W.osa_open (s:={ s with toks:=s.toks+1 }) (r:=none) X J hp ht λb=>?_);obtain⟨cd,hc,aa⟩:=W.any_some hh;have hx:s.heap.get? x=some ⟨.ref C,some dx,.plain,#[]⟩:=I.obj;refine Q0 (Q0c (Q0 (Q0 (wpAny_loadPart hx (Q0 (W.Looks.here (s:={ s with toks:=s.toks+1 }) (W.looks_clsIn X hc) ?_))))));rw[aa];refine Q0c (a:=some dx) (Q0 (Q0c (Q0 ?_)));refine wpAny_nsSet1 (s:={ s with toks:=s.toks+1 }) I.ns λh' U Y=>?_;obtain⟨oD,af,ag,ab,ac,ae⟩:=U.count (PySem.Within.cons name v hw);refine Q0 (wpAny_lookBehind ab (by rw[ac];exact pastItsLine_dict (Q0e ae (by rw[Q0j];omega))) ?_);exact Q0c (h _ ⟨(Y.2 _ (Ne.symm I.ne)).trans I.obj,U,I.ne⟩ Y)
theorem E8 {R:Result->Shared->Prop}{vs:List Value}{I:List (Str × Value)}(X:K.In s.heap)(J:W.makesIn K C=true)
 (hi:W.findIn K (.ref C) "__init__"=some (some (.ref f))) (U:W.typeIn K (.ref f)=some (.type "function"))
 (h:codeAny (model prog w) (A.under (.builtin "type.__call__" ⟨.ref C::vs,I⟩)) (.call (.ref f) ⟨.ref (s.heap.objs.size+1)::vs,I⟩) (W.InitBack (s.heap.objs.size+1) R)
   { s with heap:=(s.heap.push W.emptyDict).push (W.instObj C s.heap.objs.size) }):
 codeAny (model prog w) A (.call (.ref C) ⟨vs,I⟩) R s:=by
 obtain⟨Y,g,d,t,os⟩:=s;exact W.make_core (W.makes_of X J) (W.looks_findIn X hi) (λself=>W.bind_fn X self U) (.inl rfl) h
end
noncomputable def iJ (f:Str) (v:V):List (Str × V)->List (Str × V)
 |[]=>[(f,v)]
 |(g,x)::r=>if g=f then(g,v)::r else(g,x)::iJ f v r
theorem zO (f g:Str)(v:V):∀fs:List (Str × V),(iJ f v fs).lookup g=if g=f then some v else fs.lookup g
 |[]=>by
  show List.lookup g [(f,v)]=_;by_cases h:g=f
  . have I:(g == f)=true:=beq_iff_eq.mpr h;simp only[List.lookup,I,if_pos h]
  . have I:(g == f)=false:=beq_eq_false_iff_ne.mpr h;simp only[List.lookup,I,if_neg h]
 |(k,x)::r=>by
  have U:=zO f g v r;rw[show iJ f v ((k,x)::r)=(if k=f then(k,v)::r else(k,x)::iJ f v r) from rfl];by_cases J:k=f
  . rw[if_pos J];by_cases h:g=k
    . have I:(g == k)=true:=beq_iff_eq.mpr h;simp only[List.lookup,I,if_pos (h.trans J)]
    . have I:(g == k)=false:=beq_eq_false_iff_ne.mpr h;simp only[List.lookup,I,if_neg (λe:g=f=>h (e.trans J.symm))]
  . rw[if_neg J];by_cases h:g=k
    . have I:(g == k)=true:=beq_iff_eq.mpr h;simp only[List.lookup,I,if_neg (λe:g=f=>J (h.symm.trans e))]
    . have I:(g == k)=false:=beq_eq_false_iff_ne.mpr h;simp only[List.lookup,I];exact U
theorem sU (f:Str)(v:V):∀fs:List (Str × V),f∈(iJ f v fs).map (·.1)/\∀g,g∈fs.map (·.1)->g∈(iJ f v fs).map (·.1)
 |[]=>⟨by simp[iJ],λg h=>by simp at h⟩
 |(k,x)::r=>by
  obtain⟨J,U⟩:=sU f v r;rw[show iJ f v ((k,x)::r)=(if k=f then(k,v)::r else(k,x)::iJ f v r) from rfl];by_cases I:k=f
  . rw[if_pos I];subst I;exact⟨by simp,λg h=>by simpa using h⟩
  . rw[if_neg I];refine⟨?_,λg h=>?_⟩
    . rw[Q1];exact Q0b _ J
    . rw[Q1] at h ⊢;rcases List.mem_cons.mp h with e|e
      . exact List.mem_cons.mpr (.inl e)
      . exact Q0b _ (U g e)
theorem zP (f:Str)(v:V):∀fs:List (Str × V),(iJ f v fs).length<=fs.length+1
 |[]=>by simp[iJ]
 |(k,x)::r=>by
  have J:=zP f v r;rw[show iJ f v ((k,x)::r)=(if k=f then(k,v)::r else(k,x)::iJ f v r) from rfl];by_cases I:k=f
  . rw[if_pos I,Q0j,Q0j];omega
  . rw[if_neg I,Q0j,Q0j];omega
theorem iB.some_of {v:V}{o:Option Value}(r:iB (some v) o):∃u,o=some u/\RelV v u:=by
 cases o with
 |none=>exact(show False from r).elim
 |some u=>exact⟨u,rfl,r⟩
theorem iB.none_of {o:Option Value}(r:iB none o):o=none:=by
 cases o with
 |none=>rfl
 |some u=>exact(show False from r).elim
theorem zQ {v:V}{u:Value}(r:RelV v u):W.handedIn u=true:=by
 cases v with
 |non=>cases(show u=Value.none from r);rfl
 |bl b=>cases(show u=Value.bool b from r);rfl
 |int i=>obtain⟨t,e⟩:=(show ∃t,u=Value.int i t from r);cases e;rfl
 |str x=>obtain⟨t,e⟩:=(show ∃t,u=Value.str x t from r);cases e;rfl
 |ju b=>obtain⟨t,e⟩:=(show ∃t,u=Value.bytes b t from r);cases e;rfl
 |flt b=>obtain⟨t,e⟩:=(show ∃t,u=Value.float b t from r);cases e;rfl
 |ref a=>cases(show u=Value.ref a from r);rfl
 |ty n=>cases(show u=Value.type n from r);rfl
section
variable {P:Program}{w:World}{H H':Hp}{h h':Heap}{a C dx:Addr}{fs fs':List (Str × V)}
theorem qz (I:gw P w H h)(e:H a=some (.ins C dx fs)):∃mA,mw h a dx C mA/\(∀f,iB (fs.lookup f) (mA f))/\PySem.Within mA (fs.map (·.1))/\fs.length<=1000/\H dx=some (.own a):=by
 obtain⟨d,z,J,U,mA,n,r,q⟩:=(show gC P w H h a (.ins C dx fs) from I a _ e);exact⟨mA,⟨U,n,J⟩,r,q,z,d⟩
end
structure Cls (K:W.Frag) (C:Addr):Prop where
 pg:W.plainGet K C Str.empty=true
 hd:W.hasDictIn K C=true
 po:W.plainOver K C=true
 sa:W.findIn K (.ref C) "__setattr__"=some (some (.builtin "object.__setattr__"))
theorem Cls.get {K:W.Frag}{C:Addr}(c:Cls K C)(f:Str):W.plainGet K C f=true:=c.pg
def mx (K:W.Frag) (C:Addr) (f:Str):Prop:=W.findIn K (.ref C) f=some none
theorem mx.taker {K:W.Frag}{C:Addr}{f:Str}(n:mx K C f):W.takerIn K C f=some none:=by
 unfold W.takerIn;rw[show W.findIn K (.ref C) f=some none from n];rfl
structure Meth (K:W.Frag) (C:Addr) (m:Str) (f:Addr):Prop where
 at_:W.findIn K (.ref C) m=some (some (.ref f))
 fn:W.isFn K (.ref f)=true
 kp:W.keepIn K (.ref f)=true
section
variable {X:Cx}{pins:List (Addr × Obj)}{σ:St}{H:Hp}{s:Shared}{a C dx:Addr}{fs:List (Str × V)}{f:Str}{v:V}{A:Around}{E:Value->Shared->Prop}
theorem E9 {b:Bool}{Q:Value->Shared->Prop}(I:Inv X pins σ H s)(e:H a=some (.ins C dx fs))(c:Cls X.K C)(n:mx X.K C f)(l:fs.lookup f=some v)
 (h:∀u s',Inv X pins σ H s'->RelV v u->Q u s'):wpAny (model X.prog X.w) A (getAttr (.ref a) f b) Q E s:=by
 obtain⟨mA,O,r,_,_,_⟩:=qz I.hok e;obtain⟨u,U,J⟩:=iB.some_of (v:=v) (o:=mA f) (by rw[<-l];exact r f);exact get_map I.gG O (c.get f) c.hd n U (zQ J) (h u _ (I.tok _) J)
theorem E_ {m:Str}{g:Addr}{pl:Sem Bool}{Q:Value × List Value->Shared->Prop}(I:Inv X pins σ H s)(e:H a=some (.ins C dx fs))(c:Cls X.K C)(k:Meth X.K C m g)(l:fs.lookup m=none)
 (h:Q (.ref g,[.ref a]) s):wpAny (model X.prog X.w) A (getMethod (.ref a) m pl) Q E s:=by
 obtain⟨mA,O,r,_,_,_⟩:=qz I.hok e;have J:mA m=none:=iB.none_of (by rw[<-l];exact r m);exact E6 I.gG O (c.get m) k.at_ k.fn J h
theorem Fb {y:V}{u:Value}{Q:Unit->Shared->Prop}(I:Inv X pins σ H s)(e:H a=some (.ins C dx fs))(c:Cls X.K C)(n:mx X.K C f)(hl:fs.length<1000)(ry:RelV y u)
 (h:∀s',Inv X pins σ (upd H a (.ins C dx (iJ f y fs))) s'->Q () s'):wpAny (model X.prog X.w) A (setAttr (.ref a) f u) Q E s:=by
 obtain⟨mA,O,r,U,_,Y⟩:=qz I.hok e;have hz:(fs.map (·.1)).length<=sizeLine:=by rw[Q03,sizeLine_eq];omega
 refine E7 I.gG O c.sa c.po n.taker c.hd U hz λh' J sb=>h _ ?_;have hd:∃o,h'.get? dx=some o:=let⟨o,_,_,e',_⟩:=J.ns;⟨o,e'⟩
 refine I.write (x:=a) (e:=dx) (by rw[e];exact True.intro) (.inr Y) (λb q hb z=>(sb.2 b hb).trans z) hd ?_;refine⟨by rw[eu O.ne];exact Y,?_,O.ne,J.obj,_,J.ns,λg=>?_,λg hg=>?_⟩
 . have:=zP f y fs;omega
 . show iB ((iJ f y fs).lookup g) (if g=f then some u else mA g);rw[zO];by_cases q:g=f
   . rw[if_pos q,if_pos q];exact ry
   . rw[if_neg q,if_neg q];exact r g
 . by_cases q:g=f
   . rw[q];exact(sU f y fs).1
   . refine(sU f y fs).2 g (U g λz=>hg ?_);show(if g=f then some u else mA g)=none;rw[if_neg q];exact z
theorem Inv.made (I:Inv X pins σ H s):Inv X pins σ (upd (upd H s.heap.objs.size (.own (s.heap.objs.size+1))) (s.heap.objs.size+1) (.ins C s.heap.objs.size []))
 { s with heap:=(s.heap.push W.emptyDict).push (W.instObj C s.heap.objs.size) }:=by
 have J:(s.heap.push W.emptyDict).get? s.heap.objs.size=some W.emptyDict:=Q0o s.heap rfl
 have Y:((s.heap.push W.emptyDict).push (W.instObj C s.heap.objs.size)).get? (s.heap.objs.size+1)=some (W.instObj C s.heap.objs.size):=by
  have:=Q0o (s.heap.push W.emptyDict) (o:=W.instObj C s.heap.objs.size) rfl
  rwa [Q1s] at this
 have e3:(s.heap.push W.emptyDict).Ns s.heap.objs.size (λ_=>none):=⟨W.emptyDict,#[],_,J,rfl,(λe he=>absurd he (by simp)),λ_=>rfl⟩;have I1:=I.laid (a:=s.heap.objs.size) (o:=.own (s.heap.objs.size+1)) (h':=s.heap.push W.emptyDict) (t':=s.toks) (λb u q=>Q07 _ q) (Q00 _) ⟨_,J⟩;refine I1.laid (a:=s.heap.objs.size+1) (o:=.ins C s.heap.objs.size []) (t':=s.toks) (λb u q=>Q07 _ q) (Q1t (Q1s _ _)) ?_;have U:s.heap.objs.size≠s.heap.objs.size+1:=Q0a (Q10 _);refine⟨by rw[eu U,eF],Q04 _,U,Y,λ_=>none,(Heap.Ns1.of_empty e3).at λo q=>Q07 _ q,λ_=>True.intro,λy hy=>absurd rfl hy⟩
theorem zR {prog:Program}{w:World}{env:Env}{e:Expr}{f:Str}{pos:Pos}{s:Shared}{Q:Value->Shared->Prop}(J:attributeBase e f env (eval e env)=eval e env)
 (h:wpAny (model prog w) A (eval e env) (λo I=>wpAny (model prog w) A (getAttr o f true) Q E I) E s):wpAny (model prog w) A (eval (.Attribute e f pos) env) Q E s:=
 Attribute_any_ h (by rw[arm_eval_Attribute,J])
end
def zS (K:W.Frag) (ta:TE) (f:Str):TE:=λσ H Q=>ta σ H λx H1=>∃a C dx fs v,x=.ref a/\H1 a=some (.ins C dx fs)/\Cls K C/\mx K C f/\fs.lookup f=some v/\Q v H1
def Fc (K:W.Frag) (ta tv:TE) (f:Str):TS:=λD σ H=>tv σ H λy H1=>ta σ H1 λx H2=>∃a C dx fs,x=.ref a/\H2 a=some (.ins C dx fs)/\Cls K C/\mx K C f/\fs.length<1000/\
 D.nx σ (upd H2 a (.ins C dx (iJ f y fs)))
section
variable {X:Cx}{o e value:Expr}{f:Str}{pos pos' tpos:Pos}{ta tv:TE}
theorem zT (J:PE X e ta)(U:attributeBase e f X.env (eval e X.env)=eval e X.env):PE X (.Attribute e f pos) (zS X.K ta f):=by
 intro pins s σ H Q I h;refine zR U (e_ (J pins s σ H _ I h) λu s1 zq=>?_);obtain⟨x,H1,Y,rx,a,C,dx,fs,v,ex,ea,c,n,l,q⟩:=zq;subst ex;obtain rfl:u=Value.ref a:=rx;exact E9 Y ea c n l λu' s2 I2 ru=>⟨v,H1,I2,ru,q⟩
theorem Fe (J:PE X o ta)(U:PE X value tv)(Y:swapsWith value (some (.Attribute o f pos')) pos.line X.env=pure false):PS X (.Assign [.Attribute o f pos'] value pos) (Fc X.K ta tv f):=by
 intro pins s σ H D I h;refine plainObj_wpAny_Assign_Attribute (e_ (U pins s σ H _ I h) λu s1 ⟨y,H1,I1,ry,q⟩=>e_ (J pins s1 σ H1 _ I1 q) λov s2 zq=>?_) Y;obtain⟨x,H2,I2,rx,a,C,dx,fs,ex,ea,c,n,l,q2⟩:=zq;subst ex;obtain rfl:ov=Value.ref a:=rx;exact Fb I2 ea c n l ry λs3 I3=>⟨σ,_,I3,q2⟩
end
section
variable {X:Cx}{pins:List (Addr × Obj)}{σ:St}{H:Hp}{s:Shared}{A:Around}{E:Value->Shared->Prop}{Q:Value->Shared->Prop}{c:Value}{b:Bool}
inductive iP (K:W.Frag) (H:Hp):V->Value->Prop where
 |non:iP K H .non (.type "NoneType")
 |bl (x:Bool):iP K H (.bl x) (.type "bool")
 |int (i:Int):iP K H (.int i) (.type "int")
 |str (x:Str):iP K H (.str x) (.type "str")
 |flt (x:UInt64):iP K H (.flt x) (.type "float")
 |lst {a:Addr} {xs:List V} (e:H a=some (.lst xs)):iP K H (.ref a) (.type "list")
 |iI {a:Addr} {o:Obj} {xs:List V} (e:H a=some (.iI o (.lst xs))):iP K H (.ref a) (.type "list")
 |tup {a:Addr} {xs:List V} (e:H a=some (.tup xs)):iP K H (.ref a) (.type "tuple")
 |dK {a:Addr} {kvs:List (Key × V)} (e:H a=some (.dK kvs)):iP K H (.ref a) (.type "dict")
 |dT {a:Addr} {kvs:List (List Key × V)} (e:H a=some (.dT kvs)):iP K H (.ref a) (.type "dict")
 |ins {a C dx:Addr} {fs:List (Str × V)} (e:H a=some (.ins C dx fs)) (cl:Cls K C) (ha:W.findIn K (.ref C) "__class__"=some (some (.builtin "object.__class__")))
   (hn:W.specialIn K (.builtin "object.__class__") "__get__"=some (some (.builtin "getset_descriptor.__get__"))) (htk:W.takesIn K (.builtin "object.__class__")=some true)
   (hm:W.mroIn K C (.type "object")=some true):iP K H (.ref a) (.ref C)
theorem Ff {x:V}{u t:Value}(I:Inv X pins σ H s)(U:RelV x u)(ty:iP X.K H x t)(e:W.kitOne X.K t c=some b)(h:∀tk,Q (.bool b) { s with toks:=tk }):
 wpAny (model X.prog X.w) A (call (.builtin "isinstance") [u,c]) Q E s:=by
 cases ty with
 |non=>cases(show u=Value.none from U);exact W.kia_one W.kitx_none I.gG True.intro e (λz=>nomatch z) h
 |bl y=>cases(show u=Value.bool y from U);exact W.kia_one W.kitx_bool I.gG True.intro e (λz=>nomatch z) h
 |int i=>obtain⟨t,q⟩:=(show ∃t,u=Value.int i t from U);cases q;exact W.kia_one W.kitx_int I.gG True.intro e (λz=>nomatch z) h
 |str y=>obtain⟨t,q⟩:=(show ∃t,u=Value.str y t from U);cases q;exact W.kia_one W.kitx_str I.gG True.intro e (λz=>nomatch z) h
 |flt y=>obtain⟨t,q⟩:=(show ∃t,u=Value.float y t from U);cases q;exact W.kia_one W.kitx_float I.gG True.intro e (λz=>nomatch z) h
 |@lst a xs Y=>
  cases(show u=Value.ref a from U);obtain⟨_,_,n,_,h1⟩:=(show gC X.prog X.w H s.heap a (.lst xs) from I.hok a _ Y);exact W.kia_one W.kitx_list I.gG ⟨_,h1,rfl⟩ e (λz=>nomatch z) h
 |@iI a ob xs Y=>
  cases(show u=Value.ref a from U);obtain⟨_,_,_,n,_,h1⟩:=(show gC X.prog X.w H s.heap a (.iI ob (.lst xs)) from I.hok a _ Y);exact W.kia_one W.kitx_list I.gG ⟨_,h1,rfl⟩ e (λz=>nomatch z) h
 |@tup a xs Y=>
  cases(show u=Value.ref a from U);obtain⟨_,_,_,p⟩:=(show gC X.prog X.w H s.heap a (.tup xs) from I.hok a _ Y);obtain⟨o,h1,h2,_⟩:=p;exact W.kia_one W.kitx_tuple I.gG ⟨o,h1,h2⟩ e (λz=>nomatch z) h
 |@dK a kvs Y=>
  cases(show u=Value.ref a from U);obtain⟨_,_,vs,_,p⟩:=(show gC X.prog X.w H s.heap a (.dK kvs) from I.hok a _ Y);obtain⟨o,es,ep,h1,h2,_⟩:=p;exact W.kia_one W.kitx_dict I.gG ⟨o,h1,h2.1⟩ e (λz=>nomatch z) h
 |@dT a kvs Y=>
  cases(show u=Value.ref a from U);obtain⟨_,_,xs,_,o,es,ep,h1,h2,_⟩:=(show gC X.prog X.w H s.heap a (.dT kvs) from I.hok a _ Y);exact W.kia_one W.kitx_dict I.gG ⟨o,h1,h2.1⟩ e (λz=>nomatch z) h
 |@ins a C dx fs Y cl ha hn aa hm=>
  cases(show u=Value.ref a from U);obtain⟨mA,O,_⟩:=qz I.hok Y;obtain⟨od,J,_⟩:=O.look;exact W.kia_one (W.kitx_own (cl.get _) cl.hd ha hn aa hm) I.gG J e (λz=>nomatch z) h
end
structure fV (k:Nat) (A:Around):Prop where
 hd:A.handled=none
 dp:A.depth+3 * k+5<recursionLimit
 un:A.units+16 * k+200<cLine
theorem fV.mono {j k:Nat}{A:Around}(r:fV k A)(h:j<=k):fV j A:=⟨r.hd,by have:=r.dp;omega,by have:=r.un;omega⟩
theorem fV.deeper {k:Nat}{A:Around}(r:fV (k+1) A)(env:Env):fV k (A.deeper env):=
 ⟨r.hd,by have:=r.dp;show A.depth+1+3 * k+5<_;omega,by have:=r.un;show A.units+3+16 * k+200<_;omega⟩
theorem fV.in1 {k:Nat}{A:Around}(r:fV (k+1) A):fV k A.in1:=
 ⟨r.hd,by have:=r.dp;show A.depth+3 * k+5<_;omega,by have:=r.un;show A.units+1+16 * k+200<_;omega⟩
theorem Fg {A:Around}{C:Addr}{us:List Value}{I:List (Str × Value)}:(A.under (.builtin "type.__call__" ⟨.ref C::us,I⟩)).depth=A.depth+1:=by
 first|rfl|simp[Around.under,Code.weight,Code.isCreation,Code.isGuard,Code.isCaller,Code.frames,Code.isFrame,guardIds]
theorem Fh {A:Around}{C:Addr}{us:List Value}{I:List (Str × Value)}:(A.under (.builtin "type.__call__" ⟨.ref C::us,I⟩)).units=A.units+1:=by
 first|rfl|simp[Around.under,Code.cUnits,Code.frames,Code.isFrame]
theorem fV.make {k:Nat}{A:Around}(r:fV (k+1) A)(C:Addr)(us:List Value)(I:List (Str × Value)):fV k (A.under (.builtin "type.__call__" ⟨.ref C::us,I⟩)):=
 ⟨r.hd,by have:=r.dp;rw[Fg];omega,by have:=r.un;rw[Fh];omega⟩
theorem fV.depth {k:Nat}{A:Around}(r:fV k A):A.depth<recursionLimit:=by have:=r.dp;omega
theorem fV.units {k:Nat}{A:Around}(r:fV k A):A.units+64<cLine:=by have:=r.un;omega
theorem fV.zU {k:Nat}{A:Around}(r:fV k A):A.units<cLine:=by have:=r.un;omega
def iu:TA:=λ_ H Q=>Q [] H
def gy (ta:TE) (I:TA):TA:=λσ H Q=>ta σ H λx H1=>I σ H1 λxs H2=>Q (x::xs) H2
section
variable {X:Cx}{e:Expr}{es:List Expr}{te:TE}{t:TA}{pos:Pos}
theorem c_:PA X [] iu:=λ_ _ _ _ H Q I h=>Calls.spliced_nil ⟨[],H,I,.nil,h⟩
theorem a_ (J:PE X e te)(U:PA X es t)(Y:starEach (e::es) X.env=(false,eval e X.env)::starEach es X.env:=by rfl):PA X (e::es) (gy te t):=by
 intro pos pins s σ H Q I h;rw[Y];show wpAny _ _ (spliced ((false,eval e X.env)::backTo pos (starEach es X.env))) _ _ s;refine Calls.spliced_cons (e_ (J pins s σ H _ I h) λu s1 zq=>?_);obtain⟨x,H1,I1,r1,q1⟩:=zq;exact e_ (U pos pins s1 σ H1 _ I1 q1) λus s2 ⟨xs,H2,I2,r2,q2⟩=>⟨x::xs,H2,I2,.cons r1 r2,q2⟩
def oS (t:TA):TE:=λσ H Q=>t σ H λxs H1=>xs.length<=sizeLine/\∀p,H1 p=none->Q (.ref p) (upd H1 p (.tup xs))
def zV (t:TA):TE:=λσ H Q=>t σ H λxs H1=>xs.length<=sizeLine/\∀p,H1 p=none->Q (.ref p) (upd H1 p (.lst xs))
theorem gc {Y}(h:PA X es t):PE X (.Tuple es Y pos) (oS t):=by
 intro pins s σ H Q I hq;refine wpAny_Tuple_spliced (e_ (h pos pins s σ H _ I hq) λus J ⟨xs,H1,U,r,z,q⟩=>⟨by rw[<-r.length];exact z,?_⟩);have hf:H1 J.heap.objs.size=none:=U.hok.fresh (Q00 _);refine⟨.ref J.heap.objs.size,upd H1 J.heap.objs.size (.tup xs),U.laid (t':=J.toks) (λb u e=>Q07 _ e) (Q00 _) ?_,rfl,q _ hf⟩;exact⟨z,us,r,⟨_,Q0o _ rfl,rfl,_,rfl⟩⟩
theorem fY (h:PA X es t):PE X (.List es pos) (zV t):=by
 intro pins s σ H Q I Y;refine wpAny_List_spliced (e_ (h pos pins s σ H _ I Y) λus J ⟨xs,H1,U,r,z,q⟩=>⟨by rw[<-r.length];exact z,?_⟩);have hf:H1 J.heap.objs.size=none:=U.hok.fresh (Q00 _);refine⟨.ref J.heap.objs.size,upd H1 J.heap.objs.size (.lst xs),U.laid (t':=J.toks) (λb u e=>Q07 _ e) (Q00 _) ?_,rfl,q _ hf⟩;exact⟨z,us,0,r,Q0o _ rfl⟩
end
noncomputable abbrev Sp:=List V->Hp->VK->XK->Prop
noncomputable abbrev i8:=List Env->Hp->Shared->XK->Value->Shared->Prop
structure my (P:Program) (w:World) (K:W.Frag) (mg:Str->Option Value) (base:Heap) (A:Around) (outer:List Env) (s:Shared) (H:Hp):Prop where
 frames:A.frames=some outer
 mod:Mod K mg base
 bs:∀b o,base.get? b=some o->s.heap.get? b=some o/\H b=none
 jh:base.objs.size<=s.heap.objs.size
 iN:s.heap.FunFrames base outer
 j1:∀b∈frs outer,H b=none
 hok:gw P w H s.heap
 bare:AllBare s.gens
def CE (outer:List Env) (P:Program) (w:World) (H:Hp) (s:Shared) (Q:VK) (u:Value) (s':Shared):Prop:=
 ∃v H',s'.os=s.os/\AllBare s'.gens/\Un (frs outer) [] H H' s.heap s'.heap/\gw P w H' s'.heap/\RelV v u/\Q v H'
def CR (CX:i8) (outer:List Env) (P:Program) (w:World) (H:Hp) (s:Shared) (Q:VK) (E:XK) (r:Result) (s':Shared):Prop:=
 match r with
 | .ok (.ret u)=>CE outer P w H s Q u s'
 | .ok _=>False
 | .error e=>CX outer H s E e s'
structure eE (P:Program) (w:World) (K:W.Frag) (mg:Str->Option Value) (base:Heap) (CX:i8) (k:Nat) (f:Addr) (fd:FuncData) (ps:List Str) (sp:Sp):Prop where
 len:∀vs H Q E,sp vs H Q E->vs.length=ps.length
 run:∀(A:Around) (outer:List Env) (s:Shared) (H:Hp) (args:Args) (us:List Value) (vs:List V) (Q:VK) (E:XK),fV k A->my P w K mg base A outer s H->BindsTo s fd args (ps.zip us)->Vals vs us->sp vs H Q E->
  codeAny (model P w) A (.call (.ref f) args) (CR CX outer P w H s Q E) s
theorem eE.mono {P:Program}{w:World}{K:W.Frag}{mg:Str->Option Value}{base:Heap}{CX:i8}{j k:Nat}{f:Addr}{fd:FuncData}{ps:List Str}{sp:Sp}(F:eE P w K mg base CX j f fd ps sp)(h:j<=k):
 eE P w K mg base CX k f fd ps sp:=⟨F.len,λA outer s H args us vs Q E I=>F.run A outer s H args us vs Q E (I.mono h)⟩
theorem eE.imp {P:Program}{w:World}{K:W.Frag}{mg:Str->Option Value}{base:Heap}{CX:i8}{k:Nat}{f:Addr}{fd:FuncData}{ps:List Str}{sp I:Sp}(F:eE P w K mg base CX k f fd ps sp)
 (h:∀vs H Q E,I vs H Q E->sp vs H Q E):eE P w K mg base CX k f fd ps I:=
 ⟨λvs H Q E q=>F.len vs H Q E (h _ _ _ _ q),λA outer s H args us vs Q E J U Y hv hs=>F.run A outer s H args us vs Q E J U Y hv (h _ _ _ _ hs)⟩
theorem my.make {P:Program}{w:World}{K:W.Frag}{mg:Str->Option Value}{base:Heap}{A:Around}{outer:List Env}{s:Shared}{H:Hp}(e:my P w K mg base A outer s H)(C:Addr)(us:List Value)(I:List (Str × Value)):
 my P w K mg base (A.under (.builtin "type.__call__" ⟨.ref C::us,I⟩)) outer s H:=⟨by first|exact e.frames|(simpa[Around.under,Code.envs,Code.isFrame,pushEnvs] using e.frames),e.mod,e.bs,e.jh,e.iN,e.j1,e.hok,e.bare⟩
section
variable {X:Cx}{pins:List (Addr × Obj)}{σ:St}{H:Hp}{s s':Shared}
theorem Inv.env0 (I:Inv X pins σ H s):my X.prog X.w X.K X.mg X.base X.A X.stack s H:=
 ⟨I.ok.frames,I.ok.mod,I.bs,Q0e I.ok.jh I.sz,I.stack,I.oM,I.hok,I.bare⟩
theorem Inv.after {Q:VK}{u:Value}(I:Inv X pins σ H s)(h:CE X.stack X.prog X.w H s Q u s'):EP X pins σ Q u s':=by
 obtain⟨v,H',os,J,un,U,r,q⟩:=h;obtain⟨hh,g,d,t,Y⟩:=s';obtain rfl:Y=s.os:=os;exact⟨v,H',I.call (h':=hh) (g':=g) (d':=d) (t':=t) (ch:=[]) un U J (λb z=>absurd z (by simp)),r,q⟩
end
def jw (sp:Sp) (iw:List V) (E:XK) (t:TA):TE:=λσ H Q=>t σ H λvs H1=>sp (vs++iw) H1 Q E
def Fi (C:Addr) (m:Str) (sp:Sp) (iw:List V) (E:XK) (ta:TE) (t:TA):TE:=λσ H Q=>ta σ H λx H1=>∃a dx fs,x=.ref a/\H1 a=some (.ins C dx fs)/\fs.lookup m=none/\
 t σ H1 λvs H2=>sp (x::(vs++iw)) H2 Q E
def Fj (C:Addr) (sp:Sp) (iw:List V) (E:XK) (t:TA):TE:=λσ H Q=>t σ H λvs H1=>∀x dx,H1 x=none->H1 dx=none->dx≠x->
 sp (.ref x::(vs++iw)) (upd (upd H1 dx (.own x)) x (.ins C dx [])) (λv H2=>v=.non/\Q (.ref x) H2) E
def Binds (K:W.Frag) (fd:FuncData) (ps:List Str) (ds:List Value):Prop:=
 ∀(s:Shared) (us:List Value),K.In s.heap->(us++ds).length=ps.length->BindsTo s fd ⟨us,[]⟩ (ps.zip (us++ds))
theorem Binds.all {K:W.Frag}{fd:FuncData}{ps:List Str}(h:∀us:List Value,us.length=ps.length->bindArgs fd ⟨us,[]⟩=pure (ps.zip us)):Binds K fd ps []:=λs us _ hl=>by
 rw[Q0y] at hl ⊢;exact .of_eq (h us hl)
def Passes (CX:i8) (X:Cx) (E:XK):Prop:=∀(pins:List (Addr × Obj)) (σ:St) (H:Hp) (s:Shared) (e:Value) (s':Shared),Inv X pins σ H s->CX X.stack H s E e s'->X.xe e s'
section
variable {X:Cx}{CX:i8}{k:Nat}{f C:Addr}{fd:FuncData}{ps:List Str}{sp:Sp}{iw:List V}{ds:List Value}{E:XK}{x m:Str}{p pos apos:Pos}{e o:Expr}{es:List Expr}{ta:TE}{t:TA}
theorem Fk {pins:List (Addr × Obj)}{σ:St}{H:Hp}{s:Shared}{Q:VK}{us:List Value}{vs:List V}(F:eE X.prog X.w X.K X.mg X.base CX k f fd ps sp)(Y:fV k X.A)(hb:Binds X.K fd ps ds)(hd:Vals iw ds)(hx:Passes CX X E)
 (I:Inv X pins σ H s) (r:Vals vs us) (h:sp (vs++iw) H Q E):wpAny (model X.prog X.w) X.A (call (.ref f) us) (EP X pins σ Q) X.xe s:=by
 have U:Vals (vs++iw) (us++ds):=r.append hd;have hl:(us++ds).length=ps.length:=by rw[<-U.length];exact F.len _ _ _ _ h
 refine wpAny_call (codeAny_mono (F.run X.A X.stack s H ⟨us,[]⟩ (us++ds) (vs++iw) Q E Y I.env0 (hb s us I.gG hl) U h) λr s' J=>?_)
 cases r with
 |error e=>exact hx pins σ H s e s' I J
 |ok fl=>
  cases fl with
  |ret u=>exact I.after J
  |next=>exact False.elim J
  |brk=>exact False.elim J
  |cont=>exact False.elim J
theorem nA (F:eE X.prog X.w X.K X.mg X.base CX k f fd ps sp)(hr:fV k X.A)(hg:Gl X x)(hm:X.mg x=some (.ref f))(hk:W.keepIn X.K (.ref f)=true)(hb:Binds X.K fd ps ds)(hd:Vals iw ds)(hx:Passes CX X E)
 (ha:PA X (e::es) t) (J:(x == ("__debug__":Str))=false:=by decide) (he:starEach (e::es) X.env=(false,eval e X.env)::starEach es X.env:=by rfl) (U:(backTo pos (starEach es X.env)).any (·.1)=false:=by rfl):
 PE X (.Call (.Name x p) (e::es) [] pos) (jw sp iw E t):=by
 intro pins s σ H Q I h;refine wpAny_Call_Name_kw (qf I hg hm ?_ J);refine W.callWith_K (h₀:=X.base) I.ok.mod.nh hk (e_ (ha pos pins s σ H _ I h) λus s1 ⟨vs,H1,Y,r,q⟩=>⟨Y.gG,?_⟩) he U;exact Fk F hr hb hd hx Y r q
structure Mk (K:W.Frag) (C f:Addr):Prop where
 makes:W.makesIn K C=true
 init:W.findIn K (.ref C) "__init__"=some (some (.ref f))
 fn:W.isFn K (.ref f)=true
 kp:W.keepIn K (.ref C)=true
theorem Fl {pins:List (Addr × Obj)}{σ:St}{H:Hp}{s:Shared}{Q:VK}{us:List Value}{vs:List V}(M:Mk X.K C f)(F:eE X.prog X.w X.K X.mg X.base CX k f fd ps sp)(hr:fV (k+1) X.A)(hb:Binds X.K fd ps ds)(hd:Vals iw ds)
 (hx:Passes CX X E) (I:Inv X pins σ H s) (r:Vals vs us)
 (h:∀x dx,H x=none->H dx=none->dx≠x->sp (.ref x::(vs++iw)) (upd (upd H dx (.own x)) x (.ins C dx [])) (λv H2=>v=.non/\Q (.ref x) H2) E):
 wpAny (model X.prog X.w) X.A (call (.ref C) us) (EP X pins σ Q) X.xe s:=by
 have Y:=h (s.heap.objs.size+1) s.heap.objs.size (I.hok.fresh (Q1b _)) (I.hok.fresh (Q00 _)) (Q0a (Q10 _));have U:=Inv.made (C:=C) I;have r2:Vals (V.ref (s.heap.objs.size+1)::(vs++iw)) (Value.ref (s.heap.objs.size+1)::(us++ds)):=.cons rfl (r.append hd)
 have hl:(Value.ref (s.heap.objs.size+1)::us++ds).length=ps.length:=by
  have e:=r2.length;rw[F.len _ _ _ _ Y] at e;exact e.symm
 refine wpAny_call (E8 (f:=f) I.gG M.makes M.init (beq_iff_eq.mp M.fn) (codeAny_mono (F.run _ X.stack _ _ ⟨Value.ref (s.heap.objs.size+1)::us,[]⟩ (Value.ref (s.heap.objs.size+1)::(us++ds)) _ _ E (hr.make C us [])
  (U.env0.make C us []) (hb _ (Value.ref (s.heap.objs.size+1)::us) U.gG hl) r2 Y) λr s' J=>?_))
 cases r with
 |error e=>exact hx pins σ _ _ e s' U J
 |ok fl=>
  cases fl with
  |ret u=>
   obtain⟨v,H',I3,rv,ev,q3⟩:=U.after J;subst ev;exact⟨rv,⟨V.ref (s.heap.objs.size+1),H',I3,rfl,q3⟩⟩
  |next=>exact False.elim J
  |brk=>exact False.elim J
  |cont=>exact False.elim J
theorem Fm (M:Mk X.K C f)(F:eE X.prog X.w X.K X.mg X.base CX k f fd ps sp)(hr:fV (k+1) X.A)(hg:Gl X x)(hm:X.mg x=some (.ref C))(hb:Binds X.K fd ps ds)(hd:Vals iw ds)(hx:Passes CX X E)
 (ha:PA X (e::es) t) (J:(x == ("__debug__":Str))=false:=by decide) (he:starEach (e::es) X.env=(false,eval e X.env)::starEach es X.env:=by rfl) (U:(backTo pos (starEach es X.env)).any (·.1)=false:=by rfl):
 PE X (.Call (.Name x p) (e::es) [] pos) (Fj C sp iw E t):=by
 intro pins s σ H Q I h;refine wpAny_Call_Name_kw (qf I hg hm ?_ J);refine W.callWith_K (h₀:=X.base) I.ok.mod.nh M.kp (e_ (ha pos pins s σ H _ I h) λus s1 ⟨vs,H1,Y,r,q⟩=>⟨Y.gG,?_⟩) he U;exact Fl M F hr hb hd hx Y r q
end
section
variable {X:Cx}{CX:i8}{k:Nat}{f C:Addr}{fd:FuncData}{ps ks:List Str}{sp:Sp}{E:XK}{x m:Str}{p pos apos kpos:Pos}{e o:Expr}{es:List Expr}{kws:List Keyword}{te ta:TE}{t tk:TA}{nm:Option Str}
variable {g:List Value->List Value->List Value}{gV:List V->List V->List V}
end
structure fG (N P:List Str) (sc:Scope):Prop where
 kind:sc.kind=.function
 co:sc.isCoroutine=false
 gen:sc.isGenerator=false
 nd:N.Nodup
 pre:N.take P.length=P
 par:∀x∈P,sc.names.lookup x=some .local\/sc.names.lookup x=some .cell
 Fn:∀y∈sc.names,y.2≠ .free
theorem K7 {N Q:List Str}{sc:Scope}(h1:sc.kind=.function:=by rfl)(h2:sc.isCoroutine=false:=by rfl)(I:sc.isGenerator=false:=by rfl)(J:N.Nodup:=by decide +kernel)(U:N.take Q.length=Q:=by rfl)(Y:∀x∈Q,sc.names.lookup x=some .local\/sc.names.lookup x=some .cell:=by decide +kernel)(h7:∀y∈sc.names,y.2≠ .free:=by decide +kernel):fG N Q sc:=⟨h1,h2,I,J,U,Y,h7⟩
theorem zW {kindOf:Str->Option NameKind}{x:Str}:∀{binds:List (Str × Value)}{m:Str->Option Value},(∀v,(x,v) ∉ binds)->bindL kindOf binds m x=m x
 |[],_,_=>rfl
 |(n,v)::r,m,h=>by
  unfold bindL;rw[zW λw hw=>h w (Q0b _ hw)];split
  . have:x≠n:=by rintro rfl;exact h v Q06
    simp[this]
  . rfl
theorem zX {kindOf:Str->Option NameKind}{x:Str}:∀{binds:List (Str × Value)}{m:Str->Option Value},(∀v,(x,v) ∉ binds)->bindC kindOf binds m x=m x
 |[],_,_=>rfl
 |(n,v)::r,m,h=>by
  unfold bindC;rw[zX λw hw=>h w (Q0b _ hw)];split
  . rfl
  . have:x≠n:=by rintro rfl;exact h v Q06
    simp[this]
theorem zY {kindOf:Str->Option NameKind}{x:Str}{v:Value}:∀{P:List Str}{vs:List Value}{i:Nat}{m:Str->Option Value},P.Nodup->P[i]? =some x->vs[i]? =some v->kindOf x=some .local->
 bindL kindOf (P.zip vs) m x=some v
 |[],_,_,_,_,h,_,_=>by simp at h
 |_::_,[],_,_,_,_,h,_=>by simp at h
 |p::P,w::vs,0,m,I,h1,h2,J=>by
  simp at h1 h2;subst h1;subst h2;show bindL kindOf ((p,w)::P.zip vs) m p=_;unfold bindL;rw[zW λv U=>(List.nodup_cons.mp I).1 (Q27 U).1,if_pos J];simp
 |p::P,w::vs,i+1,m,I,h1,h2,J=>by
  show bindL kindOf ((p,w)::P.zip vs) m x=_;unfold bindL;exact zY (i:=i) (List.nodup_cons.mp I).2 (by simpa using h1) (by simpa using h2) J
theorem zZ {kindOf:Str->Option NameKind}{x:Str}{v:Value}:∀{P:List Str}{vs:List Value}{i:Nat}{m:Str->Option Value},P.Nodup->P[i]? =some x->vs[i]? =some v->kindOf x≠some .local->
 bindC kindOf (P.zip vs) m x=some v
 |[],_,_,_,_,h,_,_=>by simp at h
 |_::_,[],_,_,_,_,h,_=>by simp at h
 |p::P,w::vs,0,m,I,h1,h2,J=>by
  simp at h1 h2;subst h1;subst h2;show bindC kindOf ((p,w)::P.zip vs) m p=_;unfold bindC;rw[zX λv U=>(List.nodup_cons.mp I).1 (Q27 U).1,if_neg J];simp
 |p::P,w::vs,i+1,m,I,h1,h2,J=>by
  show bindC kindOf ((p,w)::P.zip vs) m x=_;unfold bindC;exact zZ (i:=i) (List.nodup_cons.mp I).2 (by simpa using h1) (by simpa using h2) J
noncomputable def start (N:List Str) (vs:List V):St:=vs.map some++List.replicate (N.length - vs.length) none
noncomputable def fw (CX:i8) (P:Program) (w:World) (K:W.Frag) (mg:Str->Option Value) (base:Heap) (N:List Str) (qual:Str) (scope:Scope) (f:Addr) (J:Value) (A:Around) (outer:List Env) (s:Shared) (H:Hp) (E:XK):Cx where
 prog:=P
 w:=w
 K:=K
 mg:=mg
 base:=base
 A:=A.deeper (envOfC qual scope s.heap.objs.size f J)
 N:=N
 s₀:=s
 H₀:=H
 env:=envOfC qual scope s.heap.objs.size f J
 outer:=outer
 stack:=envOfC qual scope s.heap.objs.size f J::outer
 ex:=[]
 calm:=true
 fn:=λ_=>true
 pn:=[]
 xe:=λe s'=>wpAny (model P w) (A.deeper (envOfC qual scope s.heap.objs.size f J)) (leaving (envOfC qual scope s.heap.objs.size f J) e) (λ_ I=>CX outer H s E e I) (λU I=>CX outer H s E U I) s'
theorem z7 {sc:Scope}{n:Nat}{x:Str}(h:sc.names.lookup x=some .cell):∃c,(cellsFrom n sc.names []).lookup x=some c:=by
 have q:=W.cellsFrom_some sc.names n [] (.inl h);exact Option.isSome_iff_exists.mp q
theorem Fo {CX:i8}{P:Program}{w:World}{K:W.Frag}{mg:Str->Option Value}{base:Heap}{N ps:List Str}{qual:Str}{scope:Scope}{f:Addr}{cd:Value}{A:Around}{outer:List Env}{s s1:Shared}{H:Hp}{E:XK}{us:List Value}{vs:List V}
 (S:fG N ps scope) (hd:A.handled=none) (I:my P w K mg base A outer s H) (hl:vs.length=ps.length) (r:Vals vs us)
 (x:InCallC s s.heap.objs.size (bindL (envOfC qual scope s.heap.objs.size f cd).kindOf (ps.zip us) λ_=>none) (cellsFrom (s.heap.objs.size+1) scope.names []) (bindC (envOfC qual scope s.heap.objs.size f cd).kindOf (ps.zip us) λ_=>none) s1):
 Inv (fw CX P w K mg base N qual scope f cd A outer s H E) [] (start N vs) H s1:=by
 have aa:ps.length<=N.length:=by have:=congrArg List.length S.pre;rw[Q0l] at this;omega
 obtain⟨h1,tk,rfl,hk⟩:=x.done;have U:∀b:Addr,b ∉ (fw CX P w K mg base N qual scope f cd A outer s H E).ex:=λb z=>absurd (show b∈([]:List Addr) from z) (by simp)
 refine⟨⟨I.mod,S.kind,rfl,rfl,Q00 _,λy z c h1 h2=>?_,λy J=>?_,λy c _ h=>?_,λ_=>hd,Around.frames_deeper I.frames,.inr ⟨rfl,rfl⟩,λb z=>absurd z (U b),I.bs,I.jh,λb _ _=>U b,λb z=>absurd z (U b),I.iN,I.j1⟩,
  rfl,I.bare,Un.kept hk,⟨_,x.toInCall.ns,λi y v h1 h2 h3=>?_⟩,λy c h=>⟨_,x.cell y c h⟩,I.hok.fresh (Q00 _),λy c h=>?_,λp hp=>absurd (show p∈([]:List (Addr × Obj)) from hp) (by simp),I.hok.kept hk,?_⟩
 . exact name_of_addr x.apart (PySem.mem_of_lookup h1) (PySem.mem_of_lookup h2)
 . have J:scope.names.lookup y=some .cell\/scope.names.lookup y=some .free:=J;rcases J with J|J
   . exact z7 J
   . exact absurd rfl (S.Fn _ (PySem.mem_of_lookup J))
 . exact Q0k (x.above y c (PySem.mem_of_lookup h))
 . have hi:i<vs.length:=by
    unfold start at h2;by_cases hi:i<vs.length
    . exact hi
    . rw[Q14 (by simpa using hi)] at h2;rw[Q2s] at h2;split at h2 <;> cases h2
   have ha:vs[i]? =some v:=by
    unfold start at h2;rw[Q1u (by simpa using hi),Q0r] at h2
    cases e:vs[i]? with
    |none=>rw[e] at h2;cases h2
    |some a=>rw[e] at h2;cases h2;rfl
   obtain⟨u,hu,rv⟩:=r.get ha
   have hp:ps[i]? =some y:=by
    rw[<-S.pre,List.getElem?_take_of_lt (by omega)];exact h1
   have Y:ps.Nodup:=by rw[<-S.pre];exact S.nd.sublist (Q1f _ _)
   refine⟨u,rv,?_⟩;rcases S.par y (Q0p hp) with k|k
   . exact .inl ⟨k,zY Y hp hu k⟩
   . obtain⟨c,e⟩:=z7 (n:=s.heap.objs.size+1) k;refine .inr ⟨.inl k,c,e,?_⟩;have q:=x.cell y c e;rw[zZ Y hp hu (by show scope.names.lookup y≠_;rw[k];decide)] at q;exact q
 . exact I.hok.fresh (Q0k (x.above y c (PySem.mem_of_lookup h)))
 . unfold start;show _=N.length;rw[Q05,Q03,Q1v];omega
theorem sV {CX:i8}{P:Program}{w:World}{K:W.Frag}{mg:Str->Option Value}{base:Heap}{k:Nat}{f:Addr}{name qual:Str}{Y:Arguments}{body:List Stmt}{scope:Scope}{dV kV ae pm U ct oc:Value}{an od:Option Addr}
 {ag:Array (Option Value)} {N ps:List Str} {sp:Sp} (lk:K.lookup f=some ⟨oc,od,.func (W.fnOf name qual Y body scope dV kV ae pm an U ct),ag⟩) (ah:W.codeIn K U qual=true) (S:fG N ps scope)
 (len:∀vs H Q E,sp vs H Q E->vs.length=ps.length)
 (ab:∀(A:Around) (outer:List Env) (s:Shared) (H:Hp) (vs:List V) (Q:VK) (E:XK),fV k (A.deeper (envOfC qual scope s.heap.objs.size f U))->sp vs H Q E->
   ∃t,iD (fw CX P w K mg base N qual scope f U A outer s H E) body t/\t { nx:=λ_ H'=>Q .non H',rt:=Q } (start N vs) H):
 eE P w K mg base CX (k+1) f (W.fnOf name qual Y body scope dV kV ae pm an U ct) ps sp:=by
 refine⟨len,λA outer s H args us vs Q E hr e0 hb r af=>?_⟩;have hl:=len _ _ _ _ af;have KX:K.In s.heap:=e0.mod.nh.keeps λb o e=>(e0.bs b o e).1;have ai:s.heap.NoLimit:=e0.mod.nolimit.keeps λb o e=>(e0.bs b o e).1
 have ac:∀y∈ps.zip us,scope.names.lookup y.1=some .local\/(scope.names.lookup y.1=some .cell/\((cellsFrom (s.heap.objs.size+1) scope.names []).lookup y.1).isSome=true):=λ⟨n,v⟩ hy=>by
  rcases S.par n (Q27 hy).1 with q|q
  . exact .inl q
  . exact .inr ⟨q,W.cellsFrom_some _ _ _ (.inl q)⟩
 refine codeAny_call_function hr.depth (KX _ _ lk) rfl S.co S.gen rfl (W.codeRec_of KX ah) (hb _ _ _ _ ?_);refine wpAny_newFunctionEnv_cells S.kind ac λenv he s1 x=>?_;subst he;refine⟨ai.keeps x.toInCall.keep,codeAny_func ?_⟩;obtain⟨t,ht,hq⟩:=ab A outer s H vs Q E (hr.deeper _) af;have I:Inv (fw CX P w K mg base N qual scope f U A outer s H E) [] (start N vs) H s1:=Fo S hr.hd e0 hl r x;refine Q0n (ht [] s1 (start N vs) H _ I hq) (λfl s' hs=>?_) λe s' hs=>hs
 have fin:∀{aa:St} {H':Hp} {v:V} {u:Value},Inv (fw CX P w K mg base N qual scope f U A outer s H E) [] aa H' s'->RelV v u->Q v H'->CE outer P w H s Q u s':=
  λ{aa H' v u} J rv q=>⟨v,H',J.os,J.bare,J.base,J.hok,rv,q⟩
 cases fl with
 |ret u=>
  obtain⟨v,aa,H',J,rv,q⟩:=hs;exact fin J rv q
 |next=>
  obtain⟨aa,H',J,q⟩:=hs;exact fin (v:=V.non) (u:=Value.none) J rfl q
 |brk=>
  obtain⟨_,_,_,q⟩:=hs;exact False.elim q
 |cont=>
  obtain⟨_,_,_,q⟩:=hs;exact False.elim q
section
variable {X:Cx}{x:Str}{p pos:Pos}{e:Expr}{es:List Expr}{t:TA}{id T:String}{r:List V->Hp->VK->Prop}
def sW (r:List V->Hp->VK->Prop) (t:TA):TE:=λσ H Q=>t σ H λvs H1=>r vs H1 Q
theorem fA (hc:ji X (.builtin id) r)(Y:Gl X x)(hm:X.mg x=none)(hv:bootBuiltins x=some (.builtin id))(ha:PA X (e::es) t)(hn:x≠"__name__":=by decide)(J:(x == ("__debug__":Str))=false:=by decide)
 (he:starEach (e::es) X.env=(false,eval e X.env)::starEach es X.env:=by rfl) (U:(backTo pos (starEach es X.env)).any (·.1)=false:=by rfl):PE X (.Call (.Name x p) (e::es) [] pos) (sW r t):=by
 intro pins s σ H Q I h;refine wpAny_Call_Name_kw (l_ I Y hm hv ?_ hn J);exact PyProof.Rows.callWith_builtin1 (e_ (ha pos pins s σ H _ I h) λus s1 ⟨vs,H1,I1,r1,q1⟩=>hc pins s1 σ H1 vs us Q I1 r1 q1) he U
theorem oU (hc:ji X (.type T) r)(Y:Gl X x)(hm:X.mg x=none)(hv:bootBuiltins x=some (.type T))(ha:PA X (e::es) t)(hn:x≠"__name__":=by decide)(J:(x == ("__debug__":Str))=false:=by decide)
 (he:starEach (e::es) X.env=(false,eval e X.env)::starEach es X.env:=by rfl) (U:(backTo pos (starEach es X.env)).any (·.1)=false:=by rfl):PE X (.Call (.Name x p) (e::es) [] pos) (sW r t):=by
 intro pins s σ H Q I h;refine wpAny_Call_Name_kw (l_ I Y hm hv ?_ hn J);exact PyProof.Rows.callWith_type1 (e_ (ha pos pins s σ H _ I h) λus s1 ⟨vs,H1,I1,r1,q1⟩=>hc pins s1 σ H1 vs us Q I1 r1 q1) he U
end
end L2
local macro_rules|`(tactic|ac_rfl)=>`(tactic|try dsimp only[L2.fw,L2.Cx.fB])
namespace HT
open PyProof.Rows
section
open SeqAt
open PySem.AutoSeq1 (wpAny_loadPart')
open MeetsSeq MeetsSeq2 MeetsSeq3
end
section
variable {prog:Program}{w:World}{A:Around}{E:Value->Shared->Prop}{s:Shared}
theorem Fp {t b:Addr}{vs ws:List Value}{Q:Value->Shared->Prop}(ht:IsTup s.heap t vs.toArray)(hb:IsTup s.heap b ws.toArray)(hv:vs≠[])
 (h1:ws=[]->Q (.ref t) s) (h2:ws≠[]->Q (.ref s.heap.objs.size) { s with heap:=s.heap.push { cls:=.type "tuple",data:=.seq (vs++ws).toArray } })
 (hsz:vs.length+ws.length<=sizeLine):wpAny (model prog w) A (binaryOp .Add (.ref t) (.ref b)) Q E s:=by
 obtain⟨⟨cls,dd,data,sl⟩,ho,hc,n,hd⟩:=id ht;obtain⟨⟨ab,J,data2,U⟩,I,Y,n2,aa⟩:=id hb;simp only at hc hd Y aa;subst hc hd Y aa;have e:vs.toArray++ws.toArray=(vs++ws).toArray:=by simp
 by_cases hw:ws=[]
 . exact concat_meets ⟨_,ho,rfl⟩ ⟨_,I,rfl⟩ noFill_tuple_add seq_tuple_add PySem.F.slot_tuple_add PySem.F.entry_tuple_add (PySem.F.args_tuple_add_2 _ _)
    (tuple_addW1 t b vs.toArray ws.toArray n n2 dd J sl U (by simpa using hv) (by simp[hw])) ⟨ho,I,h1 hw⟩
 . refine concat_meets ⟨_,ho,rfl⟩ ⟨_,I,rfl⟩ noFill_tuple_add seq_tuple_add PySem.F.slot_tuple_add PySem.F.entry_tuple_add (PySem.F.args_tuple_add_2 _ _)
    (tuple_addW2 t b vs.toArray ws.toArray n n2 dd J sl U (by simpa using hv) (by simpa using hw) (by rw[Q0f,Q0f];exact hsz)) ⟨ho,I,?_⟩
   rw[e];exact h2 hw
noncomputable def iE (n d:Nat):Option Int->Nat
 |none=>d
 |some v=>if v<0 then(v+(n:Int)).toNat else min v.toNat n
theorem z8 (n d:Nat):iE n d none=d:=rfl
theorem z9 (n d k:Nat):iE n d (some (k:Int))=min k n:=by
 show(if(k:Int)<0 then((k:Int)+(n:Int)).toNat else min (k:Int).toNat n)=min k n;rw[if_neg (by omega),Q1w]
end
end HT
namespace L2
open Spec PyProof.Rows
noncomputable abbrev TO:=St->Hp->(Option Int->Hp->Prop)->Prop
def PO (X:Cx) (e:Option Expr) (t:TO):Prop:=
 ∀(pins:List (Addr × Obj)) (s:Shared) (σ:St) (H:Hp) (Q:Option Int->Hp->Prop),Inv X pins σ H s->t σ H Q->
  wpAny (model X.prog X.w) X.A (evalPart e X.env) (λu s'=>∃o H',Inv X pins σ H' s'/\IsPart u o/\Q o H') X.xe s
def sX:TO:=λ_ H Q=>Q none H
def sY (t:TE):TO:=λσ H Q=>t σ H λx H1=>∃i,x=.int i/\Q (some i) H1
section
variable {X:Cx}{e:Expr}{te:TE}{lo hi:Option Expr}{tl th:TO}{pos p2:Pos}
theorem iQ:PO X none sX:=by
 intro pins s σ H Q I h;rw[evalPart_none];exact Q0c ⟨none,H,I,.none,h⟩
theorem iR (h:PE X e te):PO X (some e) (sY te):=by
 intro pins s σ H Q I hw;rw[evalPart_some];refine e_ (h pins s σ H _ I hw) λu s1 zq=>?_;obtain⟨x,H1,J,U,Y⟩:=zq;obtain⟨i,rfl,q⟩:=Y;obtain⟨t,rfl⟩:=U;exact⟨some i,H1,J,.int i t,q⟩
def sZ (X:Cx) (r:V->Option Int->Option Int->Hp->VK->Prop):Prop:=
 ∀(pins:List (Addr × Obj)) (s:Shared) (σ:St) (H:Hp) (x:V) (v I J:Value) (lo hi:Option Int) (U:Addr) (Q:VK),Inv X pins σ H s->RelV x v->s.heap.IsSliceOf U I J .none->IsPart I lo->IsPart J hi->r x lo hi H Q->
  ∃T id,typeLookup (.type T) "__getitem__"=pure (some (.builtin id))/\s.TypeIs v T/\wpAny (model X.prog X.w) X.A (getItem v (.ref U)) (EP X pins σ Q) X.xe s
def s_ (r:V->Option Int->Option Int->Hp->VK->Prop) (te:TE) (tl th:TO):TE:=λσ H Q=>te σ H λx H1=>tl σ H1 λl H2=>th σ H2 λu I=>r x l u I Q
theorem iS {r:V->Option Int->Option Int->Hp->VK->Prop}(hr:sZ X r)(he:PE X e te)(hl:PO X lo tl)(hu:PO X hi th):PE X (.Subscript e (.Slice lo hi none p2) pos) (s_ r te tl th):=by
 intro pins s σ H Q I h;refine Subscript_ (e_ (he pins s σ H _ I h) λv s1 zq=>?_);obtain⟨x,H1,I1,r1,q1⟩:=zq;refine wpAny_Slice (e_ (hl pins s1 σ H1 _ I1 q1) λU s2 ⟨l,H2,I2,pl,q2⟩=>e_ (hu pins s2 σ H2 _ I2 q2) λY J zq=>?_);obtain⟨u,H3,I3,pu,q3⟩:=zq;rw[evalPart_none];refine Q0c ?_;have I4:Inv X pins σ H3 { J with heap:=J.heap.push { cls:=.type "slice",data:=.fields #[U,Y,.none] } }:=I3.kept (t':=J.toks) λb ob q=>Q07 _ q;obtain⟨T,id,hT,ht,hg⟩:=hr pins { J with heap:=J.heap.push { cls:=.type "slice",data:=.fields #[U,Y,.none] } } σ H3 x v U Y l u J.heap.objs.size Q I4 r1 (Heap.IsSliceOf.new ..) pl pu q3;show wpAny (model X.prog X.w) X.A (subscriptTail e (.Slice lo hi none p2) v (.ref J.heap.objs.size)) (EP X pins σ Q) X.xe { J with heap:=J.heap.push { cls:=.type "slice",data:=.fields #[U,Y,.none] } };exact tail_any (ops:=[.ref J.heap.objs.size,v]) ht hT hg (by with_unfolding_all rfl)
noncomputable def j3 (xs:List V) (lo hi:Option Int):List V:=(xs.drop (HT.iE xs.length 0 lo)).take (HT.iE xs.length xs.length hi - HT.iE xs.length 0 lo)
theorem z_ (xs:List V)(lo hi:Option Int):(j3 xs lo hi).length<=xs.length:=by
 unfold j3;rw[Q0l,Q11];omega
def Fq (K:W.Frag):R2:=λx y H Q=>∃a b xs ys,x=.ref a/\y=.ref b/\d_ K H a xs/\d_ K H b ys/\xs≠[]/\xs.length+ys.length<=sizeLine/\
 (ys=[]->Q (.ref a) H)/\(ys≠[]->∀p,H p=none->Q (.ref p) (upd H p (.tup (xs++ys))))
theorem Vals.qA {xs:List V}{us:List Value}(r:Vals xs us):us=[]↔xs=[]:=by
 cases r with
 |nil=>simp
 |cons _ _=>simp
theorem Ft:gH X (binaryOp .Add) (Fq X.K):=by
 intro pins s σ H x y v u Q I rx ry h;obtain⟨a,b,xs,ys,rfl,rfl,ha,hb,hx,Y,q1,q2⟩:=h
 cases rx
 cases ry;obtain⟨ab,U,p1,_⟩:=I.tuple ha;obtain⟨aa,J,p2,_⟩:=I.tuple hb;refine HT.Fp p1 p2 (λz=>hx (U.qA.mp z)) (λz=>⟨.ref a,H,I,rfl,q1 (J.qA.mp z)⟩) (λz=>?_) (by rw[<-U.length,<-J.length];exact Y);refine⟨.ref s.heap.objs.size,_,I.laid (t':=s.toks) (o:=.tup (xs++ys)) (λb ob q=>Q07 _ q) (Q00 _) ?_,rfl,q2 (λw=>z (J.qA.mpr w)) _ (I.hok.fresh (Q00 _))⟩;exact⟨by rw[Q05];exact Y,_,U.append J,IsTup.new _ _⟩
end
noncomputable def jQ (n:Nat) (i:Int):Option Nat:=if 0<=i then(if i<n then some i.toNat else none) else if -(n:Int)<=i then some (i+n).toNat else none
noncomputable def gv {α:Type}(xs:List α) (i:Int):Option α:=(jQ xs.length i).bind λj=>xs[j]?
theorem Aa {n:Nat}{i:Int}{j:Nat}(h:jQ n i=some j):seqIndex? i n=some j/\j<n/\ -(n:Int)<=i/\i<n:=by
 unfold jQ at h;by_cases I:0<=i
 . rw[if_pos I] at h;by_cases h1:i<n
   . rw[if_pos h1] at h;have e:i.toNat=j:=Option.some.inj h;exact⟨by rw[seqIndex_of I h1,e],by omega,by omega,h1⟩
   . rw[if_neg h1] at h;cases h
 . rw[if_neg I] at h;by_cases h1: -(n:Int)<=i
   . rw[if_pos h1] at h;have e:(i+n).toNat=j:=Option.some.inj h;exact⟨by rw[seqIndex_neg (by omega) h1,e],by omega,h1,by omega⟩
   . rw[if_neg h1] at h;cases h
theorem tf {α:Type}{xs:List α}{i:Int}{v:α}(h:gv xs i=some v):∃j,seqIndex? i xs.length=some j/\xs[j]? =some v/\j<xs.length/\ -(xs.length:Int)<=i/\i<xs.length:=by
 unfold gv at h
 cases e:jQ xs.length i with
 |none=>rw[e] at h;cases h
 |some j=>
  rw[e] at h;obtain⟨h1,h2,I,J⟩:=Aa e;exact⟨j,h1,h,h2,I,J⟩
theorem gY {α:Type}{xs:List α}{j:Nat}{v:α}(h:xs[j]? =some v):gv xs (j:Int)=some v:=by
 have I:j<xs.length:=(List.getElem?_eq_some_iff.mp h).1
 have e:jQ xs.length (j:Int)=some j:=by
  unfold jQ;rw[if_pos (by omega),if_pos (by omega)];simp
 unfold gv;rw[e];exact h
def qB (b:Expr):Prop:=∀o i,subscripted b false o i=operate [o,i] (getItem o i)
def oV (X:Cx) (r:R2):Prop:=
 ∀(value I:Expr) (pins:List (Addr × Obj)) (s:Shared) (σ:St) (H:Hp) (x y:V) (v u:Value) (Q:VK),Inv X pins σ H s->RelV x v->RelV y u->r x y H Q->
  subscripted I false v u=operate [v,u] (getItem v u)->wpAny (model X.prog X.w) X.A (subscriptTail value I v u) (EP X pins σ Q) X.xe s
def tm (X:Cx) (id:String) (r:V->List V->Hp->VK->Prop):Prop:=
 ∀(pins:List (Addr × Obj)) (s:Shared) (σ:St) (H:Hp) (x:V) (xs:List V) (v:Value) (us:List Value) (Q:VK),Inv X pins σ H s->RelV x v->Vals xs us->r x xs H Q->
  wpAny (model X.prog X.w) X.A (call (.builtin id) (v::us)) (EP X pins σ Q) X.xe s
section
variable {X:Cx}{a b:Expr}{ta tb:TE}{pos:Pos}
theorem kI {r:R2}(J:oV X r)(U:PE X a ta)(Y:PE X b tb)(hs:qB b):PE X (.Subscript a b pos) (gI r ta tb):=by
 intro pins s σ H Q I h;exact Subscript_ (sQ U Y I h λv u s2 x y H2 I2 rx ry q=>J a b pins s2 σ H2 x y v u Q I2 rx ry q (hs _ _))
def Ab (K:W.Frag):R2:=λx y H Q=>∃p xs i v,x=.ref p/\y=.int i/\eA K H p xs/\gv xs i=some v/\Q v H
def i9 (K:W.Frag):R2:=λx y H Q=>∃p xs i v,x=.ref p/\y=.int i/\d_ K H p xs/\gv xs i=some v/\Q v H
def Fu:R2:=λx y H Q=>∃z i c,x=.str z/\y=.int i/\z.length<=sizeLine/\gv z.cps.toList i=some c/\Q (.str ⟨#[c]⟩) H
theorem Ac:oV X (Ab X.K):=by
 intro value aa pins s σ H x y v u Q I rx ry h hs;obtain⟨p,xs,i,z,rfl,rfl,hq,he,q⟩:=h
 cases rx;obtain⟨t,rfl⟩:=ry;obtain⟨U,r,pl,hz⟩:=I.list hq;obtain⟨j,h1,h2,h3,h4,h5⟩:=tf he;obtain⟨w,ew,Y⟩:=r.get h2;have hl:=r.length;have hn:=nz;have fin:EP X pins σ Q w s:=⟨z,H,I,Y,q⟩;by_cases h0:0<=i
 . have J:i.toNat=j:=by
    rw[seqIndex_of h0 h5] at h1;exact Option.some.inj h1
   exact item_listR pl.isList h0 (by omega) (by rw[J];simpa using ew) fin hs
 . have J:(i+(U.toArray.size:Int)).toNat=j:=by
    rw[seqIndex_neg (by omega) h4] at h1;rw[Q0f,<-hl];exact Option.some.inj h1
   exact subscriptTail_builtinR (x:=w) pl.isList.typeIs slot_list_getitem.lookup
    (wpAny_getItem_list_neg (Q:=λr s'=>r=w/\EP X pins σ Q r s') pl.isList (by omega) (by rw[Q0f] <;> omega) (by omega) (by rw[J];simpa using ew) ⟨rfl,fin⟩) hs
theorem Fv:oV X (i9 X.K):=by
 intro value U pins s σ H x y v u Q I Y ry h hs;obtain⟨p,xs,i,z,rfl,rfl,hq,he,q⟩:=h
 cases Y;obtain⟨t,rfl⟩:=ry;obtain⟨aa,r,pl,hz⟩:=I.tuple hq;obtain⟨j,h1,h2,h3,h4,h5⟩:=tf he;obtain⟨w,ew,J⟩:=r.get h2;have hl:=r.length;have hn:=nz;have fin:EP X pins σ Q w s:=⟨z,H,I,J,q⟩
 exact subscriptTail_builtinR (x:=w) pl.typeIs slot_tuple_getitem.lookup
  (getItem_tuple (j:=j) (Q:=λr s'=>r=w/\EP X pins σ Q r s') pl (by omega) (by omega) (by rw[Q0f,<-hl];exact h1) (by simpa using ew) ⟨rfl,fin⟩) hs
theorem nB:oV X Fu:=by
 intro value J pins s σ H x y v u Q I U Y h hs;obtain⟨z,i,c,rfl,rfl,hz,he,q⟩:=h;obtain⟨t,rfl⟩:=U;obtain⟨t',rfl⟩:=Y;obtain⟨j,h1,h2,h3,h4,h5⟩:=tf he;have hl:z.cps.toList.length=z.length:=by simp[Str.length]
 rw[hl] at h1 h4 h5;have hn:=nz
 exact tail_any (typeIs_str s z t) slot_str_getitem.lookup (getItem_str (c:=c) (by
  have e1:decide (i< -(2 ^ 63:Int))=false:=decide_eq_false (by omega);have e2:decide (i ≥ 2 ^ 63)=false:=decide_eq_false (by omega);rw[e1,e2,Bool.or_false]) (by rw[h1];simpa using h2) ⟨.str ⟨#[c]⟩,H,I.tok _,⟨_,rfl⟩,q⟩) hs
theorem Fw (I:List Value)(n j:Nat)(u:Value):Obj.mapSeq (·.setIfInBounds j u) { cls:=.type "list",data:=.seq I.toArray n }={ cls:=.type "list",data:=.seq (I.set j u).toArray n }:=by
 simp[Obj.mapSeq]
theorem Inv.lst {pins:List (Addr × Obj)}{σ:St}{H:Hp}{s:Shared}{p:Addr}{xs:List V}(I:Inv X pins σ H s)(h:H p=some (.lst xs)):
 ∃(J:List Value) (n:Nat),Vals xs J/\s.heap.get? p=some { cls:=.type "list",data:=.seq J.toArray n }/\xs.length<=sizeLine:=by
 obtain⟨z,J,n,r,e⟩:=I.hok p _ h;exact⟨J,n,r,e,z⟩
theorem Inv.Fx {pins:List (Addr × Obj)}{σ:St}{H:Hp}{s:Shared}{p:Addr}{xs ys:List V}{J its':List Value}{n n':Nat}{f:Obj->Obj}(I:Inv X pins σ H s)(h:H p=some (.lst xs))
 (Y:s.heap.get? p=some { cls:=.type "list",data:=.seq J.toArray n }) (U:f { cls:=.type "list",data:=.seq J.toArray n }={ cls:=.type "list",data:=.seq its'.toArray n' }) (r:Vals ys its') (hz:ys.length<=sizeLine) (t:Nat):
 Inv X pins σ (upd H p (.lst ys)) { s with heap:=s.heap.update p f,toks:=t }:=by
 have e:(s.heap.update p f).get? p=some { cls:=.type "list",data:=.seq its'.toArray n' }:=by
  rw[Q1g f Y (by rw[U] <;> rfl),U]
 refine I.write (x:=p) (e:=p) (by rw[h];trivial) (.inl rfl) (λb u hb q=>(Q15 _ _ (Ne.symm hb)).trans q) ⟨_,e⟩ ?_;exact⟨hz,its',n',r,e⟩
def Fy:V->V->V->Hp->(Hp->Prop)->Prop:=λo i v H Q=>∃p xs k j,o=.ref p/\i=.int k/\H p=some (.lst xs)/\jQ xs.length k=some j/\Q (upd H p (.lst (xs.set j v)))
theorem set_list:zD X Fy:=by
 intro pins s σ H o i v ov iv u Q I ro ri rv h;obtain⟨p,xs,k,j,rfl,rfl,hp,hj,q⟩:=h
 cases ro;obtain⟨t,rfl⟩:=ri;obtain⟨J,n,r,U,hz⟩:=I.lst hp;obtain⟨h1,h2,h3,h4⟩:=Aa hj;have hl:=r.length;have hn:=nz
 have I':Inv X pins σ (upd H p (.lst (xs.set j v))) { s with heap:=s.heap.update p (Obj.mapSeq (·.setIfInBounds j u)) }:=
  I.Fx hp U (Fw J n j u) (r.set rv j) (by rw[List.length_set];exact hz) s.toks
 by_cases h0:0<=k
 . have Y:k.toNat=j:=by
    rw[seqIndex_of h0 h4] at h1;exact Option.some.inj h1
   exact W.ki_setAt U h0 (by omega) (by rw[Q0f,<-hl];exact h4) (by rw[Y];exact⟨_,I',q⟩)
 . have Y:(k+(J.toArray.size:Int)).toNat=j:=by
    rw[seqIndex_neg (by omega) h3] at h1;rw[Q0f,<-hl];exact Option.some.inj h1
   exact W.ki_setBack U (by omega) (by rw[Q0f,<-hl];exact h3) (by omega) (by rw[Y];exact⟨_,I',q⟩)
theorem Fz (lo hi:Option Int)(n:Nat):(sliceBounds lo hi none n).1=((HT.iE n 0 lo:Nat):Int)/\(sliceBounds lo hi none n).2.1=((HT.iE n n hi:Nat):Int)/\(sliceBounds lo hi none n).2.2=1:=by
 refine⟨?_,?_,rfl⟩
 . cases lo with
   |none=>simp[sliceBounds,HT.iE]
   |some i=>
    simp only[sliceBounds,HT.iE,Q2t,show(1:Int) > 0 by decide,if_true];by_cases h:i<0
    . simp only[h,if_true] <;> omega
    . simp only[h,if_false] <;> omega
 . cases hi with
   |none=>simp[sliceBounds,HT.iE]
   |some i=>
    simp only[sliceBounds,HT.iE,Q2t,show(1:Int) > 0 by decide,if_true];by_cases h:i<0
    . simp only[h,if_true] <;> omega
    . simp only[h,if_false] <;> omega
theorem FC (I:List Value)(lo hi:Option Int):slicePick I.toArray lo hi none=((I.drop (HT.iE I.length 0 lo)).take (HT.iE I.length I.length hi - HT.iE I.length 0 lo)).toArray:=by
 obtain⟨h1,h2,J⟩:=Fz lo hi I.toArray.size;unfold slicePick;rw[h1,h2,J];simp only[sliceRange_one,pick_run,Q0f] <;> rfl
def tw (K:W.Frag):V->Option Int->Option Int->Hp->VK->Prop:=λx lo hi H Q=>∃a xs,x=.ref a/\eA K H a xs/\∀p,H p=none->Q (.ref p) (upd H p (.lst (j3 xs lo hi)))
theorem jR:sZ X (tw X.K):=by
 intro pins s σ H x v vl vu lo hi sl Q I U Y pl pu h;obtain⟨a,xs,rfl,hx,q⟩:=h
 cases U;obtain⟨aa,r,ht,hz⟩:=I.list hx;have J:=r.length;refine⟨"list",_,slot_list_getitem.lookup,ht.isList.typeIs,?_⟩;refine wpAny_getItem_list_slice ht.isList Y pl pu .none (by simp) ?_ (by rw[Q0f] <;> omega);rw[FC,<-J];refine⟨.ref s.heap.objs.size,_,I.laid (t':=s.toks) (o:=.lst (j3 xs lo hi)) (λb ob q=>Q07 _ q) (Q00 _) ?_,rfl,q _ (I.hok.fresh (Q00 _))⟩;exact⟨Q0e (z_ xs lo hi) hz,_,0,(r.drop (HT.iE xs.length 0 lo)).take (HT.iE xs.length xs.length hi - HT.iE xs.length 0 lo),Q0o _ rfl⟩
noncomputable def j4:V->Bool
 | .non=>true
 | .bl _=>true
 | .int _=>true
 | .str _=>true
 |_=>false
noncomputable def kJ:V->V->Bool
 | .non,.non=>true
 | .bl a,.bl b=>a == b
 | .bl a,.int b=>(if a then 1 else 0) == b
 | .int a,.bl b=>a == (if b then 1 else 0)
 | .int a,.int b=>a == b
 | .str a,.str b=>a == b
 |_,_=>false
theorem FD {A:Around}{s:Shared}{y x:V}{u v:Value}(J:RelV y u)(I:RelV x v)(Y:j4 y=true)(U:j4 x=true):SeqAt.EqAt A s u v (kJ y x):=by
 cases y with
 |non=>
  cases J
  cases x with
  |non=>cases I;exact SeqAt.EqAt.same _
  |bl b=>cases I;exact SeqAt.EqAt.none_bool b
  |int b=>obtain⟨t,rfl⟩:=I;exact SeqAt.EqAt.none_int b t
  |str b=>obtain⟨t,rfl⟩:=I;exact SeqAt.EqAt.none_str b t
  |_=>exact absurd (show false=true from U) Bool.false_ne_true
 |bl a=>
  cases J
  cases x with
  |non=>cases I;exact SeqAt.EqAt.bool_none a
  |bl b=>cases I;exact SeqAt.EqAt.bool_bool a b
  |int b=>obtain⟨t,rfl⟩:=I;exact SeqAt.EqAt.bool_int a b t
  |str b=>obtain⟨t,rfl⟩:=I;exact SeqAt.EqAt.bool_str a b t
  |_=>exact absurd (show false=true from U) Bool.false_ne_true
 |int a=>
  obtain⟨t',rfl⟩:=J
  cases x with
  |non=>cases I;exact SeqAt.EqAt.int_none a t'
  |bl b=>cases I;exact SeqAt.EqAt.int_bool a t' b
  |int b=>obtain⟨t,rfl⟩:=I;exact SeqAt.EqAt.int_int a t' b t
  |str b=>obtain⟨t,rfl⟩:=I;exact SeqAt.EqAt.int_str a t' b t
  |_=>exact absurd (show false=true from U) Bool.false_ne_true
 |str a=>
  obtain⟨t',rfl⟩:=J
  cases x with
  |non=>cases I;exact SeqAt.EqAt.str_none a t'
  |bl b=>cases I;exact SeqAt.EqAt.str_bool a t' b
  |int b=>obtain⟨t,rfl⟩:=I;exact SeqAt.EqAt.str_int a t' b t
  |str b=>obtain⟨t,rfl⟩:=I;exact SeqAt.EqAt.str_str a t' b t
  |_=>exact absurd (show false=true from U) Bool.false_ne_true
 |_=>exact absurd (show false=true from Y) Bool.false_ne_true
noncomputable def iT (x:V) (u:Value):Bool:=match u with
 | .none=>kJ .non x
 | .bool b=>kJ (.bl b) x
 | .int i _=>kJ (.int i) x
 | .str z _=>kJ (.str z) x
 |_=>false
theorem Ad {x y:V}{u:Value}(r:RelV y u)(f:j4 y=true):iT x u=kJ y x:=by
 cases y with
 |non=>cases r;rfl
 |bl b=>cases r;rfl
 |int i=>obtain⟨t,rfl⟩:=r;rfl
 |str z=>obtain⟨t,rfl⟩:=r;rfl
 |_=>exact absurd (show false=true from f) Bool.false_ne_true
theorem oW {x:V}:∀{xs:List V}{us:List Value},Vals xs us->xs.all j4=true->us.any (iT x)=xs.any λy=>kJ y x
 |_,_,.nil,_=>rfl
 |y::xs,u::us,.cons r t,f=>by
  rw[Q2u,Bool.and_eq_true] at f;rw[Q1h,Q1h,Ad r f.1,oW t f.2]
theorem oX {A:Around}{s:Shared}{x:V}{v:Value}(J:RelV x v)(U:j4 x=true):∀{xs:List V}{us:List Value},Vals xs us->xs.all j4=true->∀u∈us,SeqAt.EqAt A s u v (iT x u)
 |_,_,.nil,_=>λu I=>by cases I
 |y::xs,u::us,.cons r t,f=>λY I=>by
  rw[Q2u,Bool.and_eq_true] at f;rcases List.mem_cons.mp I with rfl|I
  . rw[Ad r f.1];exact FD r J f.1 U
  . exact oX J U t f.2 Y I
noncomputable def inV (x:V) (xs:List V):Bool:=xs.any λy=>kJ y x
def tz (K:W.Frag) (neg:Bool):R2:=λx y H Q=>∃p xs,y=.ref p/\(eA K H p xs\/d_ K H p xs)/\j4 x=true/\xs.all j4=true/\Q (.bl (if neg then !inV x xs else inV x xs)) H
theorem FE:gH X (compareOp .In) (tz X.K false):=by
 intro pins s σ H x y v u Q I Y ry h;obtain⟨p,xs,rfl,U,fx,fs,q⟩:=h
 cases ry;rcases U with U|U
 . obtain⟨J,r,pl,hz⟩:=I.list U;refine SeqAt.in_listAt (iT x) pl.isList (λw hw=>oX Y fx r fs w (by simpa using hw)) ⟨.bl _,H,I,rfl,?_⟩;rw[show J.toArray.any (iT x)=J.any (iT x) by simp,oW r fs];exact q
 . obtain⟨J,r,pl,hz⟩:=I.tuple U;refine SeqAt.in_tupleAt (iT x) pl (λw hw=>oX Y fx r fs w (by simpa using hw)) ⟨.bl _,H,I,rfl,?_⟩;rw[show J.toArray.any (iT x)=J.any (iT x) by simp,oW r fs];exact q
theorem Ae:gH X (compareOp .NotIn) (tz X.K true):=by
 intro pins s σ H x y v u Q I Y ry h;obtain⟨p,xs,rfl,U,fx,fs,q⟩:=h
 cases ry;rcases U with U|U
 . obtain⟨J,r,pl,hz⟩:=I.list U;refine SeqAt.notIn_listAt (iT x) pl.isList (λw hw=>oX Y fx r fs w (by simpa using hw)) ⟨.bl _,H,I,rfl,?_⟩;rw[show J.toArray.any (iT x)=J.any (iT x) by simp,oW r fs];exact q
 . obtain⟨J,r,pl,hz⟩:=I.tuple U;refine SeqAt.notIn_tupleAt (iT x) pl (λw hw=>oX Y fx r fs w (by simpa using hw)) ⟨.bl _,H,I,rfl,?_⟩;rw[show J.toArray.any (iT x)=J.any (iT x) by simp,oW r fs];exact q
theorem gO:ji X (.builtin "len") (λxs H Q=>∃p ys,xs=[.ref p]/\(eA X.K H p ys\/d_ X.K H p ys)/\Q (.int ys.length) H):=by
 intro pins s σ H xs us Q I r h;obtain⟨p,ys,rfl,U,q⟩:=h;obtain⟨u,rfl,rx⟩:=vals1 r
 cases rx;have hn:=nz;rcases U with U|U
 . obtain⟨aa,Y,pl,hz⟩:=I.list U;have J:=Y.length;exact Calls.call_len_list pl.isList (by simp only[Q0f] <;> omega) ⟨.int ys.length,H,I.tok _,⟨s.toks+1,by rw[Q0f,J]⟩,q⟩
 . obtain⟨aa,Y,pl,hz⟩:=I.tuple U;have J:=Y.length;exact len_tuple pl (by simp only[Q0f] <;> omega) ⟨.int ys.length,H,I.tok _,⟨s.toks+1,by rw[Q0f,J]⟩,q⟩
theorem Af:ji X (.builtin "len") (λxs H Q=>∃z,xs=[.str z]/\z.length<=sizeLine/\Q (.int z.length) H):=by
 intro pins s σ H xs us Q I r h;obtain⟨z,rfl,J,q⟩:=h;obtain⟨u,rfl,t,rfl⟩:=vals1 r;have U:=nz;exact len_str (by omega) ⟨.int z.length,H,I.tok _,⟨_,rfl⟩,q⟩
theorem FF:ji X (.type "list") (λxs H Q=>∃p ys,xs=[.ref p]/\(eA X.K H p ys\/d_ X.K H p ys)/\∀l,H l=none->Q (.ref l) (upd H l (.lst ys))):=by
 intro pins s σ H xs us Q I r h;obtain⟨p,ys,rfl,Y,q⟩:=h;obtain⟨u,rfl,rx⟩:=vals1 r
 cases rx
 have fin:∀(J:List Value),Vals ys J->ys.length<=sizeLine->∀(h':Heap) (c':Nat),(∀b o',s.heap.get? b=some o'->h'.get? b=some o')->
  h'.get? s.heap.objs.size=some { cls:=.type "list",dict:=none,data:=.seq J.toArray c',slots:=#[] }->EP X pins σ Q (.ref s.heap.objs.size) { s with heap:=h' }:=λJ U hz h' c' kp e=>
  ⟨.ref s.heap.objs.size,_,I.laid (t':=s.toks) kp (Q00 _) (show gC X.prog X.w _ h' _ (.lst ys) from⟨hz,J,c',U,e⟩),rfl,q _ (I.hok.fresh (Q00 _))⟩
 rcases Y with Y|Y
 . obtain⟨J,U,pl,hz⟩:=I.list Y;have aa:=U.length;obtain⟨o,ho,hc,n,hd⟩:=pl.isList;exact call_list_seq p (.inl rfl) ho hc hd (λh' c' kp e=>fin J U hz h' c' kp e) (by simp only[Q0f] <;> omega)
 . obtain⟨J,U,pl,hz⟩:=I.tuple Y;have aa:=U.length;obtain⟨o,ho,hc,n,hd⟩:=pl;exact call_list_seq p (.inr rfl) ho hc hd (λh' c' kp e=>fin J U hz h' c' kp e) (by simp only[Q0f] <;> omega)
theorem Ag:ji X (.type "tuple") (λxs H Q=>∃p ys,xs=[.ref p]/\((eA X.K H p ys/\∀l,H l=none->Q (.ref l) (upd H l (.tup ys)))\/(d_ X.K H p ys/\Q (.ref p) H))):=by
 intro pins s σ H xs us Q I r h;obtain⟨p,ys,rfl,h⟩:=h;obtain⟨u,rfl,rx⟩:=vals1 r
 cases rx;rcases h with⟨U,q⟩|⟨U,q⟩
 . obtain⟨J,Y,pl,hz⟩:=I.list U;have aa:=Y.length;refine call_tuple_list pl.isList (λh' kp=>?_) (by simp only[Q0f] <;> omega);have I1:Inv X pins σ H { s with heap:=h' }:=I.kept (t':=s.toks) kp
   have I2:Inv X pins σ (upd H h'.objs.size (.tup ys)) { s with heap:=h'.push { cls:=.type "tuple",data:=.seq J.toArray } }:=
    I1.laid (t':=s.toks) (λb o e=>Q07 _ e) (Q00 _) (show gC X.prog X.w _ _ _ (.tup ys) from⟨hz,J,Y,IsTup.new _ _⟩)
   exact⟨.ref h'.objs.size,_,I2,rfl,q _ (I1.hok.fresh (Q00 _))⟩
 . obtain⟨J,Y,pl,hz⟩:=I.tuple U;exact call_tuple_same pl ⟨.ref p,H,I,rfl,q⟩
def Ah (K:W.Frag) (T:String) (x:V) (H:Hp):Prop:=match x with
 | .str _=>T="str"
 | .int _=>T="int"
 | .ref p=>(T="list"/\∃xs,eA K H p xs)\/(T="tuple"/\∃o,K.lookup p=some o/\o.cls=.type "tuple"/\o.dict=none)\/
    (T="dict"/\((∃kvs,H p=some (.dK kvs))\/∃kvs,H p=some (.dT kvs)))\/(T="set"/\∃S n,H p=some (.set S n))
 |_=>False
theorem FG {pins:List (Addr × Obj)}{σ:St}{H:Hp}{s:Shared}{T:String}{x:V}{v:Value}(I:Inv X pins σ H s)(r:RelV x v)(ty:Ah X.K T x H):
 s.TypeIs v T/\∀a,v=.ref a->∃ob,s.heap.get? a=some ob/\ob.dict=none:=by
 cases x with
 |str z=>
  obtain⟨t,rfl⟩:=r
  cases(show T="str" from ty);exact⟨typeIs_str s z t,λ_ e=>nomatch e⟩
 |int i=>
  obtain⟨t,rfl⟩:=r
  cases(show T="int" from ty);exact⟨typeIs_int s i t,λ_ e=>nomatch e⟩
 |ref p=>
  cases r;rcases ty with⟨rfl,xs,hq⟩|⟨rfl,o,J,hc,U⟩|⟨rfl,J⟩|⟨rfl,S,n,J⟩
  . obtain⟨aa,_,pl,_⟩:=I.list hq;refine⟨pl.isList.typeIs,λa e=>?_⟩
    cases e;obtain⟨o,n,e,c,U,_⟩:=pl;exact⟨o,e,U⟩
  . refine⟨⟨o,I.gG p o J,hc⟩,λa e=>?_⟩
    cases e;exact⟨o,I.gG _ o J,U⟩
  . have z:∃o,s.heap.get? p=some o/\o.ExactDict:=by
     rcases J with⟨kvs,J⟩|⟨kvs,J⟩
     . obtain⟨_,_,_,_,o,_,_,e,ex,_⟩:=I.hok p _ J;exact⟨o,e,ex⟩
     . obtain⟨_,_,_,_,o,_,_,e,ex,_⟩:=I.hok p _ J;exact⟨o,e,ex⟩
    obtain⟨o,e,ex⟩:=z;refine⟨⟨o,e,ex.1⟩,λa Y=>?_⟩
    cases Y;exact⟨o,e,ex.2.1⟩
  . obtain⟨o,_,_,_,e,ex,_⟩:=I.hok p _ J;refine⟨⟨o,e,ex.1⟩,λa Y=>?_⟩
    cases Y;exact⟨o,e,ex.2.1⟩
 |_=>exact False.elim ty
def FH (K:W.Frag) (T:String) (r:V->List V->Hp->VK->Prop) (to:TE) (t:TA):TE:=λσ H Q=>to σ H λx H1=>Ah K T x H1/\t σ H1 λxs H2=>r x xs H2 Q
variable {o e:Expr}{es:List Expr}{to:TE}{t:TA}{name:Str}{apos cpos:Pos}{T id:String}{r:V->List V->Hp->VK->Prop}
theorem lE (pa:PlainAttrs T)(slot:Slot T name id)(ac:typeOf (.builtin id)=pure (.type "method_descriptor"))(hm:tm X id r)(ho:PE X o to)(ha:PA X (e::es) t)
 (U:attributeBase o name X.env (eval o X.env)=eval o X.env:=by rfl)
 (ab:((backTo cpos (starEach (e::es) X.env)).all (λx=> !x.1) && (backToKw cpos (keywordEach [] X.env)).all (λx=>x.1.isSome)
   && decide ((e::es).length+([]:List Keyword).length+(if([]:List Keyword).isEmpty then 0 else 1)<30))=true:=by rfl)
 (Y:(apos.endLine == cpos.line)=true:=by rfl) (hs:starEach (e::es) X.env=(false,eval e X.env)::starEach es X.env:=by rfl) (J:(backTo cpos (starEach es X.env)).any (·.1)=false:=by rfl):
 PE X (.Call (.Attribute o name apos) (e::es) [] cpos) (FH X.K T r to t):=by
 intro pins s σ H Q I h;refine wpAny_Call_method_late U ab Y rfl (e_ (ho pins s σ H _ I h) λv s1 zq=>?_);obtain⟨x,H1,I1,r1,ty,q1⟩:=zq;obtain⟨h1,h2⟩:=FG I1 r1 ty;refine⟨T,id,pa,slot,ac,h1,h2,?_⟩;have hA:=ha cpos pins s1 σ H1 _ I1 q1;rw[hs] at hA ⊢;refine Calls.callWith_builtin (by show(false || (backTo cpos (starEach es X.env)).any (·.1))=false;rw[J] <;> rfl) (Calls.evalArgs_plain ?_);exact e_ hA λus s2 ⟨vs,H2,I2,r2,q2⟩=>hm pins s2 σ H2 x vs v us Q I2 r1 r2 q2
/- xs.append(e),list.index on a aa tuple .. af tm ae of 06m -/
end
def FI (X:Cx) (id:String) (r:V->List V->Hp->VK->Prop):Prop:=
 ∀(pins:List (Addr × Obj)) (s:Shared) (σ:St) (H:Hp) (x:V) (xs:List V) (v:Value) (us:List Value) (Q:VK),Inv X pins σ H s->RelV x v->Vals xs us->r x xs H Q->
  wpAny (model X.prog X.w) X.A (call (.builtin id) (v::us)) (EP X pins σ Q) X.xe s
theorem Vals.one:∀{x:V}{us:List Value},Vals [x] us->∃u,us=[u]/\RelV x u
 |_,_,.cons r .nil=>(Zr rfl r)
section
variable {X:Cx}{pins:List (Addr × Obj)}{σ:St}{H:Hp}{s:Shared}{l b:Addr}{xs ys zs:List V}
theorem Inv.FJ {J its':List Value}{n:Nat}{f:Array Value->Array Value}{t':Nat}(I:Inv X pins σ H s)(U:H l=some (.lst xs))
 (e:s.heap.get? l=some { cls:=.type "list",data:=.seq J.toArray n }) (Y:f J.toArray=its'.toArray) (hv:Vals ys its') (hz:ys.length<=sizeLine):
 Inv X pins σ (upd H l (.lst ys)) { s with heap:=s.heap.update l (Obj.mapSeq f),toks:=t' }:=by
 have q:=PySem.IsL.update e f;rw[Y] at q;refine I.write (x:=l) (e:=l) (by rw[U];exact trivial) (.inl rfl) (λb' u hb hu=>(Q15 s.heap (Obj.mapSeq f) (Ne.symm hb)).trans hu) ⟨_,q⟩ ?_;exact⟨hz,its',_,hv,q⟩
theorem Inv.FK {J:List Value}{t':Nat}(I:Inv X pins σ H s)(U:Vals ys J)(Y:ys.length<=sizeLine):
 Inv X pins σ (upd H s.heap.objs.size (.lst ys)) { s with heap:=s.heap.push { cls:=.type "list",data:=.seq J.toArray },toks:=t' }:=
 I.laid (λ_ _ q=>Q07 _ q) (Q00 _) ⟨Y,J,0,U,Q0o _ rfl⟩
theorem Inv.fresh (I:Inv X pins σ H s):H s.heap.objs.size=none:=I.hok.fresh (Q00 _)
theorem Inv.tD (I:Inv X pins σ H s)(U:H l=some (.lst xs)):xs.length<=sizeLine/\∃(J:List Value) (n:Nat),Vals xs J/\xs.length=J.length/\s.heap.get? l=some { cls:=.type "list",data:=.seq J.toArray n }:=by
 obtain⟨z,J,n,r,e⟩:=I.hok l _ U;exact⟨z,J,n,r,r.length,e⟩
end
section
variable {X:Cx}
def FL:V->List V->Hp->VK->Prop:=λx vs H Q=>∃l xs y,x=.ref l/\vs=[y]/\H l=some (.lst xs)/\xs.length<sizeLine/\Q .non (upd H l (.lst (xs++[y])))
theorem mz:FI X "list.append" FL:=by
 intro pins s σ H x vs v us Q I Y rv h;obtain⟨l,xs,y,rfl,rfl,U,hz,q⟩:=h
 cases Y;obtain⟨u,rfl,ru⟩:=rv.one;obtain⟨z,J,n,r,hl,e⟩:=I.tD U;refine call_meets F.slot_list_append ⟨_,e,rfl⟩ F.entry_list_append (F.args_list_append_2 _ _) (PySem.list_append l J.toArray n u (by rw[Q0f];omega)) ⟨e,?_⟩;refine⟨.non,_,I.FJ (its':=J++[u]) U e (by simp) (r.append (.cons ru .nil)) ?_,rfl,q⟩;rw[Q05,Q1x];omega
def tE:R2:=λx y H Q=>∃l b xs zs,x=.ref l/\y=.ref b/\H l=some (.lst xs)/\H b=some (.lst zs)/\xs.length+zs.length<=sizeLine/\∀p,H p=none->Q (.ref p) (upd H p (.lst (xs++zs)))
theorem ig:gH X (binaryOp .Add) tE:=by
 intro pins s σ H x y v u Q I Y ry h;obtain⟨l,b,xs,zs,rfl,rfl,hH,hB,hz,q⟩:=h
 cases Y
 cases ry;obtain⟨z,U,n,r,hl,e⟩:=I.tD hH;obtain⟨z2,J,n2,r2,aa,e2⟩:=I.tD hB;refine PySem.P.add_list e e2 ?_ (by rw[Q0f,Q0f];omega);have ea:U.toArray++J.toArray=(U++J).toArray:=by simp
 rw[ea];exact⟨.ref _,_,I.FK (t':=s.toks) (r.append r2) (by rw[Q05];omega),rfl,q _ I.fresh⟩
end
section
variable {prog:Program}{w:World}{A:Around}{E:Value->Shared->Prop}{s:Shared}
end
section
variable {X:Cx}
end
section
variable {κ:Type} [DecidableEq κ]
noncomputable def gJ (kvs:List (κ × V)) (k:κ):Option V:=(kvs.find? λI=>decide (I.1=k)).map (·.2)
noncomputable def putK (kvs:List (κ × V)) (k:κ) (v:V):List (κ × V):=
 if(kvs.any λI=>decide (I.1=k))=true then kvs.map (λI=>if I.1=k then(I.1,v) else I) else kvs++[(k,v)]
noncomputable def kK (kvs:List (κ × V)) (k:κ):List (κ × V):=kvs.filter λI=>decide (I.1≠k)
theorem oY {p:κ × V}{r:List (κ × V)}{k:κ}(e:p.1=k):gJ (p::r) k=some p.2:=by simp[gJ,Q1c,e]
theorem oZ {p:κ × V}{r:List (κ × V)}{k:κ}(e:¬p.1=k):gJ (p::r) k=gJ r k:=by simp[gJ,Q1c,e]
theorem o4 (k:κ):∀kvs:List (κ × V),(kvs.any λI=>decide (I.1=k))=(gJ kvs k).isSome
 |[]=>rfl
 |p::r=>by
  rw[Q1h];by_cases e:p.1=k
  . simp only[oY e,decide_eq_true e,Bool.true_or,Option.isSome_some]
  . rw[oZ e,decide_eq_false e,Bool.false_or];exact o4 k r
theorem Ai (kvs:List (κ × V))(k:κ)(v:V):(putK kvs k v).length<=kvs.length+1:=by
 unfold putK;split
 . rw[Q03];omega
 . rw[Q05,Q0j,Q28];omega
theorem iB.o5 {o:Option V}{u:Option Value}(r:iB o u):o.isSome=u.isSome:=by
 cases o with
 |none=>cases u with
  |none=>rfl
  |some _=>exact(show False from r).elim
 |some _=>cases u with
  |none=>exact(show False from r).elim
  |some _=>rfl
theorem KV.val {kvs:List (κ × V)}{vs:List (κ × Value)}(r:KV kvs vs)(k:κ):iB (gJ kvs k) (valueAt vs k):=by
 unfold KV at r
 induction r with
 |nil=>exact True.intro
 |@cons p q ps I h t U=>
  obtain⟨h1,h2⟩:=h;by_cases e:p.1=k
  . have J:q.1=k:=h1.symm.trans e;have b:valueAt (q::I) k=some q.2:=by simp[valueAt,Q1c,J]
    rw[oY e,b];exact h2
  . have J:¬q.1=k:=λz=>e (h1.trans z);have b:valueAt (q::I) k=valueAt I k:=by simp[valueAt,Q1c,J]
    rw[oZ e,b];exact U
theorem KV.any {kvs:List (κ × V)}{vs:List (κ × Value)}(r:KV kvs vs)(k:κ):(kvs.any λI=>decide (I.1=k))=vs.any λI=>decide (I.1=k):=by
 unfold KV at r
 induction r with
 |nil=>rfl
 |cons h t J=>rw[Q1h,Q1h,J,h.1]
theorem KV.repl {kvs:List (κ × V)}{vs:List (κ × Value)}(r:KV kvs vs)(k:κ){y:V}{u:Value}(J:RelV y u):
 KV (kvs.map λI=>if I.1=k then(I.1,y) else I) (vs.map λI=>if I.1=k then(I.1,u) else I):=by
 unfold KV at r ⊢
 induction r with
 |nil=>exact .nil
 |@cons p q ps Y h t U=>
  rw[Q1,Q1];refine .cons ?_ U;obtain⟨h1,h2⟩:=h;by_cases e:p.1=k
  . rw[if_pos e,if_pos (h1.symm.trans e)];exact⟨h1,J⟩
  . rw[if_neg e,if_neg (λz=>e (h1.trans z))];exact⟨h1,h2⟩
theorem KV.put {kvs:List (κ × V)}{vs:List (κ × Value)}(r:KV kvs vs)(k:κ){y:V}{u:Value}(I:RelV y u):KV (putK kvs k y) (stored vs k u):=by
 unfold putK stored;rw[r.any k];by_cases e:(vs.any λJ=>decide (J.1=k))=true
 . rw[if_pos e,if_pos e];exact r.repl k I
 . rw[if_neg e,if_neg e];exact Paired.snoc r ⟨rfl,I⟩
theorem KV.drop {kvs:List (κ × V)}{vs:List (κ × Value)}(r:KV kvs vs)(k:κ):KV (kK kvs k) (without vs k):=by
 unfold KV at r ⊢;unfold kK without
 induction r with
 |nil=>exact .nil
 |@cons p q ps U h t I=>
  obtain⟨h1,h2⟩:=h;rw[Q1i,Q1i];by_cases e:p.1=k
  . have a:¬decide (p.1≠k)=true:=by simp[e]
    have b:¬decide (q.1≠k)=true:=by simp[h1.symm.trans e]
    rw[if_neg a,if_neg b];exact I
  . have J:¬q.1=k:=λz=>e (h1.trans z);have a:decide (p.1≠k)=true:=by simp[e]
    have b:decide (q.1≠k)=true:=by simp[J]
    rw[if_pos a,if_pos b];exact .cons ⟨h1,h2⟩ I
theorem KV.length {kvs:List (κ × V)}{vs:List (κ × Value)}(r:KV kvs vs):kvs.length=vs.length:=Paired.length r
theorem FN (kvs:List (κ × V))(k:κ):(kK kvs k).length<=kvs.length:=Q16 _ _
end
theorem nE {P:Program}{w:World}{k:Key}{u:Value}(r:RelV (kV k) u):(i3 P w).is k u=true:=by
 cases k with
 |inl i=>obtain⟨t,e⟩:=(show ∃t,u=Value.int i t from r);subst e;exact Er P w i t
 |inr x=>obtain⟨t,e⟩:=(show ∃t,u=Value.str x t from r);subst e;exact Es P w x t
theorem Aj {P:Program}{w:World}:∀{ks:List Key}{us:List Value},Vals (ks.map kV) us->ItemsAre (i3 P w) ks us
 |[],_,r=>by rw[List.map_nil] at r;cases r;exact .nil
 |k::ks,_,r=>by
  rw[Q1] at r
  cases r with
  |cons h t=>exact .cons (nE h) (Aj t)
abbrev KT (H:Hp):List (List Key × V)->List (List Key × Addr × Value)->Prop:=Paired λp q=>p.1=q.1/\H q.2.1=some (.tup (p.1.map kV))/\RelV p.2 q.2.2
theorem KT.val {H:Hp}{kvs:List (List Key × V)}{xs:List (List Key × Addr × Value)}(r:KT H kvs xs)(k:List Key):iB (gJ kvs k) ((atKey xs k).map (·.2)):=by
 induction r with
 |nil=>exact True.intro
 |@cons p q ps I h t U=>
  obtain⟨h1,_,h2⟩:=h;by_cases e:p.1=k
  . have J:q.1=k:=h1.symm.trans e;have b:atKey (q::I) k=some q.2:=by simp[atKey,Q1c,J]
    rw[oY e,b];exact h2
  . have J:¬q.1=k:=λz=>e (h1.trans z);have b:atKey (q::I) k=atKey I k:=by simp[atKey,Q1c,J]
    rw[oZ e,b];exact U
theorem KT.repl {H:Hp}{kvs:List (List Key × V)}{xs:List (List Key × Addr × Value)}(r:KT H kvs xs)(k:List Key){y:V}{u:Value}(J:RelV y u):
 KT H (kvs.map λI=>if I.1=k then(I.1,y) else I) (xs.map (putAt k u)):=by
 induction r with
 |nil=>exact .nil
 |@cons p q ps qs h t U=>
  rw[Q1,Q1];refine .cons ?_ U;obtain⟨h1,h2,Y⟩:=h;unfold putAt;by_cases e:p.1=k
  . rw[if_pos e,if_pos (h1.symm.trans e)];exact⟨h1,h2,J⟩
  . rw[if_neg e,if_neg (λz=>e (h1.trans z))];exact⟨h1,h2,Y⟩
theorem KT.put {H:Hp}{kvs:List (List Key × V)}{xs:List (List Key × Addr × Value)}(r:KT H kvs xs)(k:List Key){b:Addr}{y:V}{u:Value}(J:H b=some (.tup (k.map kV)))(I:RelV y u):
 KT H (putK kvs k y) (storedH xs k b u):=by
 have e:(kvs.any λU=>decide (U.1=k))=(atKey xs k).isSome:=by
  rw[o4,(r.val k).o5,Q29]
 unfold putK storedH;rw[e];by_cases q:(atKey xs k).isSome=true
 . rw[if_pos q,if_pos q];exact r.repl k I
 . rw[if_neg q,if_neg q];exact Paired.snoc r ⟨rfl,J,I⟩
theorem KT.keeps {H H':Hp}{kvs:List (List Key × V)}{xs:List (List Key × Addr × Value)}(r:KT H kvs xs)(ht:∀b ys,H b=some (.tup ys)->H' b=some (.tup ys)):KT H' kvs xs:=
 Paired.oH r λ_ _ z=>⟨z.1,ht _ _ z.2.1,z.2.2⟩
section
variable {P:Program}{w:World}{H:Hp}{h:Heap}{a:Addr}
theorem Ak {u:HO}(ok:gw P w H h)(e:Rd H a u):gC P w H h a u:=e.ok ok
theorem nF {kvs:List (Key × V)}(ok:gw P w H h)(e:Rd H a (.dK kvs)):kvs.length<=sizeLine/\(a == sysModules)=false/\∃vs,KV kvs vs/\h.DictOf (i3 P w) a vs:=
 show gC P w H h a (.dK kvs) from Ak ok e
theorem tF {kvs:List (Key × V)}(ok:gw P w H h)(e:H a=some (.dK kvs)):kvs.length<=sizeLine/\(a == sysModules)=false/\∃vs,KV kvs vs/\h.DictOf (i3 P w) a vs:=nF ok (.inl e)
theorem o6 {ks:List Key}(ok:gw P w H h)(e:H a=some (.tup (ks.map kV))):(tupleKind (i3 P w)).is h ks a:=by
 obtain⟨_,I,r,o,h1,h2,n,J⟩:=(show gC P w H h a (.tup (ks.map kV)) from ok a _ e);exact⟨o,I.toArray,n,h1,h2,J,by simpa using Aj r⟩
theorem o7 {kvs:List (List Key × V)}(ok:gw P w H h)(e:Rd H a (.dT kvs)):kvs.length<=sizeLine/\(a == sysModules)=false/\
 ∃xs,KT H kvs xs/\h.DictOfH (tupleKind (i3 P w)) a xs:=by
 obtain⟨z,y,xs,r,o,es,U,h1,h2,Y,h4,h5⟩:=(show gC P w H h a (.dT kvs) from Ak ok e);refine⟨z,y,xs,r,o,es,U,h1,h2,Y,h4,λx I=>?_,h5⟩
 have all:∀{l:List (List Key × V)} {m:List (List Key × Addr × Value)},KT H l m->∀x∈m,(tupleKind (i3 P w)).is h x.1 x.2.1:=by
  intro l m q
  induction q with
  |nil=>intro x I;exact nomatch I
  |@cons p q ps qs J t ih=>
   intro x I;rcases List.mem_cons.mp I with e|I
   . subst e;exact o6 ok (by rw[<-J.1];exact J.2.1)
   . exact ih x I
 exact all r x I
theorem FO {kvs:List (List Key × V)}(ok:gw P w H h)(e:H a=some (.dT kvs)):kvs.length<=sizeLine/\(a == sysModules)=false/\
 ∃xs,KT H kvs xs/\h.DictOfH (tupleKind (i3 P w)) a xs:=o7 ok (.inl e)
end
def gf (H:Hp) (a:Addr) (y:V) (r:Option V):Prop:=
 (∃kvs k,Rd H a (.dK kvs)/\y=kV k/\r=gJ kvs k)\/∃kvs k b,Rd H a (.dT kvs)/\y=.ref b/\H b=some (.tup (k.map kV))/\r=gJ kvs k
def jx (H:Hp) (a:Addr) (y v:V) (H':Hp):Prop:=
 (∃kvs k,H a=some (.dK kvs)/\y=kV k/\kvs.length<sizeLine/\H'=upd H a (.dK (putK kvs k v)))\/
 ∃kvs k b,H a=some (.dT kvs)/\y=.ref b/\H b=some (.tup (k.map kV))/\kvs.length<sizeLine/\H'=upd H a (.dT (putK kvs k v))
theorem gf.k {H:Hp}{a:Addr}{kvs:List (Key × V)}{k:Key}(e:H a=some (.dK kvs)):gf H a (kV k) (gJ kvs k):=.inl ⟨kvs,k,.inl e,rfl,rfl⟩
theorem jx.k {H:Hp}{a:Addr}{kvs:List (Key × V)}{k:Key}{v:V}(e:H a=some (.dK kvs))(hl:kvs.length<sizeLine):jx H a (kV k) v (upd H a (.dK (putK kvs k v))):=.inl ⟨kvs,k,e,rfl,hl,rfl⟩
section
variable {X:Cx}{pins:List (Addr × Obj)}{σ:St}{H:Hp}{s:Shared}{a:Addr}{y v:V}{u r:Value}{o:Option V}{A:Around}{E:Value->Shared->Prop}
theorem Inv.big (I:Inv X pins σ H s):sysModules<s.heap.objs.size:=by
 have h:mainGlobals<s.heap.objs.size:=(I.mod.glob.keeps I.bk).lt;exact Nat.lt_trans (by decide) h
theorem FP {Q:Value->Shared->Prop}(hu:A.units+1<cLine)(I:Inv X pins σ H s)(g:gf H a y (some v))(ry:RelV y u)(h:∀Y s',Inv X pins σ H s'->RelV v Y->Q Y s'):
 wpAny (model X.prog X.w) A (getItem (.ref a) u) Q E s:=by
 rcases g with⟨kvs,k,e,ey,l⟩|⟨kvs,k,b,e,ey,eb,l⟩
 . subst ey;obtain⟨z,hd,vs,J,dd⟩:=nF I.hok e;obtain⟨Y,hw,U⟩:=iB.some_of (v:=v) (o:=valueAt vs k) (by rw[l];exact J.val k);exact wpAny_getItem_of (nE ry) dd.mapOf hw (h Y _ (I.tok _) U)
 . subst ey
   cases(show u=Value.ref b from ry);obtain⟨z,hd,xs,J,dd⟩:=o7 I.hok e;obtain⟨Y,hw,U⟩:=iB.some_of (v:=v) (o:=(atKey xs k).map (·.2)) (by rw[l];exact J.val k);obtain⟨p,hp,aa⟩:=Option.map_eq_some_iff.mp hw;refine wpAny_getItem_heap (tupleKind_room_in1 hu) (o6 I.hok eb) dd hp ?_;rw[aa];exact h Y _ (I.tok _) U
theorem FQ {Q:Value->Shared->Prop}(hu:A.units+1<cLine)(I:Inv X pins σ H s)(g:gf H a y o)(ry:RelV y u)(h:∀s',Inv X pins σ H s'->Q (.bool o.isSome) s'):
 wpAny (model X.prog X.w) A (compareOp .In u (.ref a)) Q E s:=by
 rcases g with⟨kvs,k,e,U,l⟩|⟨kvs,k,b,e,U,eb,l⟩
 . subst U;obtain⟨z,Y,vs,J,dd⟩:=nF I.hok e;refine wpAny_in_of (nE ry) Y dd.mapOf ?_;rw[<-(J.val k).o5,<-l];exact h _ (I.tok _)
 . subst U
   cases(show u=Value.ref b from ry);obtain⟨z,Y,xs,J,dd⟩:=o7 I.hok e;refine wpAny_in_heap (tupleKind_room_in1 hu) (o6 I.hok eb) Y dd ?_;have q:=(J.val k).o5;rw[Q29] at q;rw[<-q,<-l];exact h _ (I.tok _)
theorem FR {Q:Value->Shared->Prop}(hu:A.units+1<cLine)(I:Inv X pins σ H s)(g:gf H a y o)(ry:RelV y u)(h:∀s',Inv X pins σ H s'->Q (.bool (!o.isSome)) s'):
 wpAny (model X.prog X.w) A (compareOp .NotIn u (.ref a)) Q E s:=by
 rcases g with⟨kvs,k,e,U,l⟩|⟨kvs,k,b,e,U,eb,l⟩
 . subst U;obtain⟨z,Y,vs,J,dd⟩:=nF I.hok e;refine wpAny_notIn_of (nE ry) Y dd.mapOf ?_;rw[<-(J.val k).o5,<-l];exact h _ (I.tok _)
 . subst U
   cases(show u=Value.ref b from ry);obtain⟨z,Y,xs,J,dd⟩:=o7 I.hok e;refine wpAny_notIn_heap (tupleKind_room_in1 hu) (o6 I.hok eb) Y dd ?_;have q:=(J.val k).o5;rw[Q29] at q;rw[<-q,<-l];exact h _ (I.tok _)
theorem tG {h':Heap}{t':Nat}{J:HO}(I:Inv X pins σ H s)(mu:oJ (H a))(U:Heap.SameBut a s.heap h')(Y:∃q,h'.get? a=some q)(new:gC X.prog X.w (upd H a J) h' a J):
 Inv X pins σ (upd H a J) { s with heap:=h',toks:=t' }:=
 I.write (x:=a) (e:=a) mu (.inl rfl) (λb q hb z=>(U.2 b hb).trans z) Y new
theorem Al {P:Program}{w:World}{H':Hp}{h':Heap}{kvs:List (Key × V)}{vs:List (Key × Value)}(z:kvs.length<=sizeLine)(J:(a == sysModules)=false)(I:KV kvs vs)(U:h'.DictOf (i3 P w) a vs):
 gC P w H' h' a (.dK kvs):=⟨z,J,vs,I,U⟩
theorem FT {H':Hp}{Q:Unit->Shared->Prop}(hu:A.units+1<cLine)(I:Inv X pins σ H s)(g:jx H a y v H')(ry:RelV y u)(rv:RelV v r)(h:∀s',Inv X pins σ H' s'->Q () s'):
 wpAny (model X.prog X.w) A (setItem (.ref a) u r) Q E s:=by
 rcases g with⟨kvs,k,e,ey,l,eH⟩|⟨kvs,k,b,e,ey,eb,l,eH⟩
 . subst ey eH;obtain⟨z,hd,vs,J,dd⟩:=tF I.hok e;have hz:vs.length<=sizeLine:=by rw[<-J.length];exact z
   have hl:(putK kvs k v).length<=sizeLine:=by have:=Ai kvs k v;omega
   refine wpAny_setItem_pairs (hsz:=hz) (nE ry) dd λh' U hs=>h _ ?_;have he:∃q,h'.get? a=some q:=let⟨q,_,_,Y,_⟩:=U;⟨q,Y⟩
   exact tG I (by rw[e];exact True.intro) hs he (Al hl hd (J.put k rv) U)
 . subst ey eH
   cases(show u=Value.ref b from ry);obtain⟨z,hd,xs,J,dd⟩:=FO I.hok e;have hz:xs.length<=sizeLine:=by rw[<-Paired.length J];exact z
   have hl:(putK kvs k v).length<=sizeLine:=by have:=Ai kvs k v;omega
   refine wpAny_setItem_heap (hsz:=hz) (tupleKind_room_in1 hu) (o6 I.hok eb) dd λh' U hs=>h _ ?_;obtain⟨q,es,ep,Y,h2,h3,h4,_,h5⟩:=U;refine tG I (by rw[e];exact True.intro) hs ⟨q,Y⟩ ⟨hl,hd,_,(J.put k eb rv).keeps λc ys ec=>?_,q,es,ep,Y,h2,h3,h4,h5⟩;rw[eu (gZ ec e (λz=>nomatch z))];exact ec
end
section
variable {X:Cx}{pins:List (Addr × Obj)}{σ:St}{H:Hp}{s:Shared}{a:Addr}{kvs:List (Key × V)}{k:Key}{u:Value}{A:Around}{E:Value->Shared->Prop}
theorem FU {v:V}{J:List Value}{Q:Value->Shared->Prop}(I:Inv X pins σ H s)(e:H a=some (.dK kvs))(ry:RelV (kV k) u)(l:gJ kvs k=some v)(hm:J=[]\/∃x,J=[x])
 (h:∀Y s',Inv X pins σ (upd H a (.dK (kK kvs k))) s'->RelV v Y->Q Y s'):wpAny (model X.prog X.w) A (call (.builtin "dict.pop") (.ref a::u::J)) Q E s:=by
 obtain⟨z,hd,vs,U,dd⟩:=tF I.hok e;obtain⟨Y,hw,ab⟩:=iB.some_of (v:=v) (o:=valueAt vs k) (by rw[<-l];exact U.val k)
 have hp:(keyPart u).isSome=true:=by
  cases k with
  |inl i=>obtain⟨t,q⟩:=(show ∃t,u=Value.int i t from ry);subst q;rfl
  |inr x=>obtain⟨t,q⟩:=(show ∃t,u=Value.str x t from ry);subst q;rfl
 have ha:argsOk "dict.pop" ⟨.ref a::u::J,[]⟩:=by
  rcases hm with q|⟨x,q⟩
  . subst q;exact PySem.F.args_dict_pop_2 _ _
  . subst q;exact PySem.F.args_dict_pop_3 _ _ _
 refine call_meetsIn PySem.F.slot_dict_pop dd.typeIs PySem.F.entry_dict_pop ha (meets_dict_pop_there (i3 X.prog X.w) a (nE ry) J hm hp)
  ⟨vs,Y,dd,by rw[<-U.length];exact z,hw,λh' aa hs=>h Y _ ?_ ab⟩
 have he:∃q,h'.get? a=some q:=let⟨q,_,_,hq,_⟩:=aa;⟨q,hq⟩
 exact tG I (by rw[e];exact True.intro) hs he (Al (Q0e (FN kvs k) z) hd (U.drop k) aa)
theorem FV {Q:Value->Shared->Prop}(I:Inv X pins σ H s)(e:Rd H a (.dK kvs))(h:∀t s',Inv X pins σ H s'->Q (.int kvs.length t) s'):wpAny (model X.prog X.w) A (call (.builtin "len") [.ref a]) Q E s:=by
 obtain⟨z,U,vs,J,Y⟩:=nF I.hok e;refine call_len_dict U Y (by rw[<-J.length];rw[sizeLine_eq] at z;omega) ?_;rw[<-J.length];exact h _ _ (I.tok _)
end
def Am (i:Expr):Prop:=∀I J,subscripted i false I J=operate [I,J] (getItem I J)
theorem FW {prog:Program}{w:World}{A:Around}{E:Value->Shared->Prop}{s:Shared}{env:Env}{value I:Expr}{pos:Pos}{T id:String}{Q:Value->Shared->Prop}
 (hl:typeLookup (.type T) "__getitem__"=pure (some (.builtin id))) (hs:Am I)
 (h:wpAny (model prog w) A (eval value env) (λo Y=>wpAny (model prog w) A (eval I env) (λi J=>J.TypeIs o T/\wpAny (model prog w) A (getItem o i) Q E J) E Y) E s):
 wpAny (model prog w) A (eval (.Subscript value I pos) env) Q E s:=by
 refine Subscript_ (Q0n h (λo Y ab=>Q0n ab (λi J U=>?_) λ_ _ x=>x) λ_ _ x=>x);obtain⟨hT,U⟩:=U;unfold subscriptTail;refine Q0 ?_;rw[getitemInPython_of_ne hT.not_modules];refine Q0 (wpAny_specialOf hT hl ?_)
 have fin:wpAny (model prog w) A (subscripted I false o i) (λr aa=>wpAny (model prog w) A (letTemporaryGo value o r >>= λ_=>pure r) Q E aa) E J:=by
  rw[hs o i];exact wpAny_operating (Q0n U (λr aa ac=>Q0 (wpAny_letTemporaryGo (Q0c ac))) λ_ _ x=>x)
 first
  |exact Q0c (Q0 fin)
  |exact Q0 (Q0c (Q0 fin))
  |exact Q0 fin
theorem FX {X:Cx}{pins:List (Addr × Obj)}{σ:St}{H:Hp}{s:Shared}{a:Addr}{y:V}{o:Option V}(I:Inv X pins σ H s)(g:gf H a y o):s.TypeIs (.ref a) "dict":=by
 rcases g with⟨kvs,k,e,_,_⟩|⟨kvs,k,b,e,_,_,_⟩
 . obtain⟨_,_,vs,_,J⟩:=nF I.hok e;exact J.typeIs
 . obtain⟨_,_,xs,_,J⟩:=o7 I.hok e;exact J.typeIs
def qC (td ty:TE):TE:=λσ H Q=>td σ H λx H1=>ty σ H1 λy H2=>∃a v,x=.ref a/\gf H2 a y (some v)/\Q v H2
def FY (ty td:TE):TE:=λσ H Q=>ty σ H λy H1=>td σ H1 λx H2=>∃a o,x=.ref a/\gf H2 a y o/\Q (.bl o.isSome) H2
def FZ (ty td:TE):TE:=λσ H Q=>ty σ H λy H1=>td σ H1 λx H2=>∃a o,x=.ref a/\gf H2 a y o/\Q (.bl (!o.isSome)) H2
def F0 (td ty tv:TE):TS:=λD σ H=>tv σ H λv H1=>td σ H1 λx H2=>ty σ H2 λy J=>∃a I,x=.ref a/\jx J a y v I/\D.nx σ I
section
variable {X:Cx}{o i e value:Expr}{pos pos' tpos:Pos}{td ty tv:TE}
theorem h9 (Y:X.A.units+1<cLine)(ho:PE X o td)(hi:PE X i ty)(hs:Am i):PE X (.Subscript o i pos) (qC td ty):=by
 intro pins s σ H Q I h;refine FW PySem.F.slot_dict_getitem.lookup hs (e_ (ho pins s σ H _ I h) λu s1 ⟨x,H1,I1,rx,q1⟩=>e_ (hi pins s1 σ H1 _ I1 q1) λiv s2 zq=>?_);obtain⟨y,H2,U,ry,a,v,ex,g,q2⟩:=zq;subst ex;obtain rfl:u=Value.ref a:=rx;exact⟨FX U g,FP Y U g ry λw' s3 I3 J=>⟨v,H2,I3,J,q2⟩⟩
theorem tH (J:X.A.units+1<cLine)(hi:PE X i ty)(U:PE X o td):PC X .In i o (FY ty td):=by
 intro pins s σ H Q I h;refine e_ (hi pins s σ H _ I h) λiv Y ⟨y,H1,I1,ry,q1⟩=>e_ (U pins Y σ H1 _ I1 q1) λu s2 zq=>?_;obtain⟨x,H2,I2,rx,a,ov,ex,g,q2⟩:=zq;subst ex;obtain rfl:u=Value.ref a:=rx;exact FQ J I2 g ry λs3 I3=>⟨.bl ov.isSome,H2,I3,rfl,q2⟩
theorem An (J:X.A.units+1<cLine)(hi:PE X i ty)(U:PE X o td):PC X .NotIn i o (FZ ty td):=by
 intro pins s σ H Q I h;refine e_ (hi pins s σ H _ I h) λiv Y ⟨y,H1,I1,ry,q1⟩=>e_ (U pins Y σ H1 _ I1 q1) λu s2 zq=>?_;obtain⟨x,H2,I2,rx,a,ov,ex,g,q2⟩:=zq;subst ex;obtain rfl:u=Value.ref a:=rx;exact FR J I2 g ry λs3 I3=>⟨.bl (!ov.isSome),H2,I3,rfl,q2⟩
theorem mB (J:X.A.units+1<cLine)(U:PE X o td)(hi:PE X i ty)(Y:PE X value tv)(hs:swapsWith value (some (.Subscript o i pos')) pos.line X.env=pure false):
 PS X (.Assign [.Subscript o i pos'] value pos) (F0 td ty tv):=by
 intro pins s σ H D I h;refine wpAny_Assign_Subscript (e_ (Y pins s σ H _ I h) λr s1 ⟨v,H1,I1,rv,q1⟩=>e_ (U pins s1 σ H1 _ I1 q1) λu s2 ⟨x,H2,I2,rx,q2⟩=>e_ (hi pins s2 σ H2 _ I2 q2) λiv s3 zq=>?_) hs;obtain⟨y,H3,I3,ry,a,H4,ex,g,q3⟩:=zq;subst ex;obtain rfl:u=Value.ref a:=rx;exact FT J I3 g ry rv λs4 I4=>⟨σ,H4,I4,q3⟩
end
theorem F1 {P:Program}{w:World}{H:Hp}(h:Heap)(I:sysModules<h.objs.size):gC P w H (h.push { cls:=.type "dict",data:=.dict #[] }) h.objs.size (.dK []):=
 ⟨Q04 _,beq_eq_false_iff_ne.mpr (Ne.symm (Q0a I)),[],.nil,Heap.DictOf.new h⟩
def F2:TE:=λ_ H Q=>∀p,H p=none->Q (.ref p) (upd H p (.dK []))
section
variable {X:Cx}{pos:Pos}
theorem o8:PE X (.Dict [] [] pos) F2:=λpins s σ H Q I h=>
 wpAny_Dict_empty ⟨.ref s.heap.objs.size,_,I.laid (a:=s.heap.objs.size) (o:=.dK []) (t':=s.toks) (λ_ _ q=>Q07 _ q) (Q00 _) (F1 s.heap I.big),rfl,h _ (I.hok.fresh (Q00 _))⟩
end
section
variable {X:Cx}{pins:List (Addr × Obj)}{σ:St}{H:Hp}{s:Shared}{a:Addr}{y d:V}{u r:Value}{o:Option V}{A:Around}{E:Value->Shared->Prop}
end
section
variable {X:Cx}{o e f:Expr}{apos cpos:Pos}{td ty tx:TE}
end
section
variable {X:Cx}{pins:List (Addr × Obj)}{σ:St}{H:Hp}{s:Shared}{a:Addr}{kvs:List (Key × V)}{A:Around}{E:Value->Shared->Prop}
end
section
variable {X:Cx}{pins:List (Addr × Obj)}{σ:St}{H:Hp}{s:Shared}{a:Addr}{y:V}{u:Value}{A:Around}{E:Value->Shared->Prop}
end
end L2
namespace Ao
open W Calls PyProof.Rows
theorem F3 {P:Params}{h:Heap}:∀(ns:List Int) (vs:List Value),WellAll P h vs (ns.map WData.int)->IntsAre vs ns:=by
 intro ns
 induction ns with
 |nil=>
  intro vs w;rw[List.map_nil] at w
  cases w;exact .nil
 |cons n ns I=>
  intro vs w;rw[Q1] at w
  cases w with
  |cons a b=>
   cases a;exact .cons _ _ (I _ b)
theorem F4 {l:OpenLaw}{n:Nat}(hn:l.most=some n){P:Params}{h:Heap}{args:List WData}{I:List Value}
 (J:l.row.toRowW.claim.pre args=true) (aa:WellAll P h I args):
 ∃a vs ns,I=[Value.ref a]/\args=[WData.list (ns.map WData.int)]/\h.get? a=some { cls:=.type "list",data:=.seq vs.toArray }/\IntsAre vs ns/\ns.length<=n:=by
 have ab:WShape.hasAll [] args [.list .int]=true:=(pre_splitW J).1;have hc:l.pre.holds [] { args:=args }=true:=(pre_splitW J).2;obtain⟨d,r,rfl,h1,h2⟩:=hasAllW_cons ab;obtain rfl:=hasAllW_nil h2;obtain⟨xs,rfl,h3⟩:=hasW_list h1;obtain⟨ns,rfl⟩:=items_int h3
 have U:ns.length<=n:=by
  unfold OpenLaw.pre at hc
  have h4:(WTm.not (.lt (.lit (.int (n:Int))) (.len (.arg 0)))).holds [] { args:=[.list (ns.map .int)] }=true:=by
   have h4:=(holds_andW hc).1;rw[hn] at h4;exact h4
  have h5:=condW_of h4 (w_not (w_lt w_lit (w_len_list (w_arg rfl))));rw[Q03] at h5;refine Q17 λq=>?_;have q':(n:Int)<((ns.length:Nat):Int):=by omega
  first
   |(rw[decide_eq_true q'] at h5;exact absurd h5 (by decide))
   |(simp at h5;omega)
 cases aa with
 |cons w1 w2=>
  cases w2
  cases w1 with
  |list ho Y=>exact⟨_,_,ns,rfl,rfl,ho,F3 ns _ Y,U⟩
theorem F5 (l:OpenLaw)(args:List WData):l.row.toRowW.claim.post args (.bool true) args=true:=
 postW_of (r:=l.row.toRowW) (X:=(true == true))
  (show WShape.has [] (.bool true) .bool=true by first|rfl|decide|simp[WShape.has,WShape.arms,WShape.armsAll])
  (show(WTm.eq .res (.lit (.bool true))).value [] { args:=args,res:=some (.bool true),after:=args }=some (.bool (true == true)) from w_eq_bool (w_res rfl) w_lit) rfl
theorem F6 {l:OpenLaw}{n:Nat}{q:Program}{loose:List Str}{XP:(Str->Option Value)->Heap->Prop}{YP:World->Heap->Prop}{d:DefRec}
 (hn:l.most=some n) (ae:d.params.defaults=[])
 (call:∀(w:World) (s₀ I:Shared) (mg mb:Str->Option Value) (fa:Addr) (o:Obj) (pm cd J:Value) (a:Addr) (vs:List Value) (ns:List Int),
   Ground q loose [] XP w s₀ mg mb I.heap->YP w I.heap->
   I.heap.get? fa=some o->o.data=.func (docDef d.name d.params d.body d.scope pm cd J)->I.heap.CodeRec cd d.name->mg d.name=some (.ref fa)->
   I.heap.get? a=some { cls:=.type "list",data:=.seq vs.toArray }->IntsAre vs ns->ns.length<=n->I.gens=#[]->
   codeAny (model l.prog w) callerA (.call (.ref fa) ⟨[.ref a],[]⟩) (λr s'=>r=.ok (.ret (.bool true))/\OldK I.heap s'.heap/\s'.os=I.os/\AllBare s'.gens) I):
 WalkO q loose XP YP l.row.toRowW d [] (λf vs=>PySem.call f vs):=by
 intro w s₀ I mg mb G Y fa o pm cd J dV kV ho hd af hD ag hg args ai as aa aj ak ah al;obtain rfl:dV=.none:=Dflts.none hD ae;obtain rfl:kV=.none:=Dflts.noKw hD;obtain⟨a,vs,ns,rfl,rfl,ab,U,ac⟩:=F4 hn aa ah;refine enter_call (codeAny_mono (call w s₀ I mg mb fa o pm cd J a vs ns G Y ho (fd_plain hd) af ag ab U ac hg) λr s' hq=>?_);obtain⟨rfl,h2,h3,h4⟩:=hq;exact⟨.inl ⟨.bool true,.bool true,[],rfl,λ_=>rfl,.bool true,F5 l _,λ_=>⟨List.Pairwise.nil,λ_ hm=>(nomatch hm)⟩⟩,h2,h3,h4⟩
section
variable {prog:Program}{w:World}{A:Around}{E:Value->Shared->Prop}{s:Shared}{K:Frag}
end
end Ao
namespace L2
open Spec PyProof.Rows
theorem Ap:∀{vs:List Value}{ns:List Int},IntsAre vs ns->Vals (ns.map V.int) vs
 |_,_,.nil=>.nil
 |_,_,.cons n t h=>.cons ⟨t,rfl⟩ (Ap h)
abbrev eI:i8:=λ_ _ _ _ _ _=>False
abbrev E0:XK:=λ_ _ _=>False
theorem nG {X:Cx}:Passes eI X E0:=λ_ _ _ _ _ _ _ h=>h.elim
structure jS (K:W.Frag) (x qual:Str) (st:Stmt) (f:Addr) (fd:FuncData):Prop where
 ex:∃(oc:Value) (od:Option Addr) (kV doc pm:Value) (an:Option Addr) (cdv ct:Value) (osl:Array (Option Value)),
  fd=W.fnOf x qual (il st) (g_ st) (eX st) .none kV doc pm an cdv ct/\K.lookup f=some ⟨oc,od,.func fd,osl⟩/\W.codeIn K cdv qual=true
 kp:W.keepIn K (.ref f)=true
variable {P:Program}{w:World}{K:W.Frag}{mg:Str->Option Value}{base:Heap}
def FnBody (P:Program) (w:World) (K:W.Frag) (mg:Str->Option Value) (base:Heap) (N ps:List Str) (qual:Str) (st:Stmt) (f:Addr) (k:Nat) (vs:List V) (H:Hp) (Q:VK) (E:XK):Prop:=vs.length=ps.length/\∀(I:Value) (A:Around) (outer:List Env) (s:Shared),N.Nodup->fV k (A.deeper (envOfC qual (eX st) s.heap.objs.size f I))->(A.deeper (envOfC qual (eX st) s.heap.objs.size f I)).units+1<cLine->∃t,iD (fw eI P w K mg base N qual (eX st) f I A outer s H E).fB (g_ st) t/\t { nx:=λ_ H'=>Q .non H',rt:=Q } (start N vs) H
theorem jS.ok {x qual:Str}{st:Stmt}{f:Addr}{fd:FuncData}{N ps:List Str}{k:Nat}{sp:Sp}(F:jS K x qual st f fd)(S:fG N ps (eX st))
 (I:∀(vs:List V) (H:Hp) (Q:VK) (E:XK),sp vs H Q E->FnBody P w K mg base N ps qual st f k vs H Q E):eE P w K mg base eI (k+1) f fd ps sp:=by
 obtain⟨oc,od,kV,aa,pm,an,J,ct,ab,rfl,lk,U⟩:=F.ex;refine sV lk U S (λvs H Q E h=>(I vs H Q E h).1) λA outer s H vs Q E hr Y=>?_;obtain⟨t,h,q⟩:=(I vs H Q E Y).2 J A outer s S.nd hr (Q1y (Q2v (by decide:1<=64) _) hr.units);exact⟨t,h.fB,q⟩
theorem jS.binds {x qual:Str}{st:Stmt}{f:Addr}{fd:FuncData}{ps:List Str}(F:jS K x qual st f fd)
 (h:∀(kV I U:Value) (Y:Option Addr) (J ct:Value) (us:List Value),us.length=ps.length->bindArgs (W.fnOf x qual (il st) (g_ st) (eX st) .none kV I U Y J ct) ⟨us,[]⟩=pure (ps.zip us)):Binds K fd ps []:=by
 obtain⟨oc,od,kV,I,U,Y,J,ct,aa,rfl,lk,ab⟩:=F.ex;exact .all (h kV I U Y J ct)
theorem o9 {x qual:Str}{st:Stmt}{f:Addr}{oc:Value}{od Y:Option Addr}{U:Array (Option Value)}{kV J pm I ct:Value}(l:K.lookup f=some ⟨oc,od,.func (W.fnOf x qual (il st) (g_ st) (eX st) .none kV J pm Y I ct),U⟩)
 (c:W.codeIn K I qual=true) (k:W.keepIn K (.ref f)=true):jS K x qual st f (W.fnOf x qual (il st) (g_ st) (eX st) .none kV J pm Y I ct):=⟨⟨oc,od,kV,J,pm,Y,I,ct,U,rfl,l,c⟩,k⟩
theorem tK {A:Around}{k:Nat}(I:fV k A):A.units+1<cLine:=Q1y (Q2v (by decide:1<=64) _) I.units
theorem gz {n:Nat}(h:n<=1000):n<sizeLine:=Q1y h (by decide)
section
variable {X:Cx}
theorem pv (i:Nat){x:Str}{pos:Pos}(J:X.N[i]? =some x:=by rfl)(U:qe X.env.scope x:=by first|exact Or.inl rfl|exact Or.inr (Or.inl rfl)|exact Or.inr (Or.inr rfl))(Y:(x == ("__debug__":Str))=false:=by decide)
 (I:(x == ("__classdict__":Str))=false:=by decide):PE X (.Name x pos) (fF i):=EA J U Y I
end
theorem fk {A B:Prop}(h:B):if false=true then A else B:=by
 rw[if_neg Bool.false_ne_true];exact h
theorem fv {A B:Prop}(h:A):if true=true then A else B:=by
 rw[if_pos rfl];exact h
theorem fJ {c A B:Prop} [Decidable c](h1:c->A)(h2:¬c->B):if c then A else B:=by
 by_cases h:c
 . rw[if_pos h];exact h1 h
 . rw[if_neg h];exact h2 h
theorem kL {c A B:Prop} [Decidable c](hc:c)(h:B):if(!decide c)=true then A else B:=by
 rw[decide_eq_true hc];exact fk h
def Same (H H':Hp):Prop:=∀b o,H b=some o->H' b=some o
theorem Same.refl (H:Hp):Same H H:=λ_ _ h=>h
theorem Same.trans {H H1 H2:Hp}(a:Same H H1)(b:Same H1 H2):Same H H2:=λc o h=>b c o (a c o h)
theorem Same.free {H H':Hp}(e:Same H H'){l:Addr}(h:H' l=Option.none):H l=Option.none:=by
 cases q:H l with
 |none=>rfl
 |some o=>
  rw[e l o q] at h
  cases h
section
variable {X:Cx}
theorem Aq:ji X (.builtin "len") (λxs H Q=>∃a kvs,xs=[V.ref a]/\H a=some (.dK kvs)/\Q (.int kvs.length) H):=by
 intro pins s σ H xs us Q I r h;obtain⟨a,kvs,rfl,J,q⟩:=h;obtain⟨u,rfl,U⟩:=vals1 r
 cases U;exact FV I (.inl J) λt s' Y=>⟨.int kvs.length,H,Y,⟨t,rfl⟩,q⟩
end
section
variable {κ:Type} [DecidableEq κ]
theorem F7 {kvs:List (κ × V)}{k:κ}{v:V}(h:gJ kvs k=some v):k∈kvs.map (·.1):=by
 have q:(kvs.any λI=>decide (I.1=k))=true:=by
  rw[o4,h]
  all_goals rfl
 obtain⟨p,hp,e⟩:=List.any_eq_true.mp q;exact List.mem_map.mpr ⟨p,hp,of_decide_eq_true e⟩
end
theorem Ar {g:Str->NameKind->NameKind}{x:Str}:∀names:List (Str × NameKind),
 (names.map λy=>(y.1,g y.1 y.2)).lookup x=(names.lookup x).map (g x)
 |[]=>rfl
 |(n,k)::r=>by
  show List.lookup x ((n,g n k)::_)=_;rw[Q18,Q18,Ar r]
  cases I:x == n with
  |true=>rw[eq_of_beq I];rfl
  |false=>rfl
noncomputable def j5 (env:Env) (n:Str) (k:NameKind):NameKind:=
 if(k == .free && env.scope.kind == .function && env.kindOf n == some .cell)=true then .cell else k
theorem As (scope:Scope)(env:Env)(x:Str):
 (relabel scope env).names.lookup x=(scope.names.lookup x).map (j5 env x):=by
 rw[<-Ar (g:=j5 env) scope.names];show List.lookup x (scope.names.map _)=_;congr 1;apply List.map_congr_left;rintro⟨n,k⟩ _;show(if _ then _ else _)=(n,j5 env n k);unfold j5;split <;> rfl
theorem F8 {env:Env}{x:Str}{k:NameKind}(h:j5 env x k=.local):k=.local:=by
 unfold j5 at h;split at h
 . cases h
 . exact h
theorem F9 {env:Env}{x:Str}{k:NameKind}(h:j5 env x k=.cell):k=.free\/k=.cell:=by
 unfold j5 at h;split at h
 . rename_i c;left;simp only[Bool.and_eq_true] at c;exact eq_of_beq c.1.1
 . exact .inr h
theorem F_ {env:Env}{x:Str}{k:NameKind}(h:j5 env x k=.free):k=.free:=by
 unfold j5 at h;split at h
 . cases h
 . exact h
theorem tL {env:Env}:∀(names:List (Str × NameKind)) (J:List (Str × Addr)),(∀y∈names,y.2=.free->∃c,env.cells.lookup y.1=some c)->
 (∀x c,J.lookup x=some c->env.cells.lookup x=some c)->
 ∃cl:List (Str × Addr),(forIn names J λy cs=>if(y.2 == NameKind.free)=true then(do let a <-cellOf env y.1;pure (ForInStep.yield ((y.1,a)::cs))) else pure (ForInStep.yield cs))=(pure cl:Sem _)/\
  (∀x c,cl.lookup x=some c->env.cells.lookup x=some c)/\(∀x,((x,NameKind.free)∈names\/(J.lookup x).isSome=true)->cl.lookup x=env.cells.lookup x)
 |[],J,_,U=>⟨J,rfl,U,λx I=>by
    rcases I with I|I
    . cases I
    . obtain⟨c,e⟩:=Option.isSome_iff_exists.mp I;rw[e,U x c e]⟩
 |(n,k)::r,J,Y,U=>by
  by_cases hk:k=.free
  . subst hk;obtain⟨c,e⟩:=Y (n,.free) Q06 rfl;have e:env.cells.lookup n=some c:=e
    have aa:∀x d,((n,c)::J).lookup x=some d->env.cells.lookup x=some d:=λx d h=>by
     rw[Q18] at h
     cases I:x == n with
     |true=>
      rw[I] at h
      cases h;rw[eq_of_beq I];exact e
     |false=>
      rw[I] at h;exact U x d h
    obtain⟨cl,h1,h2,h3⟩:=tL r ((n,c)::J) (λy hy=>Y y (Q0b _ hy)) aa;refine⟨cl,?_,h2,λx I=>h3 x ?_⟩
    . rw[Q2w];have ec:cellOf env n=pure c:=by unfold cellOf;rw[e]
      simp only[beq_self_eq_true,if_true,ec,pure_bind];exact h1
    . rcases I with I|I
      . rcases List.mem_cons.mp I with q|q
        . right
          cases q;rw[Q18,beq_self_eq_true];rfl
        . exact .inl q
      . right;rw[Q18]
        cases x == n with
        |true=>rfl
        |false=>exact I
  . obtain⟨cl,h1,h2,h3⟩:=tL r J (λy hy=>Y y (Q0b _ hy)) U;refine⟨cl,?_,h2,λx I=>h3 x ?_⟩
    . rw[Q2w];have eb:(k == NameKind.free)=false:=by simpa using hk
      simp only[eb,Bool.false_eq_true,if_false,pure_bind];exact h1
    . rcases I with I|I
      . rcases List.mem_cons.mp I with q|q
        . cases q;exact absurd rfl hk
        . exact .inl q
      . exact .inr I
theorem tM {scope:Scope}{env:Env}(J:∀y∈scope.names,y.2=.free->∃c,env.cells.lookup y.1=some c):
 ∃cl:List (Str × Addr),closureFor scope env=pure cl/\(∀x c,cl.lookup x=some c->env.cells.lookup x=some c)/\(∀x,(x,NameKind.free)∈scope.names->cl.lookup x=env.cells.lookup x):=by
 obtain⟨cl,h1,h2,U⟩:=tL scope.names [] J (λx c h=>by cases h);refine⟨cl,?_,h2,λx Y=>U x (.inl Y)⟩;unfold closureFor
 have e:(forIn scope.names ([]:List (Str × Addr)) λy I=>do
  let mut I:=I
  match y with
  |(name,kind)=>if(kind == NameKind.free)=true then I:=(name,<-cellOf env name)::I
  pure (ForInStep.yield I))=(pure cl:Sem _):=by
  rw[<-h1]
 first
  |exact(by simpa using e)
  |(show(forIn scope.names ([]:List (Str × Addr)) _ >>= λI=>pure I)=_;rw[bind_pure];exact e)
structure i_ (X:Cx) (own:List Str) (scope:Scope):Prop where
 kind:scope.kind=.function
 cell:∀y∈scope.names,y.2≠ .cell
 names:∀y∈scope.names,y.2=.local->scope.names.lookup y.1=some .local
 free:∀y∈scope.names,y.2=.free->X.env.kindOf y.1=some .cell\/X.env.kindOf y.1=some .free
 nd:(own++X.N).Nodup
 outer:∀x∈X.N,scope.names.lookup x≠some .local
noncomputable def ij (X:Cx) (own:List Str) (scope:Scope) (cl:List (Str × Addr)) (C:Addr) (fp:List Addr) (I:Shared) (J:Hp):Cx:=
 { X with N:=own++X.N,s₀:=I,H₀:=J,env:=compEnvC scope cl C X.env,outer:=X.stack,ex:=fp,fn:=λ_=>false,pn:=[],xe:=λ_ _=>False }
def o_ (X:Cx) (I:List Expr) (t:TT):Prop:=
 ∀(pins:List (Addr × Obj)) (s:Shared) (σ:St) (H:Hp) (Q:Bool->Hp->Prop),Inv X pins σ H s->t σ H Q->
  wpAny (model X.prog X.w) X.A (forIn I true λc r=>if r=true then do let ok <-isTrue c X.env (eval c X.env);pure (ForInStep.yield ok) else pure (ForInStep.yield r)) (TP X pins σ Q) X.xe s
def kM:TT:=λ_ H Q=>Q true H
theorem mC {X:Cx}:o_ X [] kM:=λpins s σ H Q I h=>wpAny_tests_nil ⟨H,I,h⟩
theorem mD {X:Cx}{c:Expr}{t:TT}(h:PT X c t):o_ X [c] t:=λpins s σ H Q I q=>wpAny_tests_one (h pins s σ H Q I q)
def Au (k:Nat) (wi:TI) (g:TG) (tt:TT) (te:TE):TE:=λσ H Q=>wi σ H λJ H1=>
 ∃W:Nat->Nat->List V->Hp->Prop,(∃m,W 0 m [] H1)/\∀i m ys H,W i m ys H->
  (J.stop i H/\∀p,H p=none->Q (.ref p) (upd H p (.lst ys)))\/
  (J.go i H/\ys.length<sizeLine/\∀x H',J.jN i H x H'->g x (List.replicate k none++σ) H' λI H2=>I.drop k=σ/\
    tt I H2 λb Y=>if b=true then te I Y λy H4=>∃U,U<m/\W (i+1) U (ys++[y]) H4 else ∃U,U<m/\W (i+1) U ys Y)
section
variable {prog:Program}{w:World}{A:Around}{R:Result->Shared->Prop}{s:Shared}
theorem Ga {ai J iter:Expr}{aj:List Expr}{scope:Scope}{pos:Pos}{it ah:Value}{env:Env}(I:Nat->Shared->Prop)
 (turn:∀n s,I n s->wpAny (model prog w) A (pyNext it) (λr U=>
   match r with
   |none=>R (.ok .next) U
   |some v=>wpAny (model prog w) A (letOwnedTupleGo J it v) (λ_ aa=>wpAny (model prog w) A (assign J env v) (λ_ ab=>
     wpAny (model prog w) A (forIn aj true λc r=>if r=true then do let ok <-isTrue c env (eval c env);pure (ForInStep.yield ok) else pure (ForInStep.yield r)) (λok Y=>
      if ok=true then wpAny (model prog w) A (eval ai env) (λx ac=>
       wpAny (model prog w) A (call (.builtin "list.append") [ah,x]) (λ_ ae=>∃m,m<n/\I m ae) (λ_ _=>False) ac) (λ_ _=>False) Y
      else ∃m,m<n/\I m Y) (λ_ _=>False) ab) (λ_ _=>False) aa) (λ_ _=>False) U) (λ_ _=>False) s)
 (n:Nat) (h:I n s):
 codeAny (model prog w) A (.compLoop (.ListComp ai [⟨J,iter,aj,0⟩] scope pos) 0 it ah env) R s:=by
 refine codeAny_loop rfl I (λn s hI=>?_) n h;show wpAny _ A ((compTurn _ 0 it ah env).onRaise _) _ _ s;refine wpAny_noted ?_;rw[compTurn_list]
 have no:∀{α:Type} {t:Sem α} {Q Q':α->Shared->Prop} {E:Value->Shared->Prop} {s:Shared},wpAny (model prog w) A t Q (λ_ _=>False) s->(∀a s,Q a s->Q' a s)->wpAny (model prog w) A t Q' E s:=
  λh k=>Q0n h k λ_ _ z=>z.elim
 refine Q0 (wpAny_standAt (Q0 (no (turn n s hI) λr U af=>?_)))
 cases r with
 |none=>exact Q0c af
 |some v=>
  refine Q0 (no af λ_ aa ak=>?_);refine Q0 (no ak λ_ ab al=>Q0 (no al λok Y ag=>?_))
  cases ok with
  |false=>exact Q0c ⟨rfl,ag⟩
  |true=>
   refine Q0 (Q0 (no ag λx ac am=>?_));exact Q0 (no am λ_ ae an=>Q0c (Q0c ⟨rfl,an⟩))
end
noncomputable abbrev iU (us:List Value) (n:Nat):Obj:={ cls:=.type "list",data:=.seq us.toArray n }
section
variable {X:Cx}{own:List Str}{scope:Scope}
theorem i_.cells (S:i_ X own scope){pins:List (Addr × Obj)}{σ:St}{H:Hp}{s:Shared}(I:Inv X pins σ H s):
 ∀y∈scope.names,y.2=.free->∃c,X.env.cells.lookup y.1=some c:=λy J U=>I.ok.has y.1 (S.free y J U)
theorem i_.freeOf (S:i_ X own scope){x:Str}(h:(relabel scope X.env).names.lookup x=some .cell\/(relabel scope X.env).names.lookup x=some .free):(x,NameKind.free)∈scope.names:=by
 rw[As] at h
 cases e:scope.names.lookup x with
 |none=>rw[e] at h;rcases h with h|h <;> cases h
 |some k=>
  rw[e] at h;have I:(x,k)∈scope.names:=PySem.mem_of_lookup e
  have J:k=.free:=by
   rcases h with h|h
   . rcases F9 (Option.some.inj h) with q|q
     . exact q
     . exact absurd q (S.cell _ I)
   . exact F_ (Option.some.inj h)
  rw[<-J];exact I
theorem i_.Gb (S:i_ X own scope){x:Str}(I:x∈X.N):(relabel scope X.env).names.lookup x≠some .local:=λh=>by
 rw[As] at h
 cases e:scope.names.lookup x with
 |none=>rw[e] at h;cases h
 |some k=>
  rw[e] at h;have:=F8 (Option.some.inj h);subst this;exact S.outer x I e
theorem Av {k:Nat}{σ:St}{i:Nat}{v:V}(h:(List.replicate k none++σ)[i]? =some (some v)):k<=i/\σ[i - k]? =some (some v):=by
 by_cases hi:i<k
 . rw[Q1u (by simpa using hi),Q2s] at h;split at h <;> cases h
 . refine⟨Q17 hi,?_⟩;rw[Q14 (by simpa using hi)] at h;simpa using h
theorem Inv.block {pins:List (Addr × Obj)}{σ:St}{H:Hp}{s:Shared}{fp:List Addr}{cl:List (Str × Addr)}{C D:Addr}{U:Heap}{m:Str->Option Value}{t':Nat}{us:List Value}{n:Nat}(I:Inv X pins σ H s)(S:i_ X own scope)
 (hf:∀b∈fp,ir X pins H b) (ah:∀b∈fp,b<s.heap.objs.size)
 (J:∀x c,cl.lookup x=some c->X.env.cells.lookup x=some c) (ab:∀x,(x,NameKind.free)∈scope.names->cl.lookup x=X.env.cells.lookup x)
 (hC:s.heap.objs.size<=C) (hD:s.heap.objs.size<=D) (ai:D≠C) (hn:U.Ns C m) (aa:∀b o,s.heap.get? b=some o->U.get? b=some o) (ag:U.get? D=some (iU us n)):
 Inv (ij X own scope cl C fp s H) [(D,iU us n)] (List.replicate own.length none++σ) H { s with heap:=U,toks:=t' }:=by
 have ok:=I.ok
 have ni:∀b:Addr,s.heap.objs.size<=b->b ∉ frs X.stack:=λb Y z=>by
  rcases List.mem_cons.mp (I.nj b z) with e|e
  . exact absurd I.lt (by rw[<-e];exact Nat.not_lt.mpr Y)
  . exact I.ni Y e
 have fresh:∀b:Addr,s.heap.objs.size<=b->H b=none:=λb Y=>I.hok.fresh Y
 have am:∀x c,cl.lookup x=some c->c<s.heap.objs.size:=λx c e=>by
  obtain⟨v,q⟩:=I.cell x c (J x c e);exact q.lt
 refine⟨⟨ok.mod,S.kind,ok.glob,ok.blt,hC,λx y c e1 e2=>ok.inj x y c (J x c e1) (J y c e2),λx hx=>?_,λx c hx _=>(nomatch hx),ok.hd,ok.frames,.inl rfl,λb Y=>?_,I.bs,Q0e ok.jh I.sz,λb o e Y=>?_,λb Y z=>?_,I.stack,I.oM⟩,
  rfl,I.bare,Un.kept aa,⟨m,hn,λi x v e1 e2 e3=>?_⟩,λx c e=>?_,fresh C hC,λx c e=>?_,λp hp=>?_,I.hok.kept aa,?_⟩
 . have hm:=S.freeOf (x:=x) hx;obtain⟨c,e⟩:=ok.has x (S.free _ hm rfl);exact⟨c,by rw[show(ij X own scope cl C fp s H).env.cells=cl from rfl,ab x hm];exact e⟩
 . refine⟨Q0a (Q09 (ah b Y) hC),λx c e z=>?_⟩;exact(hf b Y).2.2.2.2.1 x c (J x c e) z
 . rcases(hf b Y).2.2.2.1 with z|z
   . exact ok.lA b o e z
   . exact absurd (Q09 (Q01 e) (Q0e ok.jh z)) (Q0m _)
 . rcases List.mem_cons.mp (I.nj b z) with q|q
   . exact(hf b Y).2.1 q
   . exact(hf b Y).2.2.1 q
 . obtain⟨hk,aj⟩:=Av e2
   have ac:X.N[i - own.length]? =some x:=by
    have e1:(own++X.N)[i]? =some x:=e1;rw[Q14 hk] at e1;exact e1
   have ak:x∈X.N:=Q0p ac
   have ae:(relabel scope X.env).names.lookup x=some .cell\/(relabel scope X.env).names.lookup x=some .free:=by
    rcases e3 with q|q
    . exact absurd q (S.Gb ak)
    . exact q
   have hm:=S.freeOf ae;have af:=S.free _ hm rfl;obtain⟨mX,an,al⟩:=I.loc;obtain⟨u,r,lk⟩:=al _ x v ac aj (.inr af);refine⟨u,r,.inr ⟨ae,?_⟩⟩;rcases lk with⟨q,_⟩|⟨_,c,ec,hc⟩
   . rcases af with z|z
     . rw[z] at q;cases q
     . rw[z] at q;cases q
   . obtain⟨o,ho,hd⟩:=hc;exact⟨c,(ab x hm).trans ec,o,aa _ _ ho,hd⟩
 . obtain⟨v,o,ho,hd⟩:=I.cell x c (J x c e);exact⟨v,o,aa _ _ ho,hd⟩
 . exact I.iC x c (J x c e)
 . have e:p=(D,iU us n):=by
    have hp:p∈([]++[(D,iU us n)]:List (Addr × Obj)):=hp;simpa using hp
   subst e
   exact⟨ag,fresh D hD,ai,ni D hD,λv z=>by
    have z:Data.seq us.toArray n=Data.cell v:=z
    cases z⟩
 . show _=(own++X.N).length;rw[Q05,Q05,Q1v,I.len]
theorem Inv.unblock {pins:List (Addr × Obj)}{σ aa:St}{H H3:Hp}{s s3:Shared}{fp:List Addr}{cl:List (Str × Addr)}{C D:Addr}{h':Heap}{us:List Value}{n:Nat}{ys:List V}{pl:List (Addr × Obj)}(I:Inv X pins σ H s)
 (hf:∀b∈fp,ir X pins H b) (J:Inv (ij X own scope cl C fp s H) pl aa H3 s3) (ab:(D,iU us n)∈pl) (hC:s.heap.objs.size<=C) (hD:s.heap.objs.size<=D) (ac:D≠C)
 (r:Vals ys us) (hz:ys.length<=sizeLine) (hs:Heap.SameBut C s3.heap h'):Inv X pins σ (upd H3 D (.lst ys)) { s3 with heap:=h' }/\H3 D=none:=by
 obtain⟨eD,nD,_,_,_⟩:=J.pin (D,iU us n) (Q08 _ ab);have nC:H3 C=none:=J.free;have kC:∀b o,b≠C->s3.heap.get? b=some o->h'.get? b=some o:=λb o U e=>(hs.2 b U).trans e;refine⟨I.call' (ch:=fp) J.os ⟨λb o e nb U Y=>?_,λb o e nb U Y=>?_,λb o e nb Y=>?_,λb o e Y=>?_,λb xs e=>?_,λb o u e=>?_,λb ps e=>?_⟩ (λb o e=>?_) J.bare (λb U=>?_),nD⟩
 . exact kC b o (Q0a (Q09 (Q01 e) hC)) (J.base.keep b o e nb U Y)
 . obtain⟨sl,e1⟩:=J.base.slot b o e nb U Y;exact⟨sl,kC b _ (Q0a (Q09 (Q01 e) hC)) e1⟩
 . rw[eu (Q0a (Q09 (Q01 e) hD))];exact J.base.free b o e nb Y
 . obtain⟨o',e1⟩:=J.base.there b o e Y;exact⟨o',kC b _ (Q0a (Q09 (Q01 e) hC)) e1⟩
 . have q:=J.base.tups b xs e;rw[eu (eL q nD)];exact q
 . have q:=J.base.i4 b o u e;rw[eu (eL q nD)];exact q
 . obtain⟨mo,q⟩:=J.base.i5 b ps e;exact⟨mo,by rw[eu (eL q nD)];exact q⟩
 . by_cases U:b=D
   . subst U;rw[eF] at e;cases e;exact⟨hz,us,n,r,kC b _ ac eD⟩
   . rw[eu U] at e;refine(J.hok b o e).stay (λc v hc q=>kC c v ?_ q) (λc q=>by rw[eu (eL q nD)];exact q) λc xs q=>by rw[eu (eL q nD)];exact q
     rcases hc with z|z
     . rw[z];exact eL e nC
     . exact eL z nC
 . obtain⟨_,f1,_,f3,f4,f5⟩:=hf b U;exact⟨f3,f1,f4,f5⟩
theorem Aw {tg iter ar:Expr}{au:List Expr}{pos:Pos}{g:TG}{tt:TT}{te:TE}{pins:List (Addr × Obj)}{σ:St}{H2:Hp}{I:Shared}{it:Addr}{fp:List Addr}{tn:Nat->Heap->Prop}{J:It}{cl:List (Str × Addr)}{Fin:List V->Hp->Prop}{W:Nat->Nat->List V->Hp->Prop}{m0:Nat}
 {RR:Value->Addr->Result->Shared->Prop} (hc:X.calm=true) (S:i_ X own scope) (ai:∀x c,cl.lookup x=some c->X.env.cells.lookup x=some c) (aG:∀x,(x,NameKind.free)∈scope.names->cl.lookup x=X.env.cells.lookup x)
 (I2:Inv X pins σ H2 I) (T:Turn X.prog X.w X.K tg J fp it tn) (ay:tn 0 I.heap) (f2:∀b∈fp,ir X pins H2 b) (w0:W 0 m0 [] H2)
 (turn:∀i m ys H,W i m ys H->(J.stop i H/\Fin ys H)\/
   (J.go i H/\ys.length<sizeLine/\∀x H',J.jN i H x H'->g x (List.replicate own.length none++σ) H' λav H2=>av.drop own.length=σ/\
     tt av H2 λb H3=>if b=true then te av H3 λy H4=>∃m',m'<m/\W (i+1) m' (ys++[y]) H4 else ∃m',m'<m/\W (i+1) m' ys H3))
 (hg:∀cl C fp ac ae,PG (ij X own scope cl C fp ac ae) tg g) (ht:∀cl C fp ac ae,o_ (ij X own scope cl C fp ac ae) au tt) (he:∀cl C fp ac ae,PE (ij X own scope cl C fp ac ae) ar te)
 (aK:∀(C D:Addr) (s5:Shared) (H5:Hp) (ys:List V) (us:List Value) (k:Nat),I.heap.objs.size<=C->I.heap.objs.size<=D->D≠C->Inv (ij X own scope cl C fp I H2) [(D,iU us k)] (List.replicate own.length none++σ) H5 s5->Vals ys us->ys.length<=sizeLine->Fin ys H5->RR (.ref D) C (.ok .next) s5):
 wpAny (model X.prog X.w) X.A (newList []) (λaz af=>wpAny (model X.prog X.w) X.A (newFunctionEnv scope X.env.globals cl [] X.env.qual none .none (some X.env)) (λal aH=>
  codeAny (model X.prog X.w) X.A (.compStart (.ListComp ar [⟨tg,iter,au,0⟩] scope pos) 0 (.ref it) az { al with scope:=relabel scope X.env }) (RR az al.locals) aH) X.xe af) X.xe I:=by
 have ak:∀b∈fp,b<I.heap.objs.size:=λb U=>by
  obtain⟨o,e,_⟩:=T.obj _ _ ay b U;exact Q01 e
 refine wpAny_newObj_type (wpAny_newFunctionEnv S.cell (by intro y hy;simp at hy) (λag aa Y=>?_) S.kind);dsimp only at aa Y ⊢;generalize hG:I.heap.push { cls:=.type "list",dict:=none,data:=.seq ([]:List Value).toArray }=G at aa Y ⊢;have aA:G.objs.size=I.heap.objs.size+1:=by rw[<-hG,Q1s]
 have hC:I.heap.objs.size<=G.objs.size:=by rw[aA];exact Q1b _
 have aw:I.heap.objs.size≠G.objs.size:=by rw[aA];exact Q0a (Q10 _)
 have aB:∀b o,I.heap.get? b=some o->ag.get? b=some o:=λb o e=>
  Y.extBut b o (Q0a (Q09 (Q01 e) hC)) (Q07 _ (hG ▸ Q07 _ e))
 have aI:ag.get? I.heap.objs.size=some (iU [] 0):=Y.extBut _ _ aw (Q07 _ (hG ▸ Q0o _ rfl));have I3:=I2.block (cl:=cl) (t':=I.toks+([]:List (Str × Value)).length) S f2 ak ai aG hC (Q00 _) aw aa aB aI;have aC:tn 0 ag:=T.keep _ _ _ ay λb _ o e=>aB b o e;have aL:∀b∈fp,H2 b=none:=λb U=>(f2 b U).1
 have aj:∀{H':Hp} {us:List Value} {n:Nat},(∀b∈fp,H' b=none)->∀b∈fp,ir (ij X own scope cl G.objs.size fp I H2) [(I.heap.objs.size,iU us n)] H' b:=λ{H' us n} hn b U=>by
  refine⟨hn b U,Q0a (Q09 (ak b U) hC),λz=>?_,.inl U,λx c e=>(f2 b U).2.2.2.2.1 x c (ai x c e),λp hp=>?_⟩
  . rcases List.mem_cons.mp (I2.nj b z) with q|q
    . exact(f2 b U).2.1 q
    . exact(f2 b U).2.2.1 q
  . have hp:p∈([]++[(I.heap.objs.size,iU us n)]:List (Addr × Obj)):=hp;have e:p=(I.heap.objs.size,iU us n):=by simpa using hp
    subst e;exact Q0t (ak b U)
 have am:∀af:Shared,af={ I with heap:=ag,toks:=I.toks+([]:List (Str × Value)).length }->
  codeAny (model X.prog X.w) X.A (.compLoop (.ListComp ar [⟨tg,iter,au,0⟩] scope pos) 0 (.ref it) (.ref I.heap.objs.size) (compEnvC scope cl G.objs.size X.env))
   (RR (.ref I.heap.objs.size) G.objs.size) af:=by
  rintro af rfl
  refine Ga (λn s'=>∃i ys us k H',Inv (ij X own scope cl G.objs.size fp I H2) [(I.heap.objs.size,iU us k)] (List.replicate own.length none++σ) H' s'/\Vals ys us/\ys.length<=sizeLine/\tn i s'.heap/\(∀b∈fp,H' b=none)/\W i n ys H')
   ?_ m0 ⟨0,[],[],0,H2,I3,.nil,Q04 _,aC,aL,w0⟩
  intro n s4 zq;obtain⟨i,ys,us,k,H4,I4,r4,z4,aD,aE,w4⟩:=zq;rcases turn i n ys H4 w4 with⟨stop,qn⟩|⟨go,aM,step⟩
  . refine e_ (T.done (ij X own scope cl G.objs.size fp I H2) rfl rfl rfl hc i _ s4 _ H4 (λ_ _=>False) I4 (aj aE) aD stop) λr s5 ⟨hr,I5⟩=>?_;subst hr;exact aK G.objs.size I.heap.objs.size s5 H4 ys us k hC (Q00 _) aw I5 r4 z4 qn
  . refine e_ (T.item (ij X own scope cl G.objs.size fp I H2) rfl rfl rfl hc i _ s4 _ H4 (λ_ _=>False) I4 (aj aE) aD go) λr s5 ⟨u,hr,h5⟩=>?_;subst hr;refine e_ h5 λ_ s6 zq=>?_;obtain⟨x,H6,I6,r6,y6,ah,aP⟩:=zq;have aQ:=I6.pinned (aj aP) (T.obj _ _ ah);refine e_ (hg cl G.objs.size fp I H2 _ s6 _ H6 x u _ aQ r6 (step x H6 y6)) λ_ s7 zq=>?_;obtain⟨ab,H7,I7,d7,q7⟩:=zq;refine e_ (ht cl G.objs.size fp I H2 _ s7 ab H7 _ I7 q7) λb s8 ⟨H8,I8,q8⟩=>?_;have an:(List.replicate own.length none++σ).length=ab.length:=by rw[I7.len,<-I6.len]
    have ao:∀(j:Nat) v,(List.replicate own.length none++σ)[j]? =some (some v)->ab[j]? =some (some v):=λj v e=>by
     obtain⟨hk,e'⟩:=Av e;rw[<-d7,List.getElem?_drop] at e';rw[<-e'];congr 1;omega
    cases b with
    |false=>
     have q8:∃m',m'<n/\W (i+1) m' ys H8:=q8;obtain⟨m',hm,w8⟩:=q8;refine⟨m',hm,i+1,ys,us,k,H8,I8.lC.weak an ao,r4,z4,T.keep _ _ _ ah λb U o e=>?_,λb U=>?_,w8⟩
     . exact(I8.pin (b,o) (Q08 _ (Q08 _ (oQ U e)))).1
     . obtain⟨o,e,d⟩:=T.obj _ _ ah b U;exact(I8.pin (b,o) (Q08 _ (Q08 _ (oQ U e)))).2.1
    |true=>
     have q8:te ab H8 λy H9=>∃m',m'<n/\W (i+1) m' (ys++[y]) H9:=q8;show wpAny _ _ _ _ _ _;refine e_ (he cl G.objs.size fp I H2 _ s8 ab H8 _ I8 q8) λyv s9 zq=>?_;obtain⟨y,H9,I9,r9,m',hm,w9⟩:=zq;obtain⟨eD,nD,aF,aT,_⟩:=I9.pin (I.heap.objs.size,iU us k) (Q08 _ (Q0v _ Q06));have hl:=r4.length;refine append_at (hsz:=by rw[Q0f,<-hl];exact z4) eD λax ap aJ=>?_
     have aq:∀b∈fp,∀o,s6.heap.get? b=some o->s9.heap.get? b=some o/\H9 b=none:=λb U o e=>by
      have q:=I9.pin (b,o) (Q08 _ (Q08 _ (oQ U e)));exact⟨q.1,q.2.1⟩
     have aU:∀b∈fp,b≠I.heap.objs.size:=λb U=>Q0a (ak b U);have aV:Inv (ij X own scope cl G.objs.size fp I H2) [] ab H9 s9:=I9.l9 λp hp=>(nomatch hp)
     have aW:Inv (ij X own scope cl G.objs.size fp I H2) [] ab H9 { s9 with heap:=ax }:=
      aV.turned (t':=s9.toks) (λb o U e=>ap.extBut b o U e) nD aF (.inr (Q00 _)) (λx c e z=>by
        obtain⟨v,q⟩:=I2.cell x c (ai x c e);exact absurd q.lt (by rw[z];exact Q0m _)) λp hp=>(nomatch hp)
     have aX:Inv (ij X own scope cl G.objs.size fp I H2) [(I.heap.objs.size,iU (us++[yv]) (k+1))] ab H9 { s9 with heap:=ax }:=aW.l9 λp hp=>by
      have e:p=(I.heap.objs.size,iU (us++[yv]) (k+1)):=by simpa using hp
      subst e
      refine⟨?_,nD,aF,aT,λv z=>by
       have z:Data.seq (us++[yv]).toArray (k+1)=Data.cell v:=z
       cases z⟩
      show ax.get? _=some { cls:=.type "list",data:=.seq (us++[yv]).toArray (k+1) };rw[<-List.push_toArray];exact aJ
     refine⟨m',hm,i+1,ys++[y],us++[yv],k+1,H9,aX.weak an ao,r4.append (.cons r9 .nil),by rw[Q05,Q1x];exact aM,T.keep _ _ _ ah λb U o e=>ap.extBut b o (aU b U) (aq b U o e).1,λb U=>?_,w9⟩;obtain⟨o,e,d⟩:=T.obj _ _ ah b U;exact(aq b U o e).2
 exact codeAny_compStart_list (am _ rfl) (T.self _ 0 _ _ _ aC (am _ rfl))
theorem lF {tg iter ab:Expr}{ac:List Expr}{pos:Pos}{wi:TI}{g:TG}{tt:TT}{te:TE}(hc:X.calm=true)(S:i_ X own scope)(hi:PI X tg iter wi)
 (hg:∀cl C fp U Y,PG (ij X own scope cl C fp U Y) tg g) (ht:∀cl C fp U Y,o_ (ij X own scope cl C fp U Y) ac tt)
 (he:∀cl C fp U Y,PE (ij X own scope cl C fp U Y) ab te) (hs:∀x,foldedSetIterable iter X.env x=pure x:=by intro _;rfl):
 PE X (.ListComp ab [⟨tg,iter,ac,0⟩] scope pos) (Au own.length wi g tt te):=by
 intro pins s σ H Q I h;obtain⟨cl,aa,ae,af⟩:=tM (S.cells I);rw[eval_ListComp];refine wpAny_comprehension_free (use:=none) rfl hs aa S.kind S.names ?_;refine e_ (hi pins s σ H _ I h) λv s1 h1=>e_ h1 λal s2 h2=>?_;obtain⟨it,fp,tn,J,H2,ag,I2,T,ah,f2,W,⟨m0,w0⟩,turn⟩:=h2;subst ag;refine Aw (RR:=λai C=>compPost (model X.prog X.w) X.A X.xe none (EP X pins σ Q) ai C) hc S ae af I2 T ah f2 w0 turn hg ht he ?_;intro C D s5 H5 ys us k hC hD aj I5 r5 z5 fin;obtain⟨m5,n5,_⟩:=id I5.loc;refine⟨m5,n5,λh' ak=>?_⟩;obtain⟨I6,nD⟩:=I2.unblock f2 I5 Q06 hC hD aj r5 z5 ak;exact⟨.ref D,_,I6,rfl,fin _ nD⟩
theorem nH {i:Nat}{y:Str}{py aa:Pos}{tg iter ab:Expr}{ac:List Expr}{pos:Pos}{wi:TI}{g:TG}{tt:TT}{te:TE}(hN:X.N.Nodup)(hy:X.N[i]? =some y)(hL:Loc X.env.scope y)(hc:X.calm=true)(S:i_ X own scope)(hi:PI X tg iter wi)
 (hg:∀cl C fp U Y,PG (ij X own scope cl C fp U Y) tg g) (ht:∀cl C fp U Y,o_ (ij X own scope cl C fp U Y) ac tt)
 (he:∀cl C fp U Y,PE (ij X own scope cl C fp U Y) ab te) (hf:X.fn y=true\/X.env.scope.names.lookup y=some .local:=by first|exact .inl rfl|exact .inr rfl|assumption)
 (al:swapsWith (.ListComp ab [⟨tg,iter,ac,0⟩] scope pos) (some (.Name y py)) aa.line X.env=pure true:=by rfl) (hs:∀x,foldedSetIterable iter X.env x=pure x:=by intro _;rfl):
 PS X (.Assign [.Name y py] (.ListComp ab [⟨tg,iter,ac,0⟩] scope pos) aa) (nr (Au own.length wi g tt te) (gX i)):=by
 intro pins s σ H E I h;obtain⟨cl,ae,ai,aj⟩:=tM (S.cells I);rw[exec_Assign_Name_used _ _ _ _ al];refine Q0 (wpAny_standAt (Q0 ?_));show wpAny _ _ (do let _ <-comprehension _ scope X.env _ (newList []) false (eval iter X.env) (some (assign (.Name y py) X.env))) _ _ s
 refine Q0 (e_ (wpAny_comprehension_free (use:=some (assign (.Name y py) X.env)) (Q:=λ_ s'=>SP X pins E .next s') rfl hs ae S.kind S.names
  (e_ (hi pins s σ H _ I h) λv s1 h1=>e_ h1 λar s2 h2=>?_)) λ_ s' hq=>Q0c (Q0c hq))
 obtain⟨it,fp,tn,J,H2,am,I2,T,an,f2,W,⟨m0,w0⟩,turn⟩:=h2;subst am;refine Aw (RR:=λao C=>compPost (model X.prog X.w) X.A X.xe (some (assign (.Name y py) X.env)) (λ_ s'=>SP X pins E .next s') ao C) hc S ai aj I2 T an f2 w0 turn hg ht he ?_;intro C D s5 H5 ys us k hC hD ag I5 r5 z5 fin;obtain⟨m5,n5,_⟩:=id I5.loc;obtain⟨I6,nD⟩:=I2.unblock f2 I5 Q06 hC hD ag r5 z5 (Heap.SameBut.refl C s5.heap);obtain⟨oC,es,ep,eC,dC,rC⟩:=id n5;have nC:upd H5 D (.lst ys) C=none:=by rw[eu (Ne.symm ag)];exact I5.free
 have ah:C≠X.env.locals:=Q0t (Q09 I2.lt hC)
 have af:∀x c,X.env.cells.lookup x=some c->c≠C:=λx c e z=>by
  obtain⟨v,q⟩:=I2.cell x c e;exact absurd q.lt (by rw[z];exact Nat.not_lt.mpr hC)
 have ak:∀p∈X.pn++pins,p.1≠C:=λp hp z=>by
  have:=Q01 (I2.pin p hp).1;rw[z] at this;exact absurd this (Nat.not_lt.mpr hC)
 have I7:Inv X (pins++[(C,oC)]) σ (upd H5 D (.lst ys)) s5:=by
  refine I6.l9 λp hp=>?_;rcases List.mem_append.mp hp with z|z
  . exact I6.pin p (Q08 _ z)
  . have e:p=(C,oC):=by simpa using z
    subst e
    exact⟨eC,nC,ah,I2.ni hC,λv z=>by
     have z:oC.data=Data.cell v:=z;rw[dC] at z;cases z⟩
 show wpAny _ _ (assign (.Name y py) X.env (.ref D)) _ _ s5;refine wpAny_assign_Name (oN (v:=.ref D) I7 hN hy hL rfl (λs8 I8=>?_) hf);obtain⟨ap,au,_⟩:=I8.pin (C,oC) (Q08 _ (Q08 _ Q06));refine⟨_,⟨oC,es,ep,ap,dC,rC⟩,λh' aq=>?_⟩
 have I9:Inv X pins (σ.set i (some (.ref D))) (upd H5 D (.lst ys)) { s8 with heap:=h' }:=
  I8.lC.turned (t':=s8.toks) (λb o hb e=>(aq.2 b hb).trans e) nC ah (.inr (Q0e I2.sz hC)) af ak
 exact⟨_,_,I9,fin _ nD⟩
end
section
variable {X:Cx}
theorem Ax {e:Expr}:PE X e (λ_ _ _=>False):=λ_ _ _ _ _ _ h=>h.elim
theorem Gc {e:Expr}:PT X e (λ_ _ _=>False):=λ_ _ _ _ _ _ h=>h.elim
theorem iy:ji X (.builtin "isinstance") (λxs H Q=>∃x T t b,xs=[x,.ty T]/\iP X.K H x t/\W.kitOne X.K t (.type T)=some b/\Q (.bl b) H):=by
 intro pins s σ H xs us Q I r h;obtain⟨x,T,t,b,rfl,ty,e,q⟩:=h;obtain⟨u,c,rfl,J,U⟩:=vals2 r
 cases U;exact Ff I J ty e λtk=>⟨.bl b,H,I.tok tk,rfl,q⟩
theorem tN:ji X (.builtin "len") (λxs H Q=>(∃a kvs,xs=[V.ref a]/\H a=some (.dK kvs)/\Q (.int kvs.length) H)\/∃p ys,xs=[.ref p]/\(eA X.K H p ys\/d_ X.K H p ys)/\Q (.int ys.length) H):=by
 intro pins s σ H xs us Q I r h;rcases h with h|h
 . exact Aq pins s σ H xs us Q I r h
 . exact gO pins s σ H xs us Q I r h
theorem Ay:∀{ss:List Str}{vs:List Value},Vals (ss.map V.str) vs->StrsAre vs ss
 |[],_,r=>by cases r;exact .nil
 |y::r,_,h=>by
  cases h with
  |cons a b=>
   obtain⟨t,e⟩:=a;subst e;exact .cons y t (Ay b)
theorem Az:∀{vs:List Value}{ss:List Str},StrsAre vs ss->Vals (ss.map V.str) vs
 |_,_,.nil=>.nil
 |_,_,.cons y t h=>.cons ⟨t,rfl⟩ (Az h)
theorem Gd:ji X (.builtin "sorted") (λxs H Q=>∃a ss,xs=[.ref a]/\eA X.K H a (ss.map V.str)/\ss.length<64/\
 ∀p J,H p=none->J.Perm ss->sortedS J=true->Q (.ref p) (upd H p (.lst (J.map V.str)))):=by
 intro pins s σ H xs us Q I r h;obtain⟨a,ss,rfl,hq,aa,q⟩:=h;obtain⟨u,rfl,ru⟩:=vals1 r
 cases ru;obtain⟨U,Y,pl,hz⟩:=I.list hq;have hl:U.length=ss.length:=by rw[<-Y.length,Q03]
 refine sorted_strs pl.isList (Ay Y) (by omega) λout J h1 h2 h3=>?_;obtain⟨e,he⟩:=sortedAll_at s.heap U out;refine⟨.ref (s.heap.objs.size+1),upd H (s.heap.objs.size+1) (.lst (J.map V.str)),I.laid (t':=s.toks) (λ_ _=>sortedAll_old) (Q1b _) ?_,rfl,q _ J (I.hok.fresh (Q1b _)) h2 h3⟩;refine⟨?_,out.toList,e,Az h1,he⟩;rw[Q03,h2.length_eq];have:ss.length<=1000:=by omega
 exact Q0k (gz this)
noncomputable def mE (I:List Value) (i:Nat):Bool:=match I[i]? with
 |some (.bool b)=>b
 |_=>false
theorem Ge:∀{bs:List Bool}{I:List Value},Vals (bs.map V.bl) I->(List.range I.length).all (mE I)=bs.all id:=by
 intro bs I r
 have key:∀i,i<bs.length->mE I i=bs.getD i false:=λi hi=>by
  have e:(bs.map V.bl)[i]? =some (.bl bs[i]):=by rw[Q0r,Q02 hi];rfl
  obtain⟨u,U,Y⟩:=r.get e
  cases Y;unfold mE;rw[U,Q0d,Q02 hi];rfl
 have hl:I.length=bs.length:=by rw[<-r.length,Q03]
 rw[hl,Bool.eq_iff_iff,Q12,Q12];constructor
 . intro h b hb;obtain⟨i,hi,e⟩:=Q13 hb;have q:=h i (List.mem_range.mpr hi);rw[key i hi,Q0d,Q02 hi,Q2x,e] at q;exact q
 . intro h i hi;have J:=List.mem_range.mp hi;rw[key i J,Q0d,Q02 J,Q2x];exact h _ (Q0u J)
theorem qD (hc:X.calm=true):ji X (.builtin "all") (λxs H Q=>∃(a:Addr) (bs:List Bool),xs=[.ref a]/\eA X.K H a (bs.map V.bl)/\Q (.bl (bs.all id)) H):=by
 intro pins s σ H xs us Q I r h;obtain⟨a,bs,rfl,hq,q⟩:=h;obtain⟨u,rfl,ru⟩:=vals1 r
 cases ru;obtain⟨J,rv,pl,hz⟩:=I.list hq;have aa:a<s.heap.objs.size:=by obtain⟨_,e,_⟩:=pl.isList;exact Q01 e
 refine call_all_walk (wpAny_pyIter_list pl.isList ?_);refine⟨s.heap.objs.size,_,_,_,_,_,mE J,rfl,Walks.list (show X.A.in1.handled=none from I.ok.hd hc) s.heap.objs.size a (Q0a aa) J.toArray,⟨⟨_,Q0o _ rfl,rfl,rfl⟩,pl.isList.push _⟩,λi v s' Q' E' hP hQ=>?_,λh' tk hk=>?_⟩
 . have e:J[i]? =some v:=by simpa using hP
   have hi:i<J.length:=(List.getElem?_eq_some_iff.mp e).1;have hb:i<(bs.map V.bl).length:=by rw[rv.length];exact hi
   obtain⟨w',ew,U⟩:=rv.get (Q02 hb);rw[e] at ew;cases ew;rw[List.getElem_map] at U
   cases U;refine wpAny_truthy_bool ?_;have Y:mE J i=bs[i]'(by simpa using hb):=by unfold mE;rw[e]
   rw[Y] at hQ;exact hQ
 . have e:(List.range J.toArray.size).all (mE J)=bs.all id:=by rw[Q0f];exact Ge rv
   rw[e];have ns:H s.heap.objs.size=none:=I.hok.fresh (Q00 _);refine⟨.bl (bs.all id),H,I.kept (h':=h') (t':=tk) λb o Y=>hk b o ?_ (Q07 _ Y),rfl,q⟩;intro hm;have:b=s.heap.objs.size:=by simpa using hm
   exact absurd (Q01 Y) (by rw[this];exact Q0m _)
noncomputable def Ite (K:W.Frag) (a:Addr):It:=
 ⟨λi H=>∃xs x,eA K H a xs/\xs[i]? =some x,
  λi H x H'=>∃p y,H p=none/\x=.ref p/\(∀xs,eA K H a xs->xs[i]? =some y)/\H'=upd H p (.tup [.int i,y]),
  λi H=>∃xs,eA K H a xs/\xs.length<=i⟩
theorem Gf {P:Program}{w:World}{K:W.Frag}{ac:List Expr}{k:Nat}{tpos:Pos}{a e it:Addr}(aa:e≠it):
 Turn P w K (.Tuple ac k tpos) (Ite K a) [e,it] e (λi h=>∃U,IsEnum h e it (i:Int) U/\h.IsListIter it a i) where
 mem:=by simp
 obj:=λi h st b J=>by
  obtain⟨U,h1,h2⟩:=st;have J:b=e\/b=it:=by simpa using J
  rcases J with rfl|rfl
  . exact⟨_,h1,λv z=>by
     have z:Data.fields _=Data.cell v:=z
     cases z⟩
  . obtain⟨o,q,c,d⟩:=h2;exact⟨o,q,λv z=>by rw[d] at z;cases z⟩
 keep:=λi h h' st k=>by
  obtain⟨U,h1,h2⟩:=st;exact⟨U,k e (by simp) _ h1,h2.at λo q=>k it (by simp) o q⟩
 item:=by
  intro X hP hw hK hc i pins s σ H E I hf st hg;subst hP hw hK;obtain⟨U,h1,h2⟩:=st;obtain⟨xs,x,hq,hx⟩:=hg;obtain⟨ae,rv,p,hz⟩:=I.list hq;obtain⟨u,hu,ru⟩:=rv.get hx;obtain⟨e0,e1,e2,e3,e4,e5⟩:=hf e (by simp);obtain⟨f0,f1,f2,f3,f4,f5⟩:=hf it (by simp);have fr:H s.heap.objs.size=none:=I.hok.fresh (Q00 _);refine wpAny_pyNext_enum_item h1 h2 p.isList (x:=u) (by simpa using hu) aa λh' q1 q2 q3 q4 q5=>?_;refine(Zr rfl (wpAny_letOwnedTupleGo_enum (s:={ s with heap:=h',toks:=s.toks+1 }) q1 λY g1 g2=>?_));have af:∀b o,s.heap.get? b=some o->b≠s.heap.objs.size:=λb o q=>Q0a (Q01 q);have kk:∀b o,b≠e->b≠it->s.heap.get? b=some o->Y.get? b=some o:=λb o n1 n2 q=>g2.extBut b o n1 (q5 b o n1 n2 q);have pe:s.heap.objs.size≠e:=Q0t (Q01 h1);have tup:Y.get? s.heap.objs.size=some { cls:=.type "tuple",data:=.seq #[.int i s.toks,u] }:=g2.extBut _ _ pe q3
  have I1:Inv X pins σ (upd H s.heap.objs.size (.tup [.int i,x])) { s with heap:=Y,toks:=s.toks+1 }:=by
   refine I.step (g':=s.gens) (d':=s.drawn) (ch:=[e,it]) (λb J=>?_) (λb o _ _ hc q _=>?_) (λb o _ _ hc q _=>?_) (λb o _ q n=>?_) (λb o hc q=>?_) (λb ys q=>?_) (λb o v q=>?_) (λb ps q=>?_) (λm hm=>?_) (λb o q=>?_) I.bare
   . have J:b=e\/b=it:=by simpa using J
     rcases J with rfl|rfl
     . exact⟨e3,e1,e4,e5⟩
     . exact⟨f3,f1,f4,f5⟩
   . exact kk b o (λz=>hc (by simp[z])) (λz=>hc (by simp[z])) q
   . exact⟨o.slots,kk b o (λz=>hc (by simp[z])) (λz=>hc (by simp[z])) q⟩
   . rw[eu (af b o q)];exact n
   . exact⟨o,kk b o (λz=>hc (by simp[z])) (λz=>hc (by simp[z])) q⟩
   . rw[eu (eL q fr)];exact q
   . rw[eu (eL q fr)];exact q
   . exact⟨#[],by rw[eu (eL q fr),q];simp⟩
   . obtain⟨o,es,ep,ho,r⟩:=hm;exact⟨o,es,ep,kk _ o (Ne.symm e1) (Ne.symm f1) ho,r⟩
   . by_cases J:b=s.heap.objs.size
     . subst J;rw[eF] at q;cases q;refine⟨wH,[.int i s.toks,u],.cons ⟨_,rfl⟩ (.cons ru .nil),?_⟩;exact⟨_,tup,rfl,_,rfl⟩
     . rw[eu J] at q;refine(I.hok b o q).stay (λc v ab z=>kk c v ?_ ?_ z) (λc z=>by rw[eu (eL z fr)];exact z) λc ys z=>by rw[eu (eL z fr)];exact z
       . rcases ab with z|z
         . rw[z];exact eL q e0
         . exact eL z e0
       . rcases ab with z|z
         . rw[z];exact eL q f0
         . exact eL z f0
  refine⟨.ref s.heap.objs.size,_,I1,rfl,⟨s.heap.objs.size,x,fr,rfl,λys hy=>by rw[I.qm hy hq];exact hx,rfl⟩,⟨u,?_,q2.extBut g2.extBut (Ne.symm aa)⟩,λb J=>?_⟩
  . have ei:((i+1:Nat):Int)=(i:Int)+1:=by omega
    show IsEnum Y e it ((i+1:Nat):Int) u;rw[ei];exact g1
  . have ag:b=e\/b=it:=by simpa using J
    have ah:b<s.heap.objs.size:=by
     rcases ag with rfl|rfl
     . exact Q01 h1
     . obtain⟨o,q,_⟩:=h2;exact Q01 q
    rw[eu (Q0a ah)];exact(hf b J).1
 done:=by
  intro X hP hw hK hc i pins s σ H E I hf st hg;subst hP hw hK;obtain⟨U,h1,h2⟩:=st;obtain⟨xs,hq,hx⟩:=hg;obtain⟨ae,rv,p,hz⟩:=I.list hq;obtain⟨f0,f1,f2,f3,f4,f5⟩:=hf it (by simp);have hl:=rv.length;exact wpAny_pyNext_enum_end (I.ok.hd hc) h1 h2 p.isList (by simp;omega) λh' eb=>⟨rfl,I.turned (t':=s.toks) (λb o J q=>eb b o J q) f0 f1 f3 f4 f5⟩
 self:=λA i s Q E st q=>by
  obtain⟨U,h1,_⟩:=st;exact wpAny_pyIter_enum h1 q
def Gg (K:W.Frag) (ta:TA):TI:=λσ H R=>ta σ H λvs H1=>∃a,vs=[.ref a]/\(∃xs,eA K H1 a xs)/\R (Ite K a) H1
theorem Gh:bootBuiltins "enumerate"=some (.type "enumerate"):=by decide +kernel
theorem tO {a:Expr}{ta:TA}{p pos tpos:Pos}{Y:List Expr}{k:Nat}(hg:Gl X "enumerate")(hm:X.mg "enumerate"=none)(ha:PA X [a] ta)(hs:starEach [a] X.env=[(false,eval a X.env)]:=by rfl):
 PI X (.Tuple Y k tpos) (.Call (.Name "enumerate" p) [a] [] pos) (Gg X.K ta):=by
 intro pins s σ H R I h;refine Call_ (l_ I hg hm Gh (PyProof.Rows.callWith_type1 (e_ (ha pos pins s σ H _ I h) λus J zq=>?_) hs rfl));obtain⟨vs,H1,I1,r1,q1⟩:=zq;obtain⟨l,e,⟨xs,hq⟩,q⟩:=q1;subst e;obtain⟨u,rfl,ru⟩:=vals1 r1
 cases ru;obtain⟨aa,rv,pl,hz⟩:=I1.list hq;refine call_enumerate_list pl.isList λh' q1 q2 q3 q4=>?_;refine wpAny_pyIter_enum q1 ?_;have I2:Inv X pins σ H1 { J with heap:=h' }:=I1.kept (t':=J.toks) q4;refine⟨J.heap.objs.size+1,[J.heap.objs.size+1,J.heap.objs.size],_,_,H1,rfl,I2,Gf (Q0t (Q10 _)),⟨.none,q1,q2⟩,λb U=>?_,q⟩
 have U:J.heap.objs.size<=b:=by
  have U:b=J.heap.objs.size+1\/b=J.heap.objs.size:=by simpa using U
  rcases U with z|z
  . rw[z];exact Q1b _
  . rw[z];exact Q00 _
 exact I1.mf U (I1.hok.fresh U)
theorem boot_zip:bootBuiltins "zip"=some (.type "zip"):=by decide +kernel
theorem Gi:gH X (binaryOp .Mult) (λx y H Q=>∃z i,x=.str z/\y=.int i/\MulOk z i/\Q (.str (Txt.mul z i)) H):=by
 intro pins s σ H x y v u Q I J U h;obtain⟨z,i,rfl,rfl,ok,q⟩:=h;obtain⟨t,rfl⟩:=J;obtain⟨t',rfl⟩:=U;exact SB.mul ok λY k=>⟨.str (Txt.mul z i),H,I.tok k,⟨_,rfl⟩,q⟩
theorem AB {v:Value}{o:Option Int}(h:IsPart v o):(v=.none/\o=none)\/∃i t,v=.int i t/\o=some i:=by
 cases h with
 |none=>exact .inl ⟨rfl,rfl⟩
 |int i t=>exact .inr ⟨i,t,rfl,rfl⟩
theorem qE:sZ X (λx lo hi H Q=>∃z,x=.str z/\z.length<=sizeLine/\Q (.str (Txt.slice z lo hi)) H):=by
 intro pins s σ H x v vl vu lo hi sl Q I rx hs pl pu h;obtain⟨z,rfl,hz,q⟩:=h;obtain⟨t,rfl⟩:=rx
 have fin:∀{lo hi:Option Int} (q:Q (.str (Txt.slice z lo hi)) H),(Txt.slice z lo hi).length<=sizeLine/\∀t' k,EP X pins σ Q (.str (Txt.slice z lo hi) t') { s with toks:=k }:=
  λq=>⟨Q0e (Txt.slice_le z _ _) hz,λt' k=>⟨.str _,H,I.tok k,⟨t',rfl⟩,q⟩⟩
 refine⟨"str",_,F.slot_str_getitem.lookup,typeIs_str _ _ _,?_⟩;obtain⟨o,J,hc,U⟩:=hs;rcases AB pl with⟨Y,rfl⟩|⟨i,ti,Y,rfl⟩ <;> rcases AB pu with⟨e2,rfl⟩|⟨j,tj,e2,rfl⟩ <;> subst Y <;> subst e2
 . exact wpAny_getItem_str_slice (l:=none) (u:=none) (st:=none) ⟨o,J,hc,U⟩ rfl (post_val_or_str (fin q))
 . exact wpAny_getItem_str_slice (l:=none) (u:=some (j,tj)) (st:=none) ⟨o,J,hc,U⟩ rfl (post_val_or_str (fin q))
 . exact wpAny_getItem_str_slice (l:=some (i,ti)) (u:=none) (st:=none) ⟨o,J,hc,U⟩ rfl (post_val_or_str (fin q))
 . exact wpAny_getItem_str_slice (l:=some (i,ti)) (u:=some (j,tj)) (st:=none) ⟨o,J,hc,U⟩ rfl (post_val_or_str (fin q))
end
theorem yes {σ:St}{H:Hp}{Q:Bool->Hp->Prop}(h:Q true H):kM σ H Q:=h
section
variable {K:W.Frag}{σ:St}{H:Hp}{Q:VK}{D:Ends}
theorem jj {i:Nat}{a b:Str}{T U:TS}(h:σ[i]? =some (some (.str a)))(I:decide (V.str a=V.str b)=true)(q:T D σ H):ky (lD (gI kH (fF i) (tC (.str b)))) T U D σ H:=
 ⟨_,h,rfl,Zr rfl (by rw[I];exact fv q)⟩
theorem gR {i:Nat}{a b:Str}{T U:TS}(h:σ[i]? =some (some (.str a)))(I:decide (V.str a=V.str b)=false)(q:U D σ H):ky (lD (gI kH (fF i) (tC (.str b)))) T U D σ H:=
 ⟨_,h,rfl,Zr rfl (by rw[I];exact fk q)⟩
theorem ik {i:Nat}{p:Addr}{xs:List V}{a b:Str}{T U:TS}(h:σ[i]? =some (some (.ref p)))(h2:H p=some (.tup xs))(I:xs[0]? =some (.str a))(J:decide (V.str a=V.str b)=true)(q:T D σ H):
 ky (lD (gI kH (gI (i9 K) (fF i) (tC (.int 0))) (tC (.str b)))) T U D σ H:=
 ⟨_,h,p,xs,0,.str a,rfl,rfl,d_.of h2,gY (j:=0) I,rfl,Zr rfl (by rw[J];exact fv q)⟩
theorem fU {i:Nat}{p:Addr}{xs:List V}{a b:Str}{T U:TS}(h:σ[i]? =some (some (.ref p)))(h2:H p=some (.tup xs))(I:xs[0]? =some (.str a))(J:decide (V.str a=V.str b)=false)(q:U D σ H):
 ky (lD (gI kH (gI (i9 K) (fF i) (tC (.int 0))) (tC (.str b)))) T U D σ H:=
 ⟨_,h,p,xs,0,.str a,rfl,rfl,d_.of h2,gY (j:=0) I,rfl,Zr rfl (by rw[J];exact fk q)⟩
end
end L2
namespace L2
noncomputable def tQ (own N:List Str) (scope sc:Scope):Bool:=
 scope.names.all (λy=>decide (y.2≠ .cell)) && scope.names.all (λy=>decide (y.2=.local->scope.names.lookup y.1=some .local)) &&
 scope.names.all (λy=>decide (y.2=.free->sc.names.lookup y.1=some .cell\/sc.names.lookup y.1=some .free)) && decide (own++N).Nodup && N.all λx=>decide (scope.names.lookup x≠some .local)
theorem i_.of {X:Cx}{own N:List Str}{scope sc:Scope}(I:X.env.scope=sc)(J:X.N=N)(k:scope.kind=.function)(c:tQ own N scope sc=true):i_ X own scope:=by
 unfold tQ at c;simp only[Bool.and_eq_true,Q12,decide_eq_true_eq] at c;obtain⟨⟨⟨⟨U,Y⟩,c3⟩,c4⟩,c5⟩:=c;exact⟨k,U,Y,λy hy hf=>by rw[show X.env.kindOf y.1=X.env.scope.names.lookup y.1 from rfl,I];exact c3 y hy hf,by rw[J];exact c4,by rw[J];exact c5⟩
end L2
namespace kP
open W PyProof.Rows
noncomputable def fL {α:Type}(f:Nat->Nat->Bool):KasT α->α
 | .ret a=>a
 | .ask i j k=>fL f (k (f i j))
theorem nI {α I:Type}(f:Nat->Nat->Bool)(g:α->KasT I):∀t:KasT α,fL f (t.bind g)=fL f (g (fL f t))
 | .ret _=>rfl
 | .ask i j k=>nI f g (k (f i j))
def Bn {α:Type}(n:Nat) (R:α->Prop):KasT α->Prop
 | .ret a=>R a
 | .ask i j k=>i<n/\j<n/\∀b,Bn n R (k b)
theorem Bn.bind {α I:Type}{n:Nat}{R:α->Prop}{S:I->Prop}{g:α->KasT I}:∀{t:KasT α},Bn n R t->(∀a,R a->Bn n S (g a))->Bn n S (t.bind g)
 | .ret a,h,k=>k a h
 | .ask i j q,h,k=>⟨h.1,h.2.1,λb=>Bn.bind (h.2.2 b) k⟩
theorem AD {α:Type}{n:Nat}{R:α->Prop}{f:Nat->Nat->Bool}{I:Nat->Nat->(Bool->Shared->Prop)->Shared->Prop}{Q:α->Shared->Prop}{s:Shared}
 (h:∀i j (C:Bool->Shared->Prop),i<n->j<n->C (f i j) s->I i j C s):∀{t:KasT α},Bn n R t->Q (fL f t) s->t.kasWp I Q s
 | .ret a,_,q=>q
 | .ask i j k,b,q=>h i j _ b.1 b.2.1 (AD h (b.2.2 (f i j)) q)
def Lt (n:Nat) (p:Array Nat):Prop:=0<n/\∀x∈p,x<n
theorem Lt.at {n:Nat}{p:Array Nat}(h:Lt n p)(i:Nat):p.getD i 0<n:=by
 rw[Q1j]
 cases e:p[i]? with
 |none=>exact h.1
 |some x=>exact h.2 x (Array.mem_of_getElem? e)
theorem Lt.perm {n:Nat}{p q:Array Nat}(h:Lt n p)(hp:q.Perm p):Lt n q:=⟨h.1,λx I=>h.2 x (hp.mem_iff.mp I)⟩
theorem kQ (p:Array Nat)(i j:Nat):(kas_rev p i j).Perm p:=mirror_perm _ _ _ _
theorem Gj (p:Array Nat)(i j:Nat):(kas_rev p i j).size=p.size:=mirror_size _ _ _ _
theorem tR {n:Nat}{p:Array Nat}(h:Lt n p):∀f m,Bn n (λ_=>True) (kas_asc p f m)
 |0,_=>trivial
 |f+1,m=>⟨h.at _,h.at _,λb=>by
   cases b with
   |true=>exact trivial
   |false=>exact tR h f (m+1)⟩
theorem qF {n:Nat}:∀f (p:Array Nat) m q,Lt n p->Bn n (λr:Array Nat × Nat × Nat=>Lt n r.1) (kas_desc f p m q)
 |0,_,_,_,h=>h
 |f+1,p,m,q,h=>⟨h.at _,h.at _,λb=>by
   cases b with
   |true=>
    show Bn n _ (if q > 0 then kas_desc f (kas_rev p (m - (q+1)) m) (m+1) 0 else kas_desc f p (m+1) 0);split
    . exact qF f _ _ _ (h.perm (kQ _ _ _))
    . exact qF f _ _ _ h
   |false=>
    refine⟨h.at _,h.at _,λd=>?_⟩
    cases d with
    |true=>exact h
    |false=>exact qF f _ _ _ h⟩
theorem AE {n m r:Nat}{p:Array Nat}(h:Lt n p):Bn n (λq:Nat × Array Nat=>Lt n q.2) (kas_tail3 m r p):=
 (tR (h.perm (kQ _ _ _)) _ _).bind λ_ _=>h.perm (kQ _ _ _)
theorem AG {n m r:Nat}{p:Array Nat}(h:Lt n p):Bn n (λq:Nat × Array Nat=>Lt n q.2) (kas_descPart m r p):=by
 refine(qF _ _ _ _ h).bind λa I=>?_;split
 . exact AE (I.perm (kQ _ _ _))
 . exact AE I
theorem Gk {n r:Nat}{p:Array Nat}(h:Lt n p):Bn n (λq:Nat × Array Nat=>Lt n q.2) (kas_count r p):=by
 refine(tR h _ _).bind λa _=>?_;split
 . exact h
 split
 . refine⟨h.at _,h.at _,λb=>?_⟩
   cases b with
   |true=>exact h
   |false=>exact AG (h.perm (kQ _ _ _))
 . exact AG h
theorem tT {n k:Nat}{p:Array Nat}(h:Lt n p):∀f l r,Bn n (λ_=>True) (kas_place p k f l r)
 |0,_,_=>trivial
 |f+1,l,r=>by
  unfold kas_place;split
  . exact trivial
  . refine⟨h.at _,h.at _,λb=>?_⟩
    cases b with
    |true=>exact tT h f _ _
    |false=>exact tT h f _ _
theorem AH {n:Nat}:∀f (p:Array Nat) k,Lt n p->Bn n (λ_=>True) (kas_bin f p k)
 |0,_,_,_=>trivial
 |f+1,p,k,h=>(tT h _ _ _).bind λl _=>AH f _ _ (h.perm (bubble_perm _ _ _))
theorem Gm {n:Nat}(I:0<n):Bn n (λ_=>True) (kas_sort n):=by
 have h:Lt n (List.toArray (List.range n)):=⟨I,λx J=>by simpa using J⟩;refine(Gk h).bind λr U=>?_;split
 . exact AH _ _ _ U
 . exact trivial
section
variable {O:KeyOrd}(key:Nat->O.α)
noncomputable def fZ:Nat->Nat->Bool:=λi j=>O.blt (key i) (key j)
noncomputable def Kp (p:Array Nat) (i:Nat):O.α:=key (p.getD i 0)
def ja (p:Array Nat) (k:Nat):Prop:=∀i j,i<=j->j<k->O.kle (Kp key p i) (Kp key p j)
def jy (p:Array Nat) (k:Nat):Prop:=∀i j,i<=j->j<k->O.kle (Kp key p j) (Kp key p i)
variable {key}
theorem ja.succ {p:Array Nat}{n:Nat}(h:ja key p n)(h1:1<=n)(e:O.kle (Kp key p (n - 1)) (Kp key p n)):ja key p (n+1):=by
 intro i j I U;by_cases J:j<n
 . exact h i j I J
 . have:j=n:=by omega
   subst this;by_cases hi:i=j
   . subst hi;exact KeyOrd.kle_refl _
   . exact KeyOrd.kle_trans (h i (j - 1) (by omega) (by omega)) e
theorem jy.succ {p:Array Nat}{n:Nat}(h:jy key p n)(h1:1<=n)(e:O.kle (Kp key p n) (Kp key p (n - 1))):jy key p (n+1):=by
 intro i j I U;by_cases J:j<n
 . exact h i j I J
 . have:j=n:=by omega
   subst this;by_cases hi:i=j
   . subst hi;exact KeyOrd.kle_refl _
   . exact KeyOrd.kle_trans e (h i (j - 1) (by omega) (by omega))
theorem pd {p q:Array Nat}{i j:Nat}(h:p[i]? =q[j]?):Kp key p i=Kp key q j:=by
 unfold Kp;rw[Q1j,Q1j,h]
theorem tU {p:Array Nat}{i j:Nat}(I:j<=p.size)(k:Nat):Kp key (kas_rev p i j) k=if i<=k/\k<j then Kp key p (i+j - 1 - k) else Kp key p k:=by
 have e:=getElem?_mirror_all (i:=i) I k;by_cases h1:i<=k/\k<j
 . rw[if_pos h1] at e ⊢;exact pd e
 . rw[if_neg h1] at e ⊢;exact pd e
theorem tV {p:Array Nat}{i j:Nat}(J:j<=p.size)(I:∀k,i<=k->k<j->Kp key p k=Kp key p (j - 1))(k:Nat):Kp key (kas_rev p i j) k=Kp key p k:=by
 rw[tU J];split
 . rw[I _ (by omega) (by omega),I k (by omega) (by omega)]
 . rfl
theorem Gn {p:Array Nat}{src d:Nat}(I:src<p.size)(J:d<=src)(k:Nat):
 Kp key (bubble p src d) k=if k=src - d then Kp key p src else if src - d<k/\k<=src then Kp key p (k - 1) else Kp key p k:=by
 have e:=getElem?_bubble I d J k;by_cases h1:k=src - d
 . rw[if_pos h1] at e ⊢;exact pd e
 . rw[if_neg h1] at e ⊢;by_cases h2:src - d<k/\k<=src
   . rw[if_pos h2] at e ⊢;exact pd e
   . rw[if_neg h2] at e ⊢;exact pd e
theorem jy.congr {p q:Array Nat}{n:Nat}(h:jy key p n)(e:∀k,Kp key q k=Kp key p k):jy key q n:=λi j a b=>by
 rw[e,e];exact h i j a b
theorem tW {p:Array Nat}:∀f n,1<=n->ja key p n->n<=fL (fZ key) (kas_asc p f n)/\fL (fZ key) (kas_asc p f n)<=n+f/\ja key p (fL (fZ key) (kas_asc p f n))/\
 (fL (fZ key) (kas_asc p f n)<n+f->O.klt (Kp key p (fL (fZ key) (kas_asc p f n))) (Kp key p (fL (fZ key) (kas_asc p f n) - 1)))
 |0,n,_,h=>⟨Q00 _,Q00 _,h,λz=>absurd z (Q0m _)⟩
 |f+1,n,h1,h=>by
  have e:fL (fZ key) (kas_asc p (f+1) n)=fL (fZ key) (if O.blt (Kp key p n) (Kp key p (n - 1))=true then .ret n else kas_asc p f (n+1)):=rfl;rw[e]
  cases c:O.blt (Kp key p n) (Kp key p (n - 1)) with
  |true=>
   rw[if_pos rfl];exact⟨Q00 _,Q1k _ _,h,λ_=>c⟩
  |false=>
   rw[if_neg (by simp)];obtain⟨U,Y,I,J⟩:=tW f (n+1) (by omega) (h.succ h1 c);exact⟨by omega,by omega,I,λz=>J (by omega)⟩
structure DI (O:KeyOrd) (key:Nat->O.α) (p₀:Array Nat) (p:Array Nat) (n q:Nat):Prop where
 perm:p.Perm p₀
 non:jy key p n
 one:q+1<=n
 size:n<=p.size
 eq:∀k,n - (q+1)<=k->k<n->Kp key p k=Kp key p (n - 1)
theorem qG {I:Array Nat}:∀f (p:Array Nat) n q,DI O key I p n q->n+f<=I.size->
 ∃J n' U,fL (fZ key) (kas_desc f p n q)=(J,n',U)/\DI O key I J n' U/\n'<=n+f
 |0,p,n,q,d,_=>⟨p,n,q,rfl,d,Q00 _⟩
 |f+1,p,n,q,d,hs=>by
  have hsz:p.size=I.size:=d.perm.size_eq
  have e:fL (fZ key) (kas_desc (f+1) p n q)=fL (fZ key) (if O.blt (Kp key p n) (Kp key p (n - 1))=true then(if q > 0 then kas_desc f (kas_rev p (n - (q+1)) n) (n+1) 0 else kas_desc f p (n+1) 0)
   else .ask (p.getD (n - 1) 0) (p.getD n 0) λd=>if d=true then .ret (p,n,q) else kas_desc f p (n+1) (q+1)):=rfl
  rw[e];have one:=d.one
  cases c:O.blt (Kp key p n) (Kp key p (n - 1)) with
  |true=>
   rw[if_pos rfl];have cl:O.kle (Kp key p n) (Kp key p (n - 1)):=KeyOrd.kle_of_klt c;by_cases hq:q > 0
   . rw[if_pos hq];have ek:∀k,Kp key (kas_rev p (n - (q+1)) n) k=Kp key p k:=tV d.size d.eq
     have d':DI O key I (kas_rev p (n - (q+1)) n) (n+1) 0:=⟨(kQ _ _ _).trans d.perm,(d.non.succ (by omega) cl).congr ek,by omega,by rw[Gj];omega,λk h1 h2=>by
      have:k=n:=by omega
      subst this;rfl⟩
     obtain⟨J,n',U,Y,r2,r3⟩:=qG f _ _ _ d' (by omega);exact⟨J,n',U,Y,r2,by omega⟩
   . rw[if_neg hq]
     have d':DI O key I p (n+1) 0:=⟨d.perm,d.non.succ (by omega) cl,by omega,by omega,λk h1 h2=>by
      have:k=n:=by omega
      subst this;rfl⟩
     obtain⟨J,n',U,Y,r2,r3⟩:=qG f _ _ _ d' (by omega);exact⟨J,n',U,Y,r2,by omega⟩
  |false=>
   rw[if_neg (by simp)];have e2:fL (fZ key) (.ask (p.getD (n - 1) 0) (p.getD n 0) λd=>if d=true then .ret (p,n,q) else kas_desc f p (n+1) (q+1))=fL (fZ key) (if O.blt (Kp key p (n - 1)) (Kp key p n)=true then .ret (p,n,q) else kas_desc f p (n+1) (q+1)):=rfl;rw[e2]
   cases c2:O.blt (Kp key p (n - 1)) (Kp key p n) with
   |true=>
    rw[if_pos rfl];exact⟨p,n,q,rfl,d,by omega⟩
   |false=>
    rw[if_neg (by simp)];have ee:Kp key p n=Kp key p (n - 1):=O.total _ _ c c2
    have d':DI O key I p (n+1) (q+1):=⟨d.perm,d.non.succ (by omega) (by rw[ee];exact KeyOrd.kle_refl _),by omega,by omega,λk h1 h2=>by
     show Kp key p k=Kp key p n;by_cases hk:k=n
     . rw[hk]
     . rw[ee];exact d.eq k (by omega) (by omega)⟩
    obtain⟨J,n',U,Y,r2,r3⟩:=qG f _ _ _ d' (by omega);exact⟨J,n',U,Y,r2,by omega⟩
def pf (O:KeyOrd) (key:Nat->O.α) (I:Array Nat) (nrem:Nat) (r:Nat × Array Nat):Prop:=r.2.Perm I/\1<=r.1/\r.1<=nrem/\ja key r.2 r.1
theorem AI {I p:Array Nat}{n nrem:Nat}(hp:p.Perm I)(h1:1<=n)(hn:n<=nrem)(hs:nrem<=I.size)(h:jy key p n):pf O key I nrem (fL (fZ key) (kas_tail3 n nrem p)):=by
 have hsz:p.size=I.size:=hp.size_eq;unfold kas_tail3;rw[nI]
 have J:ja key (kas_rev p 0 n) n:=λi j Y hj=>by
  rw[tU (by omega),tU (by omega),if_pos (by omega),if_pos (by omega)];exact h _ _ (by omega) (by omega)
 obtain⟨a1,a2,U,_⟩:=tW (key:=key) (p:=kas_rev p 0 n) (nrem - n) n h1 J;exact⟨(kQ _ _ _).trans hp,by show 1<=fL _ _;omega,by show fL _ _<=nrem;omega,U⟩
theorem AJ {I p:Array Nat}{n nrem:Nat}(hp:p.Perm I)(h1:1<=n)(hn:n+1<=nrem)(hs:nrem<=I.size)(h:jy key p (n+1)):pf O key I nrem (fL (fZ key) (kas_descPart n nrem p)):=by
 have hsz:p.size=I.size:=hp.size_eq;unfold kas_descPart;rw[nI]
 have d:DI O key I p (n+1) 0:=⟨hp,h,by omega,by omega,λk h1 h2=>by
  have:k=n:=by omega
  subst this;rfl⟩
 obtain⟨U,n',Y,r1,J,r3⟩:=qG (key:=key) (nrem - (n+1)) p (n+1) 0 d (by omega);rw[r1];have o:=J.one;have sz:=J.size;have aa:U.size=I.size:=J.perm.size_eq;by_cases hq:Y > 0
 . show pf O key I nrem (fL (fZ key) (if Y > 0 then kas_tail3 n' nrem (kas_rev U (n' - (Y+1)) n') else kas_tail3 n' nrem U));rw[if_pos hq];exact AI ((kQ _ _ _).trans J.perm) (by omega) (by omega) hs (J.non.congr (tV J.size J.eq))
 . show pf O key I nrem (fL (fZ key) (if Y > 0 then kas_tail3 n' nrem (kas_rev U (n' - (Y+1)) n') else kas_tail3 n' nrem U));rw[if_neg hq];exact AI J.perm (by omega) (by omega) hs J.non
theorem Gp {p:Array Nat}{nrem:Nat}(h1:1<=nrem)(hs:nrem<=p.size):pf O key p nrem (fL (fZ key) (kas_count nrem p)):=by
 unfold kas_count;rw[nI]
 obtain⟨I,a2,U,a4⟩:=tW (key:=key) (p:=p) (nrem - 1) 1 (Q00 _) (λi j J hj=>by
  have Y:i=0:=by omega
  have e2:j=0:=by omega
  subst Y;subst e2;exact KeyOrd.kle_refl _)
 generalize fL (fZ key) (kas_asc p (nrem - 1) 1)=n at *;by_cases hn:n=nrem
 . rw[if_pos (by simpa using hn)];exact⟨Array.Perm.refl _,I,by show n<=nrem;omega,U⟩
 . rw[if_neg (by simpa using hn)];have cl:O.klt (Kp key p n) (Kp key p (n - 1)):=a4 (by omega);by_cases hg:n > 1
   . rw[if_pos hg]
     have e:fL (fZ key) (.ask (p.getD 0 0) (p.getD (n - 1) 0) λc=>if c=true then .ret (n,p) else kas_descPart n nrem (kas_rev p 0 n))=
      fL (fZ key) (if O.blt (Kp key p 0) (Kp key p (n - 1))=true then .ret (n,p) else kas_descPart n nrem (kas_rev p 0 n)):=rfl
     rw[e]
     cases c:O.blt (Kp key p 0) (Kp key p (n - 1)) with
     |true=>
      rw[if_pos rfl];exact⟨Array.Perm.refl _,I,by show n<=nrem;omega,U⟩
     |false=>
      rw[if_neg (by simp)]
      have all:∀k,0<=k->k<n->Kp key p k=Kp key p (n - 1):=λk _ hk=>by
       have c':O.kle (Kp key p (n - 1)) (Kp key p 0):=c;exact KeyOrd.kle_antisymm (U k (n - 1) (by omega) (by omega)) (KeyOrd.kle_trans c' (U 0 k (by omega) hk))
      have ek:∀k,Kp key (kas_rev p 0 n) k=Kp key p k:=tV (by omega) all;refine AJ (kQ _ _ _) I (by omega) hs (jy.congr (jy.succ (n:=n) (λi j J hj=>?_) I (KeyOrd.kle_of_klt cl)) ek);rw[all i (by omega) (by omega),all j (by omega) (by omega)];exact KeyOrd.kle_refl _
   . rw[if_neg hg];have:n=1:=by omega
     subst this;refine AJ (Array.Perm.refl _) I (by omega) hs (jy.succ (n:=1) (λi j J hj=>?_) I (KeyOrd.kle_of_klt cl));have Y:i=0:=by omega
     have e2:j=0:=by omega
     subst Y;subst e2;exact KeyOrd.kle_refl _
theorem tX {p:Array Nat}{k:Nat}(h:ja key p k):∀f l r,l<=r->r<=k->r - l<=f->(∀i,i<l->O.kle (Kp key p i) (Kp key p k))->(∀i,r<=i->i<k->O.klt (Kp key p k) (Kp key p i))->
 ∃m,fL (fZ key) (kas_place p k f l r)=m/\m<=k/\(∀i,i<m->O.kle (Kp key p i) (Kp key p k))/\(∀i,m<=i->i<k->O.klt (Kp key p k) (Kp key p i))
 |0,l,r,h1,h2,Y,I,J=>⟨l,rfl,by omega,I,λi a b=>J i (by omega) b⟩
 |f+1,l,r,h1,h2,Y,I,J=>by
  by_cases U:l ≥ r
  . refine⟨l,?_,by omega,I,λi a b=>J i (by omega) b⟩;unfold kas_place;rw[if_pos U];rfl
  . have e:fL (fZ key) (kas_place p k (f+1) l r)=fL (fZ key) (if O.blt (Kp key p k) (Kp key p ((l+r) / 2))=true then kas_place p k f l ((l+r) / 2) else kas_place p k f ((l+r) / 2+1) r):=by
     show fL (fZ key) (if l ≥ r then .ret l else _)=_;rw[if_neg U];rfl
    rw[e]
    cases c:O.blt (Kp key p k) (Kp key p ((l+r) / 2)) with
    |true=>
     rw[if_pos rfl];exact tX h f _ _ (by omega) (by omega) (by omega) I λi a b=>KeyOrd.klt_of_klt_of_kle (show O.klt _ _ from c) (h _ _ a b)
    |false=>
     rw[if_neg (by simp)];exact tX h f _ _ (by omega) h2 (by omega) (λi a=>KeyOrd.kle_trans (h i ((l+r) / 2) (by omega) (by omega)) (show O.kle _ _ from c)) J
theorem AK:∀f (p:Array Nat) k,ja key p k->k+f<=p.size->(fL (fZ key) (kas_bin f p k)).Perm p/\ja key (fL (fZ key) (kas_bin f p k)) (k+f)
 |0,p,k,h,_=>⟨Array.Perm.refl _,h⟩
 |f+1,p,k,h,hs=>by
  have e:fL (fZ key) (kas_bin (f+1) p k)=fL (fZ key) (kas_bin f (bubble p k (k - fL (fZ key) (kas_place p k k 0 k))) (k+1)):=by
   show fL (fZ key) ((kas_place p k k 0 k).bind λl=>kas_bin f (bubble p k (k - l)) (k+1))=_;rw[nI]
  rw[e];obtain⟨m,em,m1,m2,m3⟩:=tX h k 0 k (Q04 _) (Q00 _) (Q00 _) (λi z=>absurd z (Q1l _)) (λi a b=>absurd a (by omega));rw[em];have J:=λi=>Gn (key:=key) (p:=p) (src:=k) (d:=k - m) (by omega) (by omega) i;have hm:k - (k - m)=m:=by omega
  rw[hm] at J
  have hS:ja key (bubble p k (k - m)) (k+1):=by
   intro i j U hj;rw[J i,J j];by_cases Y:i=m
   . rw[if_pos Y];by_cases I:j=m
     . rw[if_pos I];exact KeyOrd.kle_refl _
     . rw[if_neg I,if_pos (by omega)];exact KeyOrd.kle_of_klt (m3 _ (by omega) (by omega))
   . rw[if_neg Y];by_cases li:m<i/\i<=k
     . rw[if_pos li,if_neg (by omega),if_pos (by omega)];exact h _ _ (by omega) (by omega)
     . rw[if_neg li];by_cases I:j=m
       . rw[if_pos I];exact m2 i (by omega)
       . rw[if_neg I];by_cases lj:m<j/\j<=k
         . rw[if_pos lj];exact h _ _ (by omega) (by omega)
         . rw[if_neg lj];exact h _ _ U (by omega)
  obtain⟨b1,b2⟩:=AK f (bubble p k (k - m)) (k+1) hS (by rw[bubble_size];omega);exact⟨b1.trans (bubble_perm _ _ _),by rw[show k+(f+1)=k+1+f by omega];exact b2⟩
theorem Gq {n:Nat}(hn:1<=n):(fL (fZ key) (kas_sort n)).toList.Perm (List.range n)/\((fL (fZ key) (kas_sort n)).toList.map key).Pairwise O.kle:=by
 have hz:(List.toArray (List.range n)).size=n:=by simp
 obtain⟨I,c2,c3,c4⟩:=Gp (key:=key) (p:=List.toArray (List.range n)) (nrem:=n) hn (by omega)
 have main:(fL (fZ key) (kas_sort n)).Perm (List.toArray (List.range n))/\ja key (fL (fZ key) (kas_sort n)) n:=by
  unfold kas_sort;rw[nI];generalize fL (fZ key) (kas_count n (List.toArray (List.range n)))=r at *;obtain⟨m,p⟩:=r;have hsz:p.size=n:=by rw[I.size_eq,hz]
  by_cases hm:m<n
  . show(fL (fZ key) (if m<n then kas_bin (n - max m 1) p (max m 1) else .ret p)).Perm _/\ja key (fL (fZ key) (if m<n then kas_bin (n - max m 1) p (max m 1) else .ret p)) n;rw[if_pos hm];have c2:1<=m:=c2;have em:max m 1=m:=by omega
    rw[em];obtain⟨b1,b2⟩:=AK (key:=key) (n - m) p m c4 (by omega);exact⟨b1.trans I,by rw[show n=m+(n - m) by omega];rw[show m+(n - m) - m=n - m by omega];exact b2⟩
  . show(fL (fZ key) (if m<n then kas_bin (n - max m 1) p (max m 1) else .ret p)).Perm _/\ja key (fL (fZ key) (if m<n then kas_bin (n - max m 1) p (max m 1) else .ret p)) n;rw[if_neg hm];have c3:m<=n:=c3;have:m=n:=by omega
    subst this;exact⟨I,c4⟩
 refine⟨Array.perm_iff_toList_perm.mp main.1,?_⟩;have hsz:(fL (fZ key) (kas_sort n)).size=n:=by rw[main.1.size_eq,hz]
 rw[Q2a,List.pairwise_iff_getElem];intro i j hi hj J;have U:i<(fL (fZ key) (kas_sort n)).size:=by simpa using hi
 have Y:j<(fL (fZ key) (kas_sort n)).size:=by simpa using hj
 have q:=main.2 i j (Q0k J) (by omega);unfold Kp at q;rw[Q1j,Q1j,Q2y U,Q2y Y] at q;simpa using q
end
end kP
namespace L2
open Spec PyProof.Rows
def nJ (c':Addr) (qual:Str):Heap->Prop:=λh=>h.CodeRec (.ref c') qual
def mF (P:Addr) (pos:Pos) (qual:Str) (c':Addr) (H:Hp):Prop:=H P=some (.gF #[rawInt pos.line,rawInt pos.col,.ref c'])/\H c'=some (.ext (nJ c' qual))
def eY (P:Addr) (pos:Pos) (qual:Str) (H:Hp):Prop:=H P=some (.gF #[])\/∃c',mF P pos qual c' H
theorem mF.mono {P:Addr}{pos:Pos}{qual:Str}{c':Addr}{H H':Hp}(h:mF P pos qual c' H)(k:∀b o,(b=P\/b=c')->H b=some o->H' b=some o):mF P pos qual c' H':=⟨k _ _ (.inl rfl) h.1,k _ _ (.inr rfl) h.2⟩
def BM (mg:Str->Option Value) (base:Heap):Prop:=
 ∃I o,mg "__builtins__"=some (.ref I)/\I≠builtinsNs/\I≠mainGlobals/\base.get? I=some o/\o.cls=.type "module"/\o.dict=some builtinsNs/\o.data=.plain
def Gr (P:Addr) (pos:Pos) (qual:Str) (ps:Array Value) (H:Hp):Prop:=H P=some (.gF ps)/\TriplesOk ps.toList/\(codeAmong pos ps.toList=none\/∃c',codeAmong pos ps.toList=some (.ref c')/\H c'=some (.ext (nJ c' qual)))
def Gs (P:Addr) (pos:Pos) (qual:Str) (ps:Array Value) (c':Addr) (H:Hp):Prop:=((codeAmong pos ps.toList=none/\H P=some (.gF (ps++#[rawInt pos.line,rawInt pos.col,.ref c'])))\/(codeAmong pos ps.toList=some (.ref c')/\H P=some (.gF ps)))/\H c'=some (.ext (nJ c' qual))
section
variable {X:Cx}{pins:List (Addr × Obj)}{σ:St}{H:Hp}{s:Shared}
theorem Inv.AM (I:Inv X pins σ H s){P b:Addr}{o:HO}{u:Obj}(e:H P=some o)(J:X.base.get? b=some u):b≠P:=λz=>by
 have:=(I.bs b u J).2;rw[z,e] at this;cases this
theorem Inv.AN (I:Inv X pins σ H s)(B:BM X.mg X.base){P:Addr}{o:HO}(e:H P=some o):s.heap.BuiltinsAt X.mg P:=by
 obtain⟨J,U,b1,b2,b3,Y,b5⟩:=B;exact⟨J,U,b1,b2,b3,I.AM e Y,(I.bs J U Y).1,b5⟩
theorem Inv.adopt {b:Addr}{o:HO}{h':Heap}{t':Nat}(I:Inv X pins σ H s)(f:ir X pins H b)(k:∀c u,c≠b->s.heap.get? c=some u->h'.get? c=some u)(new:gC X.prog X.w (upd H b o) h' b o):
 Inv X pins σ (upd H b o) { s with heap:=h',toks:=t' }:=by
 obtain⟨Y,f1,f2,f3,f4,f5⟩:=f;have J:∀c u,H c=some u->c≠b:=λc u e=>eL e Y
 refine I.step (g':=s.gens) (d':=s.drawn) (ch:=[b]) (λc hc=>?_) (λc u _ _ hc e _=>k c u (λz=>hc (by simp[z])) e) (λc u _ _ hc e _=>⟨u.slots,k c u (λz=>hc (by simp[z])) e⟩) (λc u hc e n=>?_)
  (λc u hc e=>⟨u,k c u (λz=>hc (by simp[z])) e⟩) (λc xs e=>?_) (λc U u e=>?_) (λc ps e=>⟨#[],?_⟩) (λm hm=>?_) (λc u e=>?_) I.bare
 . have e:c=b:=by simpa using hc
   subst e;exact⟨f3,f1,f4,f5⟩
 . rw[eu (λz=>hc (by simp[z]))];exact n
 . rw[eu (J _ _ e)];exact e
 . rw[eu (J _ _ e)];exact e
 . rw[eu (J _ _ e),e];simp
 . obtain⟨U,es,ep,ho,r⟩:=hm;exact⟨U,es,ep,k _ U (Ne.symm f1) ho,r⟩
 . by_cases hc:c=b
   . subst hc;rw[eF] at e;cases e;exact new
   . rw[eu hc] at e;refine(I.hok c u e).stay (λd v hd q=>k d v ?_ q) (λd q=>by rw[eu (J _ _ q)];exact q) λd xs q=>by rw[eu (J _ _ q)];exact q
     rcases hd with z|z
     . rw[z];exact hc
     . exact J _ _ z
theorem Inv.own {b:Addr}{h':Heap}{t':Nat}(I:Inv X pins σ H s)(f:ir X pins H b)(J:Heap.SameBut b s.heap h'):Inv X pins σ H { s with heap:=h',toks:=t' }:=
 I.turned (t':=t') (λc u hc e=>(J.2 c hc).trans e) f.1 f.2.1 f.2.2.2.1 f.2.2.2.2.1 f.2.2.2.2.2
theorem AO {gE:Array Value}{name qual:Str}{U:Arguments}{body:Expr}{scope:Scope}{pos:Pos}{Y:Nat}{cl:List (Str × Addr)}{c P:Addr}{Q:Value->Shared->Prop}{E:Value->Shared->Prop}(I:Inv X pins σ H s)(ab:X.env.code=.ref c)(C:W.CodeHd X.base c P)
 (B:BM X.mg X.base) (T:Gr P pos qual gE H) (ae:closureFor scope X.env=pure cl)
 (h:∀(f c':Addr) (pm aa:Value) (H':Hp) (s':Shared),Inv X (pins++[(f,W.kla_obj name qual U body scope cl pm c' aa)]) σ H' s'->Gs P pos qual gE c' H'->(∀b o,b≠P->H b=some o->H' b=some o)->Q (.ref f) s'):
 wpAny (model X.prog X.w) X.A (makeFunction name qual U (.expr body) scope X.env [] [] [] pos Y) Q E s:=by
 have hg:s.heap.Ns mainGlobals X.mg:=I.mod.glob.keeps I.bk;have C':=C.keeps I.bk
 have af:∀{H':Hp} {s':Shared} {f:Addr} {o:Obj},Inv X pins σ H' s'->s'.heap.get? f=some o->H' f=none->s.heap.objs.size<=f->(∀v,o.data≠ .cell v)->Inv X (pins++[(f,o)]) σ H' s':=λ{H' s' f o} J e n hz d=>
  J.l9 λp hp=>(List.mem_append.mp hp).elim (λz=>J.pin p (Q08 _ z)) λz=>by
    have:p=(f,o):=by simpa using z
    subst this;exact⟨e,n,Q0t (Q09 I.lt hz),I.ni hz,d⟩
 obtain⟨e,ag,ah|⟨c',e1,e2⟩⟩:=T
 . have hP:s.heap.get? P=some (W.tabObj gE):=I.hok P _ e;have ai:P<s.heap.objs.size:=Q01 hP
   have an:mainGlobals≠P:=by
    obtain⟨o,es,ep,eo,_⟩:=I.mod.glob;exact I.AM e eo
   refine W.kla_makeFunction (mg:=X.mg) ae I.ok.glob hg ab C' hP ag ah an (I.AN B e) λc' aa h' tk hx ac aj am ak=>?_;have al:c'≠P:=Q0t (Q09 ai ac);have ao:H c'=none:=I.hok.fresh ac
   have nP:∀b u,H b=some u->u≠ .gF gE->b≠P:=λb u q d z=>by
    rw[z,e] at q;exact d (Option.some.inj q).symm
   have nC:∀b u,H b=some u->b≠c':=λb u q=>eL q ao;have kk:∀(ob:Obj) b u,b≠P->s.heap.get? b=some u->(h'.push ob).get? b=some u:=λob b u hb q=>Q07 _ (hx b u hb q)
   have I1:Inv X pins σ (upd (upd H P (.gF (gE++#[rawInt pos.line,rawInt pos.col,.ref c']))) c' (.ext (nJ c' qual))) { s with heap:=h'.push (W.kla_obj name qual U body scope cl ((X.mg "__name__").getD .none) c' aa),toks:=tk }:=by
    refine I.step (g':=s.gens) (d':=s.drawn) (ch:=[]) (λ_ z=>nomatch z) (λb o _ _ _ q n=>kk _ b o (λz=>by rw[z,e] at n;cases n) q) (λb o _ _ _ q n=>⟨o.slots,kk _ b o (λz=>by rw[z,e] at n;cases n) q⟩)
     (λb o _ q n=>?_) (λb o _ q=>?_) (λb xs q=>?_) (λb o u q=>?_) (λb ps q=>?_) (λm hm=>?_) (λb o q=>?_) I.bare
    . have b1:b≠P:=λz=>by rw[z,e] at n;cases n
      have b2:b≠c':=Q0a (Q09 (Q01 q) ac);rw[eu b2,eu b1];exact n
    . by_cases hb:b=P
      . subst hb;exact⟨_,Q07 _ ak⟩
      . exact⟨o,kk _ b o hb q⟩
    . rw[eu (nC _ _ q),eu (nP _ _ q (by intro z;cases z))];exact q
    . rw[eu (nC _ _ q),eu (nP _ _ q (by intro z;cases z))];exact q
    . by_cases hb:b=P
      . subst hb;rw[e] at q;cases q;exact⟨_,by rw[eu (Ne.symm al),eF]⟩
      . exact⟨#[],by rw[eu (nC _ _ q),eu hb,q];simp⟩
    . obtain⟨o,es,ep,ho,r⟩:=hm;exact⟨o,es,ep,kk _ _ o (λz=>by have:=I.free;rw[z,e] at this;cases this) ho,r⟩
    . by_cases hb:b=c'
      . subst hb;rw[eF] at q;cases q;obtain⟨ar,oc,vs,t,z1,z2,z3,z4⟩:=am
        cases z1;refine⟨⟨_,oc,vs,t,rfl,Q07 _ z2,z3,z4⟩,⟨oc,Q07 _ z2⟩,λh1 h2 y hy=>?_⟩;obtain⟨au,ap,aq,t',y1,y2,y3,y4⟩:=y
        cases y1;exact⟨_,ap,aq,t',rfl,hy _ y2,y3,y4⟩
      . rw[eu hb] at q;by_cases hp:b=P
        . subst hp;rw[eF] at q;cases q;show(h'.push _).get? b=some { cls:=.none,data:=.fields _ };exact Q07 _ ak
        . rw[eu hp] at q;refine(I.hok b o q).stay (λd v hd y=>kk _ d v ?_ y) (λd y=>by rw[eu (nC _ _ y),eu (nP _ _ y (by intro z;cases z))];exact y) λd xs y=>by rw[eu (nC _ _ y),eu (nP _ _ y (by intro z;cases z))];exact y
          rcases hd with z|z
          . rw[z];exact hp
          . exact nP _ _ z (by intro z;cases z)
   have fz:s.heap.objs.size<=h'.objs.size:=Q0k (Q1y ac aj)
   have fn:upd (upd H P (.gF (gE++#[rawInt pos.line,rawInt pos.col,.ref c']))) c' (.ext (nJ c' qual)) h'.objs.size=none:=by
    rw[eu (Q0t aj),eu (Q0t (Q09 ai fz))];exact I.hok.fresh fz
   refine h h'.objs.size c' ((X.mg "__name__").getD .none) aa _ _ (af I1 (Q0o _ rfl) fn fz (by intro v z;cases z)) ⟨.inl ⟨ah,by rw[eu (Ne.symm al),eF]⟩,eF⟩ λb o hb q=>?_;rw[eu (nC _ _ q),eu hb];exact q
 . have hP:s.heap.get? P=some (W.tabObj gE):=I.hok P _ e;refine W.kla_makeFunctionHit (mg:=X.mg) (cv:=.ref c') ae I.ok.glob hg ab C' hP ag e1 (I.AN B e) λaa h' tk hk hsz=>?_;exact h h'.objs.size c' ((X.mg "__name__").getD .none) aa H _ (af (I.kept λb u q=>Q07 _ (hk b u q)) (Q0o _ rfl) (I.hok.fresh hsz) hsz (by intro v z;cases z)) ⟨.inr ⟨e1,e⟩,e2⟩ λb o _ q=>q
theorem Gu {name qual:Str}{aa:Arguments}{body:Expr}{scope:Scope}{pos:Pos}{Y:Nat}{cl:List (Str × Addr)}{c P:Addr}{Q:Value->Shared->Prop}{E:Value->Shared->Prop}(I:Inv X pins σ H s)(ac:X.env.code=.ref c)(C:W.CodeHd X.base c P)
 (B:BM X.mg X.base) (T:eY P pos qual H) (ae:closureFor scope X.env=pure cl)
 (h:∀(f c':Addr) (pm ab:Value) (H':Hp) (s':Shared),Inv X (pins++[(f,W.kla_obj name qual aa body scope cl pm c' ab)]) σ H' s'->mF P pos qual c' H'->(∀b o,b≠P->H b=some o->H' b=some o)->Q (.ref f) s'):
 wpAny (model X.prog X.w) X.A (makeFunction name qual aa (.expr body) scope X.env [] [] [] pos Y) Q E s:=by
 rcases T with e|⟨U,e,ec⟩
 . refine AO (gE:=#[]) I ac C B ⟨e,by simp[TriplesOk],.inl rfl⟩ ae λf c' pm ab H' s' J L m=>h f c' pm ab H' s' J ?_ m;obtain⟨z|z,y⟩:=L
   . exact⟨z.2,y⟩
   . cases z.1
 . refine AO (gE:=#[rawInt pos.line,rawInt pos.col,.ref U]) I ac C B ⟨e,by simp[TriplesOk,rawInt],.inr ⟨U,by simp[codeAmong,rawInt],ec⟩⟩ ae λf c' pm ab H' s' J L m=>h f c' pm ab H' s' J ?_ m;have hc:codeAmong pos [rawInt pos.line,rawInt pos.col,.ref U]=some (.ref U):=by simp[codeAmong,rawInt]
   obtain⟨z|z,y⟩:=L
   . exact absurd (hc.symm.trans z.1) (by intro z;cases z)
   . have:U=c':=by
      have:=hc.symm.trans z.1
      cases this;rfl
     subst this;exact⟨z.2,y⟩
structure kT (X:Cx) (x:Str) (N':List Str) (scope:Scope):Prop where
 kind:scope.kind=.function
 co:scope.isCoroutine=false
 gen:scope.isGenerator=false
 cell:∀y∈scope.names,y.2≠ .cell
 loc:scope.names.lookup x=some .local
 free:∀y∈scope.names,y.2=.free->X.env.kindOf y.1=some .cell\/X.env.kindOf y.1=some .free
 len:N'.length=X.N.length
 outer:∀(i:Nat) (y:Str),N'[i]? =some y->scope.names.lookup y=none\/(X.N[i]? =some y/\scope.names.lookup y≠some .local)
noncomputable def mG (scope:Scope):List Str->List Str->Bool
 |[],[]=>true
 |y::r,z::q=>(decide (scope.names.lookup y=none) || (decide (z=y) && decide (scope.names.lookup y≠some .local))) && mG scope r q
 |_,_=>false
theorem AQ {scope:Scope}:∀{N' N:List Str},mG scope N' N=true->N'.length=N.length
 |[],[],_=>rfl
 |y::r,z::q,h=>by
  simp only[mG,Bool.and_eq_true] at h;rw[Q0j,Q0j,AQ h.2]
theorem AR {scope:Scope}:∀{N' N:List Str},mG scope N' N=true->∀(i:Nat) (y:Str),N'[i]? =some y->scope.names.lookup y=none\/(N[i]? =some y/\scope.names.lookup y≠some .local)
 |[],[],_,i,y,e=>by simp at e
 |w::r,z::q,h,0,y,e=>by
  simp only[mG,Bool.and_eq_true,Bool.or_eq_true,decide_eq_true_eq] at h;have e:some w=some y:=e
  cases e;rcases h.1 with h1|⟨h1,h2⟩
  . exact .inl h1
  . subst h1;exact .inr ⟨rfl,h2⟩
 |w::r,z::q,h,i+1,y,e=>by
  simp only[mG,Bool.and_eq_true] at h;have:=AR h.2 i y (by simpa using e);simpa using this
noncomputable def AS (x:Str) (N' N:List Str) (scope sc:Scope):Bool:=
 scope.names.all (λy=>decide (y.2≠ .cell)) && decide (scope.names.lookup x=some .local) && scope.names.all (λy=>decide (y.2=.free->sc.names.lookup y.1=some .cell\/sc.names.lookup y.1=some .free)) && mG scope N' N
theorem kT.of {x:Str}{N' N:List Str}{scope sc:Scope}(I:X.env.scope=sc)(J:X.N=N)(k:scope.kind=.function)(Y:scope.isCoroutine=false)(c2:scope.isGenerator=false)(c:AS x N' N scope sc=true):kT X x N' scope:=by
 unfold AS at c;simp only[Bool.and_eq_true,Q12,decide_eq_true_eq] at c;obtain⟨⟨⟨a1,a2⟩,a3⟩,U⟩:=c;exact⟨k,Y,c2,a1,a2,λy hy hf=>by rw[show X.env.kindOf y.1=X.env.scope.names.lookup y.1 from rfl,I];exact a3 y hy hf,by rw[J];exact AQ U,by rw[J];exact AR U⟩
noncomputable abbrev qH (qual:Str) (scope:Scope) (cl:List (Str × Addr)) (f c':Addr) (s:Shared):Env:=W.envX qual scope s.heap.objs.size f (.ref c') cl
noncomputable def qI (X:Cx) (x:Str) (N':List Str) (scope:Scope) (cl:List (Str × Addr)) (qual:Str) (f c':Addr) (s:Shared) (H:Hp):Cx:=
 { X with A:=X.A.in1.in1.deeper (qH qual scope cl f c' s),N:=x::N',s₀:=s,H₀:=H,env:=qH qual scope cl f c' s,outer:=X.stack,stack:=qH qual scope cl f c' s::X.stack,ex:=[],fn:=λ_=>false,pn:=[],calm:=true,xe:=λ_ _=>False }
theorem Inv.lam {x:Str}{N':List Str}{scope:Scope}{cl:List (Str × Addr)}{qual:Str}{f c':Addr}{v:V}{u:Value}{U:Heap}{t':Nat}(I:Inv X pins σ H s)(S:kT X x N' scope)(hd:X.A.handled=none)
 (J:∀y c,cl.lookup y=some c->X.env.cells.lookup y=some c) (ab:∀y,(y,NameKind.free)∈scope.names->cl.lookup y=X.env.cells.lookup y) (r:RelV v u)
 (hn:U.Ns s.heap.objs.size (λy=>([(x,u)]:List (Str × Value)).reverse.lookup y)) (aa:∀b o,s.heap.get? b=some o->U.get? b=some o):
 Inv (qI X x N' scope cl qual f c' s H) [] (some v::σ) H { s with heap:=U,toks:=t' }:=by
 have ok:=I.ok
 have Y:∀y,(scope.names.lookup y=some .cell\/scope.names.lookup y=some .free)->(y,NameKind.free)∈scope.names:=λy hy=>by
  rcases hy with hy|hy
  . exact absurd rfl (S.cell _ (PySem.mem_of_lookup hy))
  . exact PySem.mem_of_lookup hy
 refine⟨⟨ok.mod,S.kind,rfl,rfl,Q00 _,λy z c e1 e2=>ok.inj y z c (J y c e1) (J z c e2),λy hy=>?_,λy c hy _=>(nomatch hy),λ_=>hd,Around.frames_deeper (show X.A.in1.in1.frames=some X.stack from ok.frames),.inr ⟨rfl,rfl⟩,λb hb=>absurd (show b∈([]:List Addr) from hb) (by simp),I.bs,Q0e ok.jh I.sz,
  λb o _ hb=>absurd (show b∈([]:List Addr) from hb) (by simp),λb hb=>absurd (show b∈([]:List Addr) from hb) (by simp),I.stack,I.oM⟩,
  rfl,I.bare,Un.kept aa,⟨_,hn,λi y v' e1 e2 e3=>?_⟩,λy c e=>?_,I.hok.fresh (Q00 _),λy c e=>I.iC y c (J y c e),λp hp=>absurd (show p∈([]:List (Addr × Obj)) from hp) (by simp),I.hok.kept aa,?_⟩
 . have hm:=Y y hy;obtain⟨c,e⟩:=ok.has y (S.free _ hm rfl);exact⟨c,by rw[show(qI X x N' scope cl qual f c' s H).env.cells=cl from rfl,ab y hm];exact e⟩
 . cases i with
   |zero=>
    have e1:some x=some y:=e1
    cases e1;have e2:some (some v)=some (some v'):=e2
    cases e2;exact⟨u,r,.inl ⟨S.loc,by simp⟩⟩
   |succ i=>
    have e1:N'[i]? =some y:=by
     have e1:(x::N')[i+1]? =some y:=e1;simpa using e1
    have e2:σ[i]? =some (some v'):=by simpa using e2
    have ho:X.N[i]? =some y/\scope.names.lookup y≠some .local:=by
     have e3:scope.names.lookup y=some .local\/scope.names.lookup y=some .cell\/scope.names.lookup y=some .free:=e3;rcases S.outer i y e1 with q|q
     . rw[q] at e3;rcases e3 with z|z|z <;> cases z
     . exact q
    have ae:scope.names.lookup y=some .cell\/scope.names.lookup y=some .free:=by
     rcases e3 with q|q
     . exact absurd q ho.2
     . exact q
    have hm:=Y y ae;have af:=S.free _ hm rfl;obtain⟨mX,ah,ag⟩:=I.loc;obtain⟨u',r',lk⟩:=ag i y v' ho.1 e2 (.inr af);refine⟨u',r',.inr ⟨ae,?_⟩⟩;rcases lk with⟨q,_⟩|⟨_,c,ec,hc⟩
    . rcases af with z|z
      . rw[z] at q;cases q
      . rw[z] at q;cases q
    . obtain⟨o,ho,ac⟩:=hc;exact⟨c,(ab y hm).trans ec,o,aa _ _ ho,ac⟩
 . obtain⟨w',o,ho,ac⟩:=I.cell y c (J y c e);exact⟨w',o,aa _ _ ho,ac⟩
 . show _=(x::N').length;rw[Q0j,Q0j,I.len,S.len]
theorem Gv {x:Str}{N':List Str}{name qual:Str}{U:Arguments}{body:Expr}{scope:Scope}{cl:List (Str × Addr)}{f c':Addr}{pm Y:Value}{v:V}{u:Value}{te:TE}{Q:VK}{E:Value->Shared->Prop}(I:Inv X pins σ H s)(S:kT X x N' scope)(hd:X.A.handled=none)(ab:X.A.depth<recursionLimit)
 (ac:∀y c,cl.lookup y=some c->X.env.cells.lookup y=some c) (ae:∀y,(y,NameKind.free)∈scope.names->cl.lookup y=X.env.cells.lookup y) (hf:(f,W.kla_obj name qual U body scope cl pm c' Y)∈pins) (hc:H c'=some (.ext (nJ c' qual)))
 (hb:∀u:Value,bindArgs (W.kla_fn name qual U body scope cl pm (.ref c') Y) ⟨[u],[]⟩=pure [(x,u)]) (r:RelV v u) (he:∀(s:Shared) (H:Hp),PE (qI X x N' scope cl qual f c' s H) body te) (h:te (some v::σ) H Q):
 wpAny (model X.prog X.w) X.A.in1.in1 (call (.ref f) [u]) (EP X pins σ Q) E s:=by
 obtain⟨p1,p2,p3,p4,p5⟩:=I.pin _ (Q08 _ hf);refine wpAny_call (W.kla_callFunE ab p1 rfl S.co S.gen rfl (I.hok c' _ hc).1 ?_);rw[hb];refine Q0c (wpAny_newFunctionEnv S.cell (λy hy=>?_) (λaf ag ah=>?_) S.kind)
 . have e:y=(x,u):=by simpa using hy
   subst e;exact S.loc
 have aa:∀b o,s.heap.get? b=some o->af.get? b=some o:=λb o e=>ah.extBut b o (Q0a (Q01 e)) (Q07 _ e);refine⟨I.nolimit.keeps aa,?_⟩;show codeAny _ _ (.expr body (qH qual scope cl f c' s)) _ _;have J:=I.lam (t':=s.toks+([(x,u)]:List (Str × Value)).length) (qual:=qual) (f:=f) (c':=c') S hd ac ae r ag aa;refine W.kla_codeExpr (Q0n (he s H [] _ _ H Q J h) (λu' s' hq=>?_) λe s' hF=>hF.elim);obtain⟨v',H',J',rv,q⟩:=hq;exact I.after ⟨v',H',J'.os,J'.bare,J'.base,J'.hok,rv,q⟩
end
section
variable {X:Cx}{pins:List (Addr × Obj)}{σ:St}{H:Hp}{s:Shared}
def Asks (prog:Program) (w:World) (A:Around) (s:Shared) (us:List Value) {O:KeyOrd}(key:Nat->O.α):Prop:=
 2<=us.length->wpAny (model prog w) A (keyKind' us.toArray) (λκ s'=>s'=s/\∀(i j:Nat) (C:Bool->Shared->Prop),i<us.length->j<us.length->C (O.blt (key i) (key j)) s->W.kas_ask prog w A κ us i j C s) (λ_ _=>False) s
theorem AU {xs:List V}{vs:List Value}(r:Vals xs vs):∀p:List Nat,Vals (p.map λi=>xs.getD i .non) (p.map λi=>vs.getD i Value.none)
 |[]=>.nil
 |i::p=>by
  refine .cons ?_ (AU r p);show RelV (xs.getD i .non) (vs.getD i Value.none);rw[Q0d,Q0d]
  cases e:xs[i]? with
  |none=>
   rw[r.none_of e];exact rfl
  |some x=>
   obtain⟨u,I,J⟩:=r.get e;rw[I];exact J
theorem Gw {α:Type}(a0:α)(l:List α):((List.range l.length).map λi=>l.getD i a0)=l:=by
 apply Q2z
 . simp
 . intro i h1 h2;simp[h2]
theorem Gx {us vs:List Value}(hl:us.length=vs.length):((List.toArray us).zip (List.toArray vs)).map (·.2)=List.toArray vs:=by
 apply Array.toList_inj.mp;rw[Array.toList_map,ksk_zip];show List.map Prod.snd (us.zip vs)=vs;exact List.map_snd_zip (by omega)
theorem Gy {α:Type}{R:α->α->Prop}(key:Nat->α){n:Nat}(h:n<2):((List.range n).map key).Pairwise R:=by
 have:n=0\/n=1:=by omega
 rcases this with rfl|rfl
 . exact List.Pairwise.nil
 . exact Q3 _ _
noncomputable abbrev lo (xs:List Value) (n:Nat):Obj:=seqObj "list" (List.toArray xs) n
theorem AV {E:Value->Shared->Prop}{kS D:Addr}{us:List Value}{e Y:Nat}{st:SortSt}{out:List Value}{outV:List V}{P:PySem.Fin->Shared->Prop}{A:Around}(I:Inv X (pins++[(kS,lo us e),(D,lo [] Y)]) σ H s)(fK:ir X pins H kS)(fD:ir X pins H D)(aa:kS≠D)(ac:us.length<64)(ho:out.length<64)
 (U:(arrOf st).map (·.2)=List.toArray out) (hf:failedOf st=none) (rv:Vals outV out)
 (h:∀s',Inv X pins σ (upd H D (.lst outV)) s'->P (.done (.ret .none)) s'):wpAny (model X.prog X.w) A (ksk_tail D false Y (.ref kS) st) P E s:=by
 have nk:=(I.pin (kS,lo us e) (Q08 _ (Q08 _ (Q06)))).1;have nD:=(I.pin (D,lo [] Y) (Q08 _ (Q08 _ (Q0b _ Q06)))).1;have s1:=Heap.SameBut.update s.heap kS (Obj.mapSeq λ_=>(#[]:Array Value));have J:(s.heap.update kS (Obj.mapSeq λ_=>(#[]:Array Value))).get? D=some (lo [] Y):=(s1.2 D aa.symm).trans nD;have s2:=Heap.SameBut.update (s.heap.update kS (Obj.mapSeq λ_=>(#[]:Array Value))) D (Obj.mapSeq λ_=>List.toArray out);obtain⟨c2,ab⟩:∃c2,((s.heap.update kS (Obj.mapSeq λ_=>(#[]:Array Value))).update D (Obj.mapSeq λ_=>List.toArray out)).get? D=some (lo out c2):=⟨_,get?_update_seq J λ_=>List.toArray out⟩;have I1:Inv X pins σ H { s with heap:=s.heap.update kS (Obj.mapSeq λ_=>(#[]:Array Value)) }:=I.lC.own (t':=s.toks) fK s1
 have I2:Inv X pins σ (upd H D (.lst outV)) { s with heap:=(s.heap.update kS (Obj.mapSeq λ_=>(#[]:Array Value))).update D (Obj.mapSeq λ_=>List.toArray out) }:=
  I1.adopt (t':=s.toks) fD (λc u hc q=>(s2.2 c hc).trans q) ⟨by rw[rv.length];exact Q0k (gz (by omega)),out,c2,rv,ab⟩
 unfold ksk_tail
 try dsimp only
 rw[U];refine Q0 (listUpdate_at nk rfl ?_ (by rw[Q0f,sizeLine_eq];omega) (Q04 _));refine Q0 (wpAny_letGo ?_);refine Q0 (seqEpoch_at J rfl ?_);refine Q0 (listUpdate_at J rfl ?_ (Q04 _) (by show(List.toArray out).size<=_;rw[Q0f,sizeLine_eq];omega));rw[hf];simp only[bne_self_eq_false,Bool.false_eq_true,if_false];exact Q0c (h _ I2)
theorem Gz {E:Value->Shared->Prop}{kS D:Addr}{us vs:List Value}{xs:List V}{e e1:Nat}{P:PySem.Fin->Shared->Prop}{A:Around}{O:KeyOrd}{key:Nat->O.α}(I:Inv X (pins++[(kS,lo us e),(D,lo [] e1)]) σ H s)(fK:ir X pins H kS)(fD:ir X pins H D)(ac:kS≠D)
 (hl:us.length=vs.length) (aa:vs.length<64) (rv:Vals xs vs) (ask:Asks X.prog X.w A s us key)
 (h:∀(p:List Nat),p.Perm (List.range vs.length)->(p.map key).Pairwise O.kle->∀s',Inv X pins σ (upd H D (.lst (p.map λi=>xs.getD i .non))) s'->P (.done (.ret .none)) s'):
 wpAny (model X.prog X.w) A (ksk_end D false (List.toArray vs) e1 (.ref kS) (List.toArray us)) P E s:=by
 unfold ksk_end
 try dsimp only
 simp only[Bool.false_eq_true,if_false];by_cases h2:vs.toArray.size<2
 . rw[if_pos h2,if_pos h2];have ab:vs.length<2:=by simpa using h2
   refine Q0 (Q0c ?_);rw[StateT.run_pure];refine Q0 (Q0c ?_)
   try dsimp only
   have ae:xs.length=vs.length:=rv.length
   have ez:((List.range vs.length).map λi=>xs.getD i .non)=xs:=by
    rw[<-ae];exact Gw _ xs
   refine AV (out:=vs) (outV:=xs) (st:=SortSt.mk' general' ((List.toArray us).zip (List.toArray vs)) #[] 7 none) I fK fD ac (by omega) aa (Gx hl) rfl rv λs' J=>?_;have q:=h (List.range vs.length) (List.Perm.refl _) (Gy key ab) s';rw[ez] at q;exact q J
 . rw[if_neg h2,if_neg h2];have ab:2<=vs.length:=by simpa using h2
   refine Q0 (Q0n (ask (by omega)) (λκ s' hk=>?_) λ_ _ hF=>hF.elim);obtain⟨rfl,hk⟩:=hk;obtain⟨k1,k2⟩:=kP.Gq (key:=key) (n:=vs.length) (by omega)
   refine Q0 (Q0n (W.kat_run (κ:=κ) (ks:=us) (vs:=vs) (Q:=λY U=>U=s'/\arrOf Y=(kP.fL (kP.fZ key) (W.kas_sort vs.length)).map (W.kas_item ((List.toArray us).zip vs.toArray))/\failedOf Y=none)
    (G:=λp U=>U=s'/\p=kP.fL (kP.fZ key) (W.kas_sort vs.length)) hl ab aa (λp Y U _ a2 a3 a4=>⟨a4.1,by rw[a2,a4.2],a3⟩)
    (kP.AD (f:=kP.fZ key) (λi j C hi hj q=>hk i j C (by omega) (by omega) q) (kP.Gm (by omega)) ⟨rfl,rfl⟩)) ?_ λ_ _ x=>x)
   rintro⟨⟨⟩,Y⟩ U ⟨rfl,af,ag⟩
   try dsimp only
   refine AV I fK fD ac (by omega) (by rw[Q03,k1.length_eq,Q2b];exact aa) (W.kat_snds hl af) ag (AU rv _) λs' J=>h _ k1 k2 s' J
theorem GA {prog:Program}{w:World}{A:Around}{E:Value->Shared->Prop}{s:Shared}{l:Addr}{vs:List Value}{Q:List Value->Shared->Prop}(hl:IsTup s.heap l vs.toArray)
 (h:Q vs { s with heap:=(s.heap.push (seqObj "list" #[] 0)).update s.heap.objs.size (Obj.mapSeq (· ++vs.toArray)) }) (hsz:vs.length<=sizeLine):
 wpAny (model prog w) A (collect (.ref l)) Q E s:=by
 obtain⟨o,J,hc,n,U⟩:=id hl;unfold collect;refine Q0 (wpAny_runValue (codeAny_builtin entry_proto_collect' ?_));refine Q0 (wpAny_newList (Q0c ⟨Code.quiet_builtin _ (by decide +kernel),codeAny_builtin entry_list_iadd' ?_⟩));change wpAny _ _ (Builtin.List.listExtendWith (.ref s.heap.objs.size) (.ref l) (.ref s.heap.objs.size)) _ _ { s with heap:=s.heap.push (seqObj "list" #[] 0) };unfold Builtin.List.listExtendWith;have I:(s.heap.push (seqObj "list" #[] 0)).get? l=some o:=Q07 _ J;refine Q0 (wpAny_typeOf (T:="tuple") ⟨o,I,hc⟩ ?_);have ht:(Value.type "tuple" == Value.type "tuple")=true:=by rfl
 rw[if_pos (by rw[ht];simp)];refine Q0 (listItems_at I U ?_);refine Q0 (listItems_at (xs:=#[]) (n:=0) (Q0o _ rfl) rfl ?_);rw[if_neg (by simp)];refine Q0 (listUpdate_at (xs:=#[]) (n:=0) (Q0o _ rfl) rfl ?_ (Q04 _) (by show(#[]++vs.toArray).size<=sizeLine+1;simp only[Q30,Q0f,Q28];omega));refine Q0c ?_;refine Q0 (wpAny_load (get?_update_seq (Q0o _ rfl) _) ?_);change wpAny _ _ (pure ((#[]:Array Value)++vs.toArray).toList) Q E _;rw[show((#[]:Array Value)++vs.toArray).toList=vs by simp];exact Q0c h
theorem GB {E:Value->Shared->Prop}{f a:Addr}{xs:List V}{Q:VK}{W:List V->Hp->Prop}(I:Inv X pins σ H s)(hq:eA X.K H a xs\/d_ X.K H a xs)(au:xs.length<64)(w0:W [] H)
 (turn:∀(pl:List (Addr × Obj)) (s':Shared) (H':Hp) (ks:List V) (y:V) (u:Value),Inv X (pins++pl) σ H' s'->W ks H'->xs[ks.length]? =some y->RelV y u->
   wpAny (model X.prog X.w) X.A.in1.in1 (call (.ref f) [u]) (EP X (pins++pl) σ λk ab=>W (ks++[k]) ab) (λ_ _=>False) s')
 (fin:∀(pl:List (Addr × Obj)) (s':Shared) (H':Hp) (ks:List V) (us:List Value),Inv X (pins++pl) σ H' s'->W ks H'->ks.length=xs.length->Vals ks us->∃(O:KeyOrd) (key:Nat->O.α),Asks X.prog X.w X.A.in1.in1 s' us key/\
   ∀p:List Nat,p.Perm (List.range xs.length)->(p.map key).Pairwise O.kle->∀D,H' D=none->Q (.ref D) (upd H' D (.lst (p.map λi=>xs.getD i .non)))):
 wpAny (model X.prog X.w) X.A (call (.builtin "sorted") [.ref a] [(Str.ofString "key",.ref f)]) (EP X pins σ Q) E s:=by
 obtain⟨vs,rv,am⟩:∃vs,Vals xs vs/\∀{A:Around} {E:Value->Shared->Prop} {Q:List Value->Shared->Prop},Q vs { s with heap:=(s.heap.push (seqObj "list" #[] 0)).update s.heap.objs.size (Obj.mapSeq (· ++vs.toArray)) }->vs.length<=sizeLine->wpAny (model X.prog X.w) A (collect (.ref a)) Q E s:=by
  rcases hq with hq|hq
  . obtain⟨vs,rv,pl,hz⟩:=I.list hq;exact⟨vs,rv,λh1 h2=>collect_list pl.isList h1 h2⟩
  . obtain⟨vs,rv,pl,hz⟩:=I.tuple hq;exact⟨vs,rv,λh1 h2=>GA pl h1 h2⟩
 have hl:xs.length=vs.length:=rv.length;refine call_function_entry_kw kind_sorted plain_sorted entry_sorted (ksk_s1 _ _) ?_;unfold Builtin.«sorted»;refine Q0 (m:=checkCount "sorted" 1 1 _) (Q0c ?_);refine Q0 (am ?_ (by rw[sizeLine_eq];omega));refine Q0 (wpAny_newList ?_ (by rw[sizeLine_eq];omega))
 have hsz:((s.heap.push (seqObj "list" #[] 0)).update s.heap.objs.size (Obj.mapSeq (· ++vs.toArray))).objs.size=s.heap.objs.size+1:=by
  rw[Q2c,size_push']
 have Y:(((s.heap.push (seqObj "list" #[] 0)).update s.heap.objs.size (Obj.mapSeq (· ++vs.toArray))).push (seqObj "list" vs.toArray 0)).get? (s.heap.objs.size+1)=some (seqObj "list" vs.toArray 0):=by
  rw[<-hsz];exact Q0o _ rfl
 have keep:∀b o,s.heap.get? b=some o->(((s.heap.push (seqObj "list" #[] 0)).update s.heap.objs.size (Obj.mapSeq (· ++vs.toArray))).push (seqObj "list" vs.toArray 0)).get? b=some o:=λb o q=>by
  have ae:b<s.heap.objs.size:=Q01 q;rw[Q31 _ _ _ (by rw[hsz];exact Q0a (Nat.lt_succ_of_lt ae)),Q2d _ _ _ _ (Q0a ae),Q31 _ _ _ (Q0a ae)];exact q
 show wpAny _ _ _ _ _ { s with heap:=((s.heap.push (seqObj "list" #[] 0)).update s.heap.objs.size (Obj.mapSeq (· ++vs.toArray))).push (seqObj "list" vs.toArray 0) };rw[hsz];generalize hG:((s.heap.push (seqObj "list" #[] 0)).update s.heap.objs.size (Obj.mapSeq (· ++vs.toArray))).push (seqObj "list" vs.toArray 0)=G at Y keep ⊢;have an:G.objs.size=s.heap.objs.size+2:=by rw[<-hG,size_push',hsz]
 have I1:Inv X pins σ H { s with heap:=G }:=I.kept (t':=s.toks) keep;refine Q0 (wpAny_holding (wpAny_call_entry_kw slot_list_sort ⟨_,Y,rfl⟩ entry_list_sort ?body (ksk_l1 _ _)))
 case body=>
  show wpAny (model X.prog X.w) X.A.in1.in1 (Builtin.«list.sort» ⟨[.ref (s.heap.objs.size+1)],[(Str.ofString "key",.ref f)]⟩) _ _ _;rw[ksk_t1];unfold ksk_tree;generalize hD:s.heap.objs.size+1=D at Y ⊢;have ag:s.heap.objs.size<=D:=by omega
  have s1:=Heap.SameBut.update G D (Obj.mapSeq λ_=>(#[]:Array Value));obtain⟨e1,ah⟩:∃e1,(G.update D (Obj.mapSeq λ_=>(#[]:Array Value))).get? D=some (lo [] e1):=⟨_,get?_update_seq Y λ_=>#[]⟩;refine Q0 (listItems_at Y rfl ?_);refine Q0 (listUpdate_at Y rfl ?_ (by rw[Q0f,sizeLine_eq];omega) (Q04 _));refine Q0 (seqEpoch_at ah rfl ?_);refine Q0 (wpAny_newTuple ?_ (by show vs.length<=_;rw[sizeLine_eq];omega));refine Q0 (wpAny_newList ?_ (Q04 _));refine wpAny_holding ?_;show wpAny (model X.prog X.w) X.A.in1.in1 _ _ _ { s with heap:=((G.update D (Obj.mapSeq λ_=>(#[]:Array Value))).push (seqObj "tuple" vs.toArray 0)).push (seqObj "list" #[] 0) };generalize ai:((G.update D (Obj.mapSeq λ_=>(#[]:Array Value))).push (seqObj "tuple" vs.toArray 0)).objs.size=kS;have ar:kS=s.heap.objs.size+3:=by rw[<-ai,size_push',Q2c,an]
  have aj:kS≠D:=by omega
  have U:ir X pins H D:=I.mf ag (I.hok.fresh ag);have ac:ir X pins H kS:=I.mf (by omega) (I.hok.fresh (by omega))
  have af:∀b o,b≠D->G.get? b=some o->(((G.update D (Obj.mapSeq λ_=>(#[]:Array Value))).push (seqObj "tuple" vs.toArray 0)).push (seqObj "list" #[] 0)).get? b=some o:=λb o hb q=>
   Q07 _ (Q07 _ ((s1.2 b hb).trans q))
  have I2:Inv X pins σ H { s with heap:=((G.update D (Obj.mapSeq λ_=>(#[]:Array Value))).push (seqObj "tuple" vs.toArray 0)).push (seqObj "list" #[] 0) }:=
   Inv.turned (s:={ s with heap:=G }) (t':=s.toks) (it:=D) I1 af U.1 U.2.1 U.2.2.2.1 U.2.2.2.2.1 U.2.2.2.2.2
  have hK:(((G.update D (Obj.mapSeq λ_=>(#[]:Array Value))).push (seqObj "tuple" vs.toArray 0)).push (seqObj "list" #[] 0)).get? kS=some (lo [] 0):=by rw[<-ai];exact Q0o _ rfl
  have ak:(((G.update D (Obj.mapSeq λ_=>(#[]:Array Value))).push (seqObj "tuple" vs.toArray 0)).push (seqObj "list" #[] 0)).get? D=some (lo [] e1):=Q07 _ (Q07 _ ah);generalize ((G.update D (Obj.mapSeq λ_=>(#[]:Array Value))).push (seqObj "tuple" vs.toArray 0)).push (seqObj "list" #[] 0)=G2 at I2 hK ak ⊢
  have pinned:∀{H':Hp} {s':Shared} {us:List Value} {e:Nat},Inv X pins σ H' s'->s'.heap.get? kS=some (lo us e)->s'.heap.get? D=some (lo [] e1)->H' kS=none->H' D=none->Inv X (pins++[(kS,lo us e),(D,lo [] e1)]) σ H' s':=λ{H' s' us e} J k1 k2 n1 n2=>
   J.l9 λp hp=>(List.mem_append.mp hp).elim (λz=>J.pin p (Q08 _ z)) λz=>by
     have z:p=(kS,lo us e)\/p=(D,lo [] e1):=by simpa using z
     rcases z with rfl|rfl
     . exact⟨k1,n1,ac.2.1,ac.2.2.1,by intro v z;cases z⟩
     . exact⟨k2,n2,U.2.1,U.2.2.1,by intro v z;cases z⟩
  have own:∀{H':Hp} {b:Addr},(b=kS\/b=D)->H' b=none->ir X pins H' b:=λ{H' b} hb n=>by
   rcases hb with rfl|rfl
   . exact⟨n,ac.2⟩
   . exact⟨n,U.2⟩
  unfold ksk_rest;refine Q0 (wpAny_rule ?_)
  first
   |rw[List.forIn_toArray]
   |(rw[<-Q32];simp only[List.toList_toArray])
   |rw[<-Q32]
  refine Q0 (ksk_fold (λi s'=>∃ks us e H',Inv X (pins++[(kS,lo us e),(D,lo [] e1)]) σ H' s'/\Vals ks us/\ks.length=i/\i<=vs.length/\W ks H') vs 0 _
   ⟨[],[],0,H,pinned I2 hK ak ac.1 U.1,.nil,rfl,Q04 _,w0⟩ (λj x s' hx hJ=>?_) λs' hJ=>?_)
  . obtain⟨ks,us,e,H',J,rk,hi,ao,wk⟩:=hJ;have hi:ks.length=j:=by omega
    have hj:j<vs.length:=(List.getElem?_eq_some_iff.mp hx).1;have al:j<xs.length:=by omega
    obtain⟨u,hu,ru⟩:=rv.get (Q02 al);rw[hx] at hu;cases hu;refine Q0 (wpAny_attempt (Q0n (turn _ s' H' ks (xs[j]) x J wk (by rw[hi];exact Q02 al) ru) (λk aa hk=>?_) λ_ _ hF=>hF.elim));obtain⟨kv,ab,J',ap,w'⟩:=hk;have pk:=J'.pin (kS,lo us e) (Q08 _ (Q08 _ (Q06)));have pD:=J'.pin (D,lo [] e1) (Q08 _ (Q08 _ (Q0b _ Q06)));have av:us.length=ks.length:=rk.length.symm;have s2:=Heap.SameBut.update aa.heap kS (Obj.mapSeq (·.push k));have ea:(List.toArray us).push k=List.toArray (us++[k]):=by simp
    obtain⟨c2,aq⟩:∃c2,(aa.heap.update kS (Obj.mapSeq (·.push k))).get? kS=some (lo (us++[k]) c2):=⟨_,by show _=some (seqObj "list" (List.toArray (us++[k])) _);rw[<-ea];exact get?_update_seq pk.1 (·.push k)⟩
    try dsimp only
    refine Q0 (listUpdate_at pk.1 rfl ?_ (by rw[Q0f,sizeLine_eq];omega) (Q0e (Q1t (Array.size_push ..)) (by rw[Q0f,sizeLine_eq];omega)));have J2:Inv X pins σ ab { aa with heap:=aa.heap.update kS (Obj.mapSeq (·.push k)) }:=J'.lC.own (t':=aa.toks) (own (.inl rfl) pk.2.1) s2;refine Q0c ⟨rfl,ks++[kv],us++[k],c2,ab,pinned J2 aq ((s2.2 D aj.symm).trans pD.1) pk.2.1 pD.2.1,rk.append (.cons ap .nil),by rw[Q05,Q1x];omega,by omega,w'⟩
  . obtain⟨ks,us,e,H',J,rk,hi,ao,wk⟩:=hJ;have hi:ks.length=vs.length:=by omega
    have pk:=J.pin (kS,lo us e) (Q08 _ (Q08 _ (Q06)));have pD:=J.pin (D,lo [] e1) (Q08 _ (Q08 _ (Q0b _ Q06)))
    try dsimp only
    refine Q0 (listItems_at pk.1 rfl ?_);obtain⟨O,key,ask,q⟩:=fin _ s' H' ks us J wk (by omega) rk;refine Gz J (own (.inl rfl) pk.2.1) (own (.inr rfl) pD.2.1) aj (by rw[<-rk.length];exact hi) (by omega) rv ask λp p1 p2 aa J'=>?_;exact(Zr rfl (Q0c (Zr rfl ⟨.ref D,_,J',rfl,q p (by rw[hl];exact p1) p2 D pD.2.1⟩)))
theorem GC {E:Value->Shared->Prop}{f a:Addr}{xs:List V}{Q:VK}{W:List V->Hp->Prop}(I:Inv X pins σ H s)(Y:eA X.K H a xs)(J:xs.length<64)(w0:W [] H)
 (turn:∀(pl:List (Addr × Obj)) (s':Shared) (H':Hp) (ks:List V) (y:V) (u:Value),Inv X (pins++pl) σ H' s'->W ks H'->xs[ks.length]? =some y->RelV y u->
   wpAny (model X.prog X.w) X.A.in1.in1 (call (.ref f) [u]) (EP X (pins++pl) σ λk U=>W (ks++[k]) U) (λ_ _=>False) s')
 (fin:∀(pl:List (Addr × Obj)) (s':Shared) (H':Hp) (ks:List V) (us:List Value),Inv X (pins++pl) σ H' s'->W ks H'->ks.length=xs.length->Vals ks us->∃(O:KeyOrd) (key:Nat->O.α),Asks X.prog X.w X.A.in1.in1 s' us key/\
   ∀p:List Nat,p.Perm (List.range xs.length)->(p.map key).Pairwise O.kle->∀D,H' D=none->Q (.ref D) (upd H' D (.lst (p.map λi=>xs.getD i .non)))):
 wpAny (model X.prog X.w) X.A (call (.builtin "sorted") [.ref a] [(Str.ofString "key",.ref f)]) (EP X pins σ Q) E s:=GB I (.inl Y) J w0 turn fin
end
noncomputable def iF:Key->Key->Bool
 | .inl i,.inl j=>decide (i<j)
 | .inl _,.inr _=>true
 | .inr _,.inl _=>false
 | .inr x,.inr y=>decide (x.cps.toList<y.cps.toList)
theorem GD (a:Key):iF a a=false:=by
 cases a with
 |inl i=>simp[iF]
 |inr x=>simpa[iF] using List.lt_irrefl x.cps.toList
theorem GF {a b c:Key}(h1:iF a b=true)(h2:iF b c=true):iF a c=true:=by
 cases a <;> cases b <;> cases c <;> simp only[iF,decide_eq_true_eq,Bool.false_eq_true] at * <;> first|omega|exact List.lt_trans h1 h2
theorem GH {x y:Str}(h:x.cps.toList=y.cps.toList):x=y:=by
 cases x;cases y;simp only[Str.mk.injEq];exact Array.toList_inj.mp h
theorem GI (a b:Key):iF a b=true\/a=b\/iF b a=true:=by
 cases a with
 |inl i=>
  cases b with
  |inl j=>
   simp only[iF,decide_eq_true_eq];rcases Int.lt_trichotomy i j with h|h|h
   . exact .inl h
   . exact .inr (.inl (by rw[h]))
   . exact .inr (.inr h)
  |inr y=>exact .inl rfl
 |inr x=>
  cases b with
  |inl j=>exact .inr (.inr rfl)
  |inr y=>
   simp only[iF,decide_eq_true_eq];by_cases h1:x.cps.toList<y.cps.toList
   . exact .inl h1
   . by_cases h2:y.cps.toList<x.cps.toList
     . exact .inr (.inr h2)
     . exact .inr (.inl (by rw[GH (List.le_antisymm (List.not_lt.mp h2) (List.not_lt.mp h1))]))
theorem GJ {a b:Key}(h:iF a b=true):a≠b:=λe=>by
 rw[e,GD] at h;cases h
noncomputable def gS:List Key->List Key->Bool
 |[],[]=>false
 |[],_::_=>true
 |_::_,[]=>false
 |x::xs,y::ys=>if x=y then gS xs ys else iF x y
theorem qJ:∀a:List Key,gS a a=false
 |[]=>rfl
 |x::xs=>by
  show(if x=x then gS xs xs else iF x x)=false;rw[if_pos rfl];exact qJ xs
theorem ph (x y:Key)(xs ys:List Key):gS (x::xs) (y::ys)=if x=y then gS xs ys else iF x y:=rfl
theorem pj:∀(a b c:List Key),gS a b=true->gS b c=true->gS a c=true
 |[],[],_,h,_=>by cases h
 |[],_::_,[],_,h=>by cases h
 |[],_::_,_::_,_,_=>rfl
 |_::_,[],_,h,_=>by cases h
 |_::_,_::_,[],_,h=>by cases h
 |x::xs,y::ys,z::zs,h1,h2=>by
  rw[ph] at *;by_cases J:x=y
  . subst J;rw[if_pos rfl] at h1;by_cases I:x=z
    . rw[if_pos I] at h2 ⊢;exact pj xs ys zs h1 h2
    . rw[if_neg I] at h2 ⊢;exact h2
  . rw[if_neg J] at h1;by_cases I:y=z
    . subst I;rw[if_neg J];exact h1
    . rw[if_neg I] at h2;have q:=GF h1 h2;rw[if_neg (GJ q)];exact q
theorem qK:∀a b:List Key,gS a b=true\/a=b\/gS b a=true
 |[],[]=>.inr (.inl rfl)
 |[],_::_=>.inl rfl
 |_::_,[]=>.inr (.inr rfl)
 |x::xs,y::ys=>by
  rw[ph,ph];by_cases e:x=y
  . subst e;rw[if_pos rfl,if_pos rfl];rcases qK xs ys with h|h|h
    . exact .inl h
    . exact .inr (.inl (by rw[h]))
    . exact .inr (.inr h)
  . rw[if_neg e,if_neg (λz=>e z.symm)];rcases GI x y with h|h|h
    . exact .inl h
    . exact absurd h e
    . exact .inr (.inr h)
@[reducible] noncomputable def qL:KeyOrd where
  α:=List Key
  blt:=gS
  irrefl:=qJ
  trans:=pj
  negTrans a b c h:=by
   rcases qK a b with q|q|q
   . exact .inl q
   . exact .inr (by rw[<-q];exact h)
   . exact .inr (pj b a c q h)
  total a b h1 h2:=by
   rcases qK a b with q|q|q
   . rw[h1] at q;cases q
   . exact q
   . rw[h2] at q;cases q
def mH (a b:List Key):Prop:=gS b a=false
noncomputable def gT:Key->Bool
 | .inl _=>true
 | .inr _=>false
def AW (I:List (List Key)):Prop:=∃ts:List Bool,ts≠[]/\∀J∈I,J.map gT=ts
def mI (H:Hp):List V->List (List Key)->Prop:=Paired λk I=>∃p,k=.ref p/\H p=some (.tup (I.map kV))
section
variable {X:Cx}{pins:List (Addr × Obj)}{σ:St}{H:Hp}{s:Shared}
theorem mJ {k:Key}{u:Value}(r:RelV (kV k) u):(∃i t,k=.inl i/\u=.int i t)\/∃x t,k=.inr x/\u=.str x t:=by
 cases k with
 |inl i=>
  obtain⟨t,rfl⟩:=r;exact .inl ⟨i,t,rfl,rfl⟩
 |inr x=>
  obtain⟨t,rfl⟩:=r;exact .inr ⟨x,t,rfl,rfl⟩
theorem tY {prog:Program}{w:World}{A:Around}{C:Bool->Shared->Prop}:∀(U Y:List Key) (I J:List Value) (i:Nat),Vals (U.map kV) I->Vals (Y.map kV) J->U.map gT=Y.map gT->C (gS U Y) s->
 W.KatLex prog w A true false C (I.zip J) i s
 |[],[],I,J,i,r1,r2,_,q=>by
  cases r1;cases r2;exact W.kat_nil q
 |[],_::_,_,_,_,_,_,h,_=>by cases h
 |_::_,[],_,_,_,_,_,h,_=>by cases h
 |x::xs,y::ys,I,J,i,r1,r2,h,q=>by
  cases r1 with
  |cons a1 b1=>
  cases r2 with
  |cons a2 b2=>
  have h1:gT x=gT y:=(List.cons.inj h).1;have h2:xs.map gT=ys.map gT:=(List.cons.inj h).2;rw[ph] at q;rcases mJ a1 with⟨m,t,rfl,rfl⟩|⟨m,t,rfl,rfl⟩ <;> rcases mJ a2 with⟨n,t',rfl,rfl⟩|⟨n,t',rfl,rfl⟩
  . refine W.kat_cons (wpAny_eqBool_int ?_);by_cases e:m=n
    . subst e;rw[if_pos rfl] at q;rw[beq_self_eq_true];exact W.kat_yes (tY xs ys _ _ (i+1) b1 b2 h2 q)
    . rw[if_neg (λz=>e (Sum.inl.inj z))] at q;rw[beq_false_of_ne e];refine W.kat_no ?_
      cases hi:(i == 0) with
      |true=>exact oneLt_int q
      |false=>exact W.kat_one _ _ (lt_int q)
  . cases h1
  . cases h1
  . refine W.kat_cons (wpAny_eqBool_str ?_);by_cases e:m=n
    . subst e;rw[if_pos rfl] at q;rw[decide_eq_true rfl];exact W.kat_yes (tY xs ys _ _ (i+1) b1 b2 h2 q)
    . rw[if_neg (λz=>e (Sum.inr.inj z))] at q;rw[decide_eq_false e];refine W.kat_no ?_
      cases hi:(i == 0) with
      |true=>exact oneLt_str q
      |false=>exact W.kat_one _ _ (lt_str q)
theorem AX {ks:List V}{us:List Value}{J:List (List Key)}(I:Inv X pins σ H s)(r:Vals ks us)(Y:mI H ks J){i:Nat}(hi:i<us.length):
 ∃p U,us.getD i Value.none=.ref p/\IsTup s.heap p (List.toArray U)/\Vals ((J.getD i []).map kV) U/\J.getD i []∈J:=by
 have hl:=r.length;have aa:ks.length=J.length:=Paired.length Y;have e1:ks[i]? =some (ks[i]'(by omega)):=Q02 (by omega);obtain⟨u,hu,ru⟩:=r.get e1;have e2:J.getD i []=J[i]'(by omega):=by rw[Q0d,Q02 (by omega)];rfl
 have key:∀(ks:List V) (J:List (List Key)),mI H ks J->∀i (h1:i<ks.length) (h2:i<J.length),∃p,ks[i]=.ref p/\H p=some (.tup (J[i].map kV)):=by
  intro ks J Y
  induction Y with
  |nil=>intro i h1;simp at h1
  |cons a b ih=>
   intro i h1 h2
   cases i with
   |zero=>exact a
   |succ i=>simpa using ih i (by simpa using h1) (by simpa using h2)
 obtain⟨p,hp,hH⟩:=key ks J Y i (by omega) (by omega);rw[hp] at ru
 cases ru;obtain⟨U,rv,tp,_⟩:=I.tuple (d_.of hH);refine⟨p,U,by rw[Q0d,hu];rfl,tp,by rw[e2];exact rv,by rw[e2];exact Q0u _⟩
theorem AY (I:Inv X pins σ H s){t:Bool}:∀{ks:List V}{us:List Value}{J:List (List Key)},Vals ks us->mI H ks J->(∀U∈J,∃k r,U=k::r/\gT k=t)->
 ∃fs,W.KatTups s.heap us fs/\fs.length=us.length/\∀v∈fs,(t=true/\∃i tk,v=.int i tk)\/(t=false/\∃x tk,v=.str x tk)
 |_,_,_,.nil,.nil,_=>⟨[],W.KatTups.nil,rfl,λv Y=>nomatch Y⟩
 |_,_,_,.cons a r,.cons b q,h=>by
  obtain⟨p,rfl,hp⟩:=b
  cases a;obtain⟨fs,f1,f2,f3⟩:=AY I r q λU hm=>h U (Q0b _ hm);obtain⟨k,rr,rfl,hk⟩:=h _ Q06;obtain⟨aa,rv,⟨o,ho,hc,n,hd⟩,_⟩:=I.tuple (d_.of hp)
  cases rv with
  |cons a1 b1=>
   refine⟨_::fs,W.KatTups.cons ho hc hd (by simp;rfl) f1,by rw[Q0j,Q0j,f2],λv Y=>?_⟩;rcases List.mem_cons.mp Y with e|e
   . subst e;rcases mJ a1 with⟨i,tk,rfl,rfl⟩|⟨x,tk,rfl,rfl⟩
     . exact .inl ⟨hk.symm,i,tk,rfl⟩
     . exact .inr ⟨hk.symm,x,tk,rfl⟩
   . exact f3 v e
theorem GK {A:Around}{ks:List V}{us:List Value}{J:List (List Key)}(I:Inv X pins σ H s)(r:Vals ks us)(hk:mI H ks J)(ab:AW J):Asks X.prog X.w A s us (O:=qL) (λi=>J.getD i []):=by
 intro h2;obtain⟨ts,ac,U⟩:=ab
 obtain⟨t,tr,rfl⟩:∃t tr,ts=t::tr:=by
  cases ts with
  |nil=>exact absurd rfl ac
  |cons t tr=>exact⟨t,tr,rfl⟩
 have hh:∀kl∈J,∃k r,kl=k::r/\gT k=t:=λkl hm=>by
  have e:=U kl hm
  cases kl with
  |nil=>cases e
  |cons k r=>exact⟨k,r,rfl,(List.cons.inj e).1⟩
 obtain⟨fs,f1,f2,f3⟩:=AY I r hk hh
 have fin:∀(i j:Nat) (C:Bool->Shared->Prop),i<us.length->j<us.length->C (gS (J.getD i []) (J.getD j [])) s->W.kas_ask X.prog X.w A (tuples' true) us i j C s:=by
  intro i j C hi hj q;unfold W.kas_ask;obtain⟨p,Y,e1,⟨o,ho,hc,n,hd⟩,rv,m1⟩:=AX I r hk hi;obtain⟨p',its',ae,⟨o',af,ah,n',ag⟩,aa,m2⟩:=AX I r hk hj;rw[e1,ae];have ht:(J.getD i []).map gT=(J.getD j []).map gT:=(U _ m1).trans (U _ m2).symm
  have hl:Y.length=its'.length:=by
   have:=congrArg List.length ht;rw[Q03,Q03] at this;rw[<-rv.length,<-aa.length,Q03,Q03,this]
  refine W.kat_lt ho hd af ag ?_;have ef:decide ((List.toArray Y).size<(List.toArray its').size)=false:=by rw[Q0f,Q0f,hl];simp
  rw[ef];exact tY _ _ _ _ 0 rv aa ht q
 cases t with
 |true=>
  refine W.kat_kind (T:=.type "int") f1 (by omega) (λv hv=>?_) rfl ⟨rfl,fin⟩;rcases f3 v hv with⟨_,i,tk,rfl⟩|⟨z,_⟩
  . exact W.Looks.of_pure rfl
  . cases z
 |false=>
  refine W.kat_kind (T:=.type "str") f1 (by omega) (λv hv=>?_) rfl ⟨rfl,fin⟩;rcases f3 v hv with⟨z,_⟩|⟨_,x,tk,rfl⟩
  . cases z
  . exact W.Looks.of_pure rfl
end
def qM (K:PySem.W.Frag) (P:Addr) (U:Pos) (qual:Str) (te:TE) (σ:St) (Q:VK):VK:=λx H1=>∃a xs,x=.ref a/\eA K H1 a xs/\xs.length<64/\eY P U qual H1/\
 ∀c' H2,mF P U qual c' H2->(∀b o,b≠P->H1 b=some o->H2 b=some o)->
 ∃W:List V->Hp->Prop,W [] H2/\(∀ks I,W ks I->mF P U qual c' I)/\(∀ks I y,W ks I->xs[ks.length]? =some y->te (some y::σ) I λk Y=>W (ks++[k]) Y)/\
 ∀ks I,W ks I->ks.length=xs.length->∃J,mI I ks J/\AW J/\∀p:List Nat,p.Perm (List.range xs.length)->(p.map λi=>J.getD i []).Pairwise mH->∀D,I D=none->Q (.ref D) (upd I D (.lst (p.map λi=>xs.getD i .non)))
def GL (K:W.Frag) (P:Addr) (I:Pos) (qual:Str) (tl te:TE):TE:=λσ H Q=>tl σ H (qM K P I qual te σ Q)
section
variable {X:Cx}
theorem qN {x:Str}{N':List Str}{l body:Expr}{U:Arguments}{scope:Scope}{lp kp p pos:Pos}{qual:Str}{c P:Addr}{tl te:TE}{k:Nat}(hg:Gl X "sorted")(hm:X.mg "sorted"=none)(hv:bootBuiltins "sorted"=some (.builtin "sorted"))(hr:fV k X.A)(hq:X.env.qual++"<lambda>"=qual)(aa:X.env.code=.ref c)(C:PySem.W.CodeHd X.base c P)
 (B:BM X.mg X.base) (S:kT X x N' scope) (ac:defaultsOf U X.env=([],[])) (hb:∀(cl:List (Str × Addr)) (pm:Value) (c':Addr) (Y u:Value),bindArgs (PySem.W.kla_fn "<lambda>" qual U body scope cl pm (.ref c') Y) ⟨[u],[]⟩=pure [(x,u)])
 (hl:PE X l tl) (he:∀(cl:List (Str × Addr)) (f c':Addr) (s:Shared) (H:Hp),PE (qI X x N' scope cl qual f c' s H) body te) (hs:starEach [l] X.env=[(false,eval l X.env)]:=by rfl):
 PE X (.Call (.Name "sorted" p) [l] [⟨some "key",.Lambda U body scope lp,kp⟩] pos) (GL X.K P lp qual tl te):=by
 intro pins s σ H Q I h;refine wpAny_Call_Name_kw (l_ I hg hm hv ?_);have ha:PA X [l] (gy tl iu):=a_ hl c_ (by rw[hs];rfl);refine callWith_kw (e_ (ha pos pins s σ H (λvs H1=>match vs with|[x]=>qM X.K P lp qual te σ Q x H1|_=>False) I h) λus s1 zq=>?_) (by rw[hs];rfl) (by rw[hs];rfl);obtain⟨vs,H1,I1,r1,q1⟩:=zq
 obtain⟨x',rfl⟩:∃x',vs=[x']:=by
  match vs,q1 with
  |[x'],_=>exact⟨x',rfl⟩
 have q1:qM X.K P lp qual te σ Q x' H1:=q1;obtain⟨a,xs,rfl,ah,ai,T,cont⟩:=q1;obtain⟨u,rfl,ru⟩:=vals1 r1
 cases ru;show wpAny _ _ (evalAll [do let v <-eval (.Lambda U body scope lp) X.env;standAt pos;pure v]) _ _ s1;obtain⟨cl,ab,ae,af⟩:=tM (scope:=scope) (env:=X.env) λy hy hf=>I1.ok.has y.1 (S.free y hy hf);refine wpAny_evalAll_cons (Q0 (PySem.W.kla_eval ac ?_));rw[hq];refine Gu I1 aa C B T ab λf c' pm Y H2 s2 I2 aj mono=>?_;refine Q0 (wpAny_standAt (Q0c (wpAny_evalAll_nil ?_)));show wpAny _ _ (call (.builtin "sorted") [.ref a] [(Str.ofString "key",.ref f)]) _ _ s2;obtain⟨W,w0,wL,wt,wf⟩:=cont c' H2 aj mono
 have ak:∃ps,H1 P=some (.gF ps):=by
  rcases T with e|⟨am,e,_⟩
  . exact⟨_,e⟩
  . exact⟨_,e⟩
 have al:eA X.K H2 a xs:=by
  obtain⟨ps,hP⟩:=ak;rcases ah with(z|⟨o,z⟩)|z
  . exact .inl (.inl (mono a _ (gZ z hP (by intro z;cases z)) z))
  . exact .inl (.inr ⟨o,mono a _ (gZ z hP (by intro z;cases z)) z⟩)
  . exact .inr z
 refine e_ (GC (Q:=Q) (W:=W) I2 al ai w0 (λpl s' H' ks y u J wk hy ry=>?_) λpl s' H' ks us J wk ag rk=>?_) λr s' ⟨v,H',J,rv,q⟩=>⟨v,H',J.lC,rv,q⟩
 . exact Gv J S hr.hd hr.depth ae af (Q0v _ (Q08 _ Q06)) (wL ks H' wk).2 (hb cl pm c' Y) ry (he cl f c') (wt ks H' y wk hy)
 . obtain⟨an,k1,k2,k3⟩:=wf ks H' wk ag;exact⟨qL,_,GK J rk k1 k2,λp p1 p2 D hD=>k3 p p1 p2 D hD⟩
end
noncomputable def pq (K:W.Frag) (a b:Addr):It:=
 ⟨λi H=>∃xs ys x y,eA K H a xs/\eA K H b ys/\xs[i]? =some x/\ys[i]? =some y,
  λi H v H'=>∃p x y,H p=none/\v=.ref p/\(∀xs,eA K H a xs->xs[i]? =some x)/\(∀ys,eA K H b ys->ys[i]? =some y)/\H'=upd H p (.tup [x,y]),
  λi H=>∃xs ys,eA K H a xs/\eA K H b ys/\(xs.length<=i\/ys.length<=i)⟩
theorem GN {P:Program}{w:World}{K:W.Frag}{ai:List Expr}{k:Nat}{tpos:Pos}{z TI TO J U l1 l2:Addr}(D:ZipApart z TI TO J U l1 l2):
 Turn P w K (.Tuple ai k tpos) (pq K l1 l2) [z,TI,TO,J,U] z (λi h=>∃oa ob,IsZip h z TI TO .none/\IsPair h TI (.ref J) (.ref U)/\IsPair h TO oa ob/\h.IsListIter J l1 i/\h.IsListIter U l2 i) where
 mem:=by simp
 obj:=λi h st b Y=>by
  obtain⟨oa,ob,h1,h2,h3,h4,h5⟩:=st;have Y:b=z\/b=TI\/b=TO\/b=J\/b=U:=by simpa using Y
  rcases Y with rfl|rfl|rfl|rfl|rfl
  . exact⟨_,h1,λv y=>by
     have y:Data.fields _=Data.cell v:=y
     cases y⟩
  . exact⟨_,h2,λv y=>by
     have y:Data.seq _ _=Data.cell v:=y
     cases y⟩
  . exact⟨_,h3,λv y=>by
     have y:Data.seq _ _=Data.cell v:=y
     cases y⟩
  . obtain⟨o,q,c,d⟩:=h4;exact⟨o,q,λv y=>by rw[d] at y;cases y⟩
  . obtain⟨o,q,c,d⟩:=h5;exact⟨o,q,λv y=>by rw[d] at y;cases y⟩
 keep:=λi h h' st k=>by
  obtain⟨oa,ob,h1,h2,h3,h4,h5⟩:=st;exact⟨oa,ob,k z (by simp) _ h1,k TI (by simp) _ h2,k TO (by simp) _ h3,h4.at λo q=>k J (by simp) o q,h5.at λo q=>k U (by simp) o q⟩
 item:=by
  intro X hP hw hK hc i pins s σ H E I hf st hg;subst hP hw hK;obtain⟨oa,ob,h1,h2,h3,h4,h5⟩:=st;obtain⟨xs,ys,x,y,aa,ab,hx,hy⟩:=hg;obtain⟨aj,ae,p1,am⟩:=I.list aa;obtain⟨ak,af,p2,an⟩:=I.list ab;obtain⟨u1,ao,ap⟩:=ae.get hx;obtain⟨u2,aq,ar⟩:=af.get hy;have fr:H s.heap.objs.size=none:=I.hok.fresh (Q00 _);refine wpAny_pyNext_zip_item D h1 h2 h3 h4 h5 p1.isList p2.isList (x:=u1) (y:=u2) (by simpa using ao) (by simpa using aq) λh' q1 q2 q3 q4 q5 q6 q7=>?_;refine(Zr rfl (wpAny_letOwnedTupleGo_zip (s:={ s with heap:=h' }) q1 λac g1 g2=>?_))
  have au:∀b∈[z,TI,TO,J,U],b<s.heap.objs.size:=λb Y=>by
   have Y:b=z\/b=TI\/b=TO\/b=J\/b=U:=by simpa using Y
   rcases Y with rfl|rfl|rfl|rfl|rfl
   . exact Q01 h1
   . exact Q01 h2
   . exact Q01 h3
   . obtain⟨o,q,_⟩:=h4;exact Q01 q
   . obtain⟨o,q,_⟩:=h5;exact Q01 q
  have av:∀b o,s.heap.get? b=some o->b≠s.heap.objs.size:=λb o q=>Q0a (Q01 q);have kk:∀b o,b≠z->b≠TO->b≠J->b≠U->s.heap.get? b=some o->ac.get? b=some o:=λb o n1 n2 n3 n4 q=>g2.extBut b o n1 (q7 b o n1 n2 n3 n4 q);have kn:∀b o,b ∉ [z,TO,J,U]->s.heap.get? b=some o->ac.get? b=some o:=λb o n q=>kk b o (λy=>n (by simp[y])) (λy=>n (by simp[y])) (λy=>n (by simp[y])) (λy=>n (by simp[y])) q;have tup:ac.get? s.heap.objs.size=some { cls:=.type "tuple",data:=.seq #[u1,u2] }:=g2.extBut _ _ (Q0t (Q01 h1)) q5
  have I1:Inv X pins σ (upd H s.heap.objs.size (.tup [x,y])) { s with heap:=ac }:=by
   refine I.step (g':=s.gens) (d':=s.drawn) (t':=s.toks) (ch:=[z,TO,J,U]) (λb Y=>?_) (λb o _ _ hc q _=>kn b o hc q) (λb o _ _ hc q _=>⟨o.slots,kn b o hc q⟩) (λb o _ q n=>?_) (λb o hc q=>⟨o,kn b o hc q⟩) (λb ws q=>?_) (λb o v q=>?_) (λb ps q=>?_) (λm hm=>?_) (λb o q=>?_) I.bare
   . have ag:b∈[z,TI,TO,J,U]:=by
      have Y:b=z\/b=TO\/b=J\/b=U:=by simpa using Y
      rcases Y with rfl|rfl|rfl|rfl <;> simp
     obtain⟨f0,f1,f2,f3,f4,f5⟩:=hf b ag;exact⟨f3,f1,f4,f5⟩
   . rw[eu (av b o q)];exact n
   . rw[eu (eL q fr)];exact q
   . rw[eu (eL q fr)];exact q
   . exact⟨#[],by rw[eu (eL q fr),q];simp⟩
   . obtain⟨o,es,ep,ho,r⟩:=hm;exact⟨o,es,ep,kk _ o (Ne.symm (hf z (by simp)).2.1) (Ne.symm (hf TO (by simp)).2.1) (Ne.symm (hf J (by simp)).2.1) (Ne.symm (hf U (by simp)).2.1) ho,r⟩
   . by_cases Y:b=s.heap.objs.size
     . subst Y;rw[eF] at q;cases q;exact⟨wH,[u1,u2],.cons ap (.cons ar .nil),⟨_,tup,rfl,_,rfl⟩⟩
     . rw[eu Y] at q
       have nn:∀c v,H c=some v->c ∉ [z,TO,J,U]:=λc v e hm=>by
        have aw:c∈[z,TI,TO,J,U]:=by
         have hm:c=z\/c=TO\/c=J\/c=U:=by simpa using hm
         rcases hm with rfl|rfl|rfl|rfl <;> simp
        have:=(hf c aw).1;rw[e] at this;cases this
       refine(I.hok b o q).stay (λc v ah y=>kn c v ?_ y) (λc y=>by rw[eu (eL y fr)];exact y) λc ws y=>by rw[eu (eL y fr)];exact y
       rcases ah with y|y
       . rw[y];exact nn b o q
       . exact nn c _ y
  refine⟨.ref s.heap.objs.size,_,I1,rfl,⟨s.heap.objs.size,x,y,fr,rfl,λws hw=>by rw[I.qm hw aa];exact hx,λws hw=>by rw[I.qm hw ab];exact hy,rfl⟩,⟨u1,u2,g1,?_,?_,?_,?_⟩,λb Y=>?_⟩
  . exact kk TI _ D.TIz D.TITO D.TIi1 D.TIi2 h2
  . exact g2.extBut _ _ D.TOz q2
  . exact q3.at λo q=>g2.extBut _ _ D.i1z q
  . exact q4.at λo q=>g2.extBut _ _ D.i2z q
  . rw[eu (Q0a (au b Y))];exact(hf b Y).1
 done:=by
  intro X hP hw hK hc i pins s σ H E I hf st hg;subst hP hw hK;obtain⟨oa,ob,h1,h2,h3,h4,h5⟩:=st;obtain⟨xs,ys,aa,ab,al⟩:=hg;obtain⟨aj,ae,p1,am⟩:=I.list aa;obtain⟨ak,af,p2,an⟩:=I.list ab;have e1:=ae.length;have e2:=af.length
  refine wpAny_pyNext_zip_end (I.ok.hd hc) D h1 h2 h3 h4 h5 p1.isList p2.isList (by
   rcases al with q|q
   . exact .inl (by simp;omega)
   . exact .inr (by simp;omega)) λh' hk=>⟨rfl,?_⟩
  refine I.step (g':=s.gens) (d':=s.drawn) (t':=s.toks) (ch:=[z,TO,J,U]) (λb Y=>?_) (λb o _ _ hc q _=>?_) (λb o _ _ hc q _=>?_) (λb o _ q n=>n) (λb o hc q=>?_) (λb ys q=>q) (λb o v q=>q) (λb ps q=>⟨#[],by rw[q];simp⟩) (λm hm=>?_) (λb o q=>?_) I.bare
  . have ag:b∈[z,TI,TO,J,U]:=by
     have Y:b=z\/b=TO\/b=J\/b=U:=by simpa using Y
     rcases Y with rfl|rfl|rfl|rfl <;> simp
    obtain⟨f0,f1,f2,f3,f4,f5⟩:=hf b ag;exact⟨f3,f1,f4,f5⟩
  . exact hk b o (λy=>hc (by simp[y])) (λy=>hc (by simp[y])) (λy=>hc (by simp[y])) (λy=>hc (by simp[y])) q
  . exact⟨o.slots,hk b o (λy=>hc (by simp[y])) (λy=>hc (by simp[y])) (λy=>hc (by simp[y])) (λy=>hc (by simp[y])) q⟩
  . exact⟨o,hk b o (λy=>hc (by simp[y])) (λy=>hc (by simp[y])) (λy=>hc (by simp[y])) (λy=>hc (by simp[y])) q⟩
  . obtain⟨o,es,ep,ho,r⟩:=hm;exact⟨o,es,ep,hk _ o (Ne.symm (hf z (by simp)).2.1) (Ne.symm (hf TO (by simp)).2.1) (Ne.symm (hf J (by simp)).2.1) (Ne.symm (hf U (by simp)).2.1) ho,r⟩
  . have nn:∀c v,H c=some v->∀y∈[z,TI,TO,J,U],c≠y:=λc v e y hy=>eL e (hf y hy).1;refine(I.hok b o q).stay (λc v ah y=>hk c v ?_ ?_ ?_ ?_ y) (λ_ y=>y) λ_ _ y=>y <;> (rcases ah with y|y)
    all_goals first
     |(rw[y];exact nn b o q _ (by simp))
     |exact nn c _ y _ (by simp)
 self:=λA i s Q E st q=>by
  obtain⟨oa,ob,h1,_⟩:=st;exact wpAny_pyIter_zip h1 q
def GO (K:W.Frag) (ta:TA):TI:=λσ H R=>ta σ H λvs H1=>∃a b,vs=[.ref a,.ref b]/\(∃xs,eA K H1 a xs)/\(∃ys,eA K H1 b ys)/\R (pq K a b) H1
section
variable {X:Cx}
theorem tZ {ab:List Expr}{k:Nat}{tpos:Pos}{a b:Expr}{ta:TA}{p pos:Pos}(hg:Gl X "zip")(hm:X.mg "zip"=none)(ha:PA X [a,b] ta)(hs:starEach [a,b] X.env=[(false,eval a X.env),(false,eval b X.env)]:=by rfl)
 (aa:starEach [b] X.env=[(false,eval b X.env)]:=by rfl):PI X (.Tuple ab k tpos) (.Call (.Name "zip" p) [a,b] [] pos) (GO X.K ta):=by
 intro pins s σ H R I h;refine Call_ (l_ I hg hm boot_zip (PyProof.Rows.callWith_type1 (e_ (ha pos pins s σ H _ I h) λus J zq=>?_) (by rw[hs,aa]) (by rw[aa];rfl)));obtain⟨vs,H1,Y,r1,q1⟩:=zq;obtain⟨l1,l2,e,⟨xs,ac⟩,⟨ys,ae⟩,q⟩:=q1;subst e;obtain⟨u1,u2,rfl,af,ag⟩:=vals2 r1
 cases af
 cases ag;obtain⟨ah,aj,p1,ak⟩:=Y.list ac;obtain⟨ai,al,p2,am⟩:=Y.list ae;have a1:l1<J.heap.objs.size:=by obtain⟨_,e,_⟩:=p1.isList;exact Q01 e
 have a2:l2<J.heap.objs.size:=by obtain⟨_,e,_⟩:=p2.isList;exact Q01 e
 refine call_zip_2 p1.isList p2.isList λh' q1 q2 q3 q4 q5 q6 q7=>?_;refine wpAny_pyIter_zip q1 ?_;have I2:Inv X pins σ H1 { J with heap:=h' }:=Y.kept (t':=J.toks) q7
 have Dz:ZipApart (J.heap.objs.size+4) (J.heap.objs.size+2) (J.heap.objs.size+3) J.heap.objs.size (J.heap.objs.size+1) l1 l2:=by
  have b1:@LT.lt Nat _ l1 J.heap.objs.size:=a1;have b2:@LT.lt Nat _ l2 J.heap.objs.size:=a2;constructor <;> (intro z;have z':(_:Nat)=_:=z;omega)
 refine⟨J.heap.objs.size+4,[J.heap.objs.size+4,J.heap.objs.size+2,J.heap.objs.size+3,J.heap.objs.size,J.heap.objs.size+1],_,_,H1,rfl,I2,GN Dz,⟨.none,.none,q1,q2,q3,q4,q5⟩,λb U=>?_,q⟩
 have U:J.heap.objs.size<=b:=by
  have U:b=J.heap.objs.size+4\/b=J.heap.objs.size+2\/b=J.heap.objs.size+3\/b=J.heap.objs.size\/b=J.heap.objs.size+1:=by simpa using U
  rcases U with z|z|z|z|z <;> rw[z]
  . exact Q1k _ _
  . exact Q1k _ _
  . exact Q1k _ _
  . exact Q00 _
  . exact Q1k _ _
 exact Y.mf U (Y.hok.fresh U)
end
end L2
namespace HT
open PyProof.Rows L2
section
open SeqAt
open PySem.AutoSeq1 (wpAny_loadPart')
open MeetsSeq MeetsSeq2 MeetsSeq3
inductive KeysAre:List Value->List Key->Prop
 |nil:KeysAre [] []
 |cons {u:Value} {k:Key} {us:List Value} {ks:List Key}:RelV (kV k) u->KeysAre us ks->KeysAre (u::us) (k::ks)
theorem KeysAre.of:∀{ks:List Key}{us:List Value},Vals (ks.map kV) us->KeysAre us ks
 |[],_,r=>by cases r;exact .nil
 |k::ks,_,r=>by
  cases r with
  |cons a b=>exact .cons a (KeysAre.of b)
theorem KeysAre.length:∀{us:List Value}{ks:List Key},KeysAre us ks->us.length=ks.length
 |_,_,.nil=>rfl
 |_,_,.cons _ h=>by rw[Q0j,Q0j,h.length]
theorem GP (A:Around)(s:Shared){k j:Key}{u v:Value}(r:RelV (kV k) u)(q:RelV (kV j) v)(ht:gT k=gT j):∃e,SeqAt.EqAt A s u v e/\(e=true↔k=j):=by
 rcases mJ r with⟨m,t,rfl,rfl⟩|⟨m,t,rfl,rfl⟩ <;> rcases mJ q with⟨n,t',rfl,rfl⟩|⟨n,t',rfl,rfl⟩
 . exact⟨m == n,SeqAt.EqAt.int_int m t n t',by simp⟩
 . cases ht
 . cases ht
 . exact⟨m == n,SeqAt.EqAt.str_str m t n t',by simp⟩
theorem GQ (A:Around)(s:Shared){k j:Key}{u v:Value}(r:RelV (kV k) u)(q:RelV (kV j) v)(ht:gT k=gT j)(prog:Program)(w:World)(E:Value->Shared->Prop)(Q:Value->Shared->Prop)(h:Q (.bool (!iF j k)) s):
 wpAny (model prog w) A (richCompare .LtE u v) Q E s:=by
 rcases mJ r with⟨m,t,rfl,rfl⟩|⟨m,t,rfl,rfl⟩ <;> rcases mJ q with⟨n,t',rfl,rfl⟩|⟨n,t',rfl,rfl⟩
 . have e:(!iF (.inl n) (.inl m))=decide (m<=n):=by
    show(!decide (n<m))=decide (m<=n);rw[<-decide_not];exact decide_eq_decide.mpr Int.not_lt
   rw[e] at h;exact(PyProof.Rows.le_int h:wpAny (model prog w) A (compareOp .LtE (.int m t) (.int n t')) Q E s)
 . cases ht
 . cases ht
 . exact(PySem.P.le_str h:wpAny (model prog w) A (compareOp .LtE (.str m t) (.str n t')) Q E s)
theorem GR (l b:Addr)(J I:Array Value)(n n2:Nat)(dd aj:Option Addr)(sl ak:Array (Option Value))(ns ms:List Key)(hi:KeysAre J.toList ns)(hj:KeysAre I.toList ms)(ht:ns.map gT=ms.map gT):
 Meets (Builtin.«tuple.__le__» ⟨[.ref l,.ref b],[]⟩)
  (λ_ R s=>s.heap.get? l=some { cls:=.type "tuple",dict:=dd,data:=.seq J n,slots:=sl }/\s.heap.get? b=some { cls:=.type "tuple",dict:=aj,data:=.seq I n2,slots:=ak }/\
    R (.ok (.ret (.bool (!gS ms ns)))) s):=
 .of_wp λprog w A R s h=>by
   obtain⟨hp,g,d,tk,os⟩:=s;obtain⟨hl,hb,h⟩:=h;have f2:=AutoSeq1.sub_tuple_tuple;have z1:J.size=ns.length:=by rw[<-hi.length];simp
   have z2:I.size=ms.length:=by rw[<-hj.length];simp
   have z3:ns.length=ms.length:=by have:=congrArg List.length ht;simpa using this
   wp_walk using wpAny_loadPart' hl,wpAny_loadPart' hb,wpAny_forIn_list _ (λrest b s'=>b.1=none/\s'=⟨hp,g,d,tk,os⟩/\∃(vs ws:List Value) (Y aa:List Key),rest=vs.zip ws/\
    KeysAre vs Y/\KeysAre ws aa/\Y.map gT=aa.map gT/\R (.ok (.ret (.bool (!gS aa Y)))) ⟨hp,g,d,tk,os⟩) _
   case turn=>
    rintro⟨y,x⟩ rest b s' ⟨ae,rfl,vs,ws,Y,aa,hz,af,ab,U,hR⟩
    cases af with
    |nil=>rw[List.zip_nil_left] at hz;cases hz
    |cons a ah=>
     cases ab with
     |nil=>rw[List.zip_nil_right] at hz;cases hz
     |cons c ai=>
      rw[Q33] at hz;injection hz with al ag
      injection al with hy hx
      subst hy hx;rw[ph] at hR;have t1:=(List.cons.inj U).1;have t2:=(List.cons.inj U).2;obtain⟨e,he,ac⟩:=GP A.in1 ⟨hp,g,d,tk,os⟩ a c t1;refine Q0 (he prog w _ _ ?_)
      cases e with
      |true=>
       rw[if_pos (ac.mp rfl).symm] at hR
       wp_walk
       exact⟨rfl,rfl,_,_,_,_,ag,ah,ai,t2,hR⟩
      |false=>
       rw[if_neg (λq=>absurd (ac.mpr q.symm) Bool.false_ne_true)] at hR;have am:=GQ A.in1 ⟨hp,g,d,tk,os⟩ a c t1 prog w
       wp_walk using am
       exact(Zr rfl (by simpa using hR))
   case fin=>
    rintro⟨b1,b2⟩ s' ⟨ae,rfl,vs,ws,Y,aa,hz,af,ab,U,hR⟩;simp only at ae;subst ae
    have hv:(!gS aa Y)=decide (J.size<=I.size):=by
     cases af with
     |nil=>
      cases ab with
      |nil=>exact(decide_eq_true (by omega)).symm
      |cons c hw=>cases U
     |cons a hv=>
      cases ab with
      |nil=>cases U
      |cons c hw=>
       rw[Q33] at hz
       cases hz
    rw[hv] at hR
    wp_walk
    exact(Zr rfl (by simpa[Builtin.Tuple.tupleCompareSizes] using hR))
   case h=>
    exact⟨rfl,rfl,J.toList,I.toList,ns,ms,rfl,hi,hj,ht,h⟩
end
section
variable {prog:Program}{w:World}{A:Around}{E:Value->Shared->Prop}{s:Shared}
theorem GS {l b:Addr}{J I:Array Value}{ns ms:List Key}{Q:Value->Shared->Prop}(hl:IsTup s.heap l J)(hb:IsTup s.heap b I)(hi:KeysAre J.toList ns)(hj:KeysAre I.toList ms)(ht:ns.map gT=ms.map gT)
 (hu:A.units<cLine) (h:Q (.bool (!gS ms ns)) s):wpAny (model prog w) A (compareOp .LtE (.ref l) (.ref b)) Q E s:=by
 obtain⟨⟨cls,dd,data,sl⟩,ho,hc,n,hd⟩:=id hl;obtain⟨⟨ae,ab,data2,ac⟩,U,Y,n2,aa⟩:=id hb;simp only at hc hd Y aa;subst hc hd Y aa
 exact richCompare_meets_room (op:=.LtE) ⟨_,ho,rfl⟩ ⟨_,U,rfl⟩ PySem.F.slot_tuple_le PySem.F.entry_tuple_le (PySem.F.args_tuple_le_2 _ _) (GR l b J I n n2 dd ab sl ac ns ms hi hj ht)
  ⟨ho,U,show Value.bool (!gS ms ns)≠Value.notImplemented/\Q (.bool (!gS ms ns)) s from⟨(λx=>nomatch x),h⟩⟩ hu
end
end HT
namespace L2
open Spec PyProof.Rows
section
variable {X:Cx}
def GU (K:W.Frag):R2:=λx y H Q=>∃a b ns ms,x=.ref a/\y=.ref b/\d_ K H a (ns.map kV)/\d_ K H b (ms.map kV)/\ns.map gT=ms.map gT/\Q (.bl (!gS ms ns)) H
theorem GV (U:X.A.units<cLine):gH X (compareOp .LtE) (GU X.K):=by
 intro pins s σ H x y v u Q I Y ry h;obtain⟨a,b,ns,ms,rfl,rfl,ha,hb,ht,q⟩:=h
 cases Y
 cases ry;obtain⟨aa,r1,p1,_⟩:=I.tuple ha;obtain⟨J,r2,p2,_⟩:=I.tuple hb;exact HT.GS p1 p2 (by simpa using HT.KeysAre.of r1) (by simpa using HT.KeysAre.of r2) ht U ⟨.bl (!gS ms ns),H,I,rfl,q⟩
end
section
variable {X:Cx}{pins:List (Addr × Obj)}{σ:St}{H:Hp}{s:Shared}
end
def GW (e:Addr) (l:List Env) (h h':Heap):Prop:=
 (∀b o,b ∉ frs l->b≠e->h.get? b=some o->h'.get? b=some o)/\∀b o,b≠e->h.get? b=some o->∃I,h'.get? b=some { o with slots:=I }
theorem t7 {f:Array Value->Array Value}{o:Obj}{vs:Array Value}(h:o.data=.fields vs):Obj.mapFields f o={ o with data:=.fields (f vs) }:=by
 obtain⟨c,d,I,J⟩:=o;have h:I=.fields vs:=h;subst h;rfl
section
variable {M:Model}{A:Around}{E:Value->Shared->Prop}{s:Shared}
theorem AZ {base:Heap}{env:Env}{outer:List Env}{L e:Addr}{I:Obj}{vs:Array Value}{J:Value}{ac:Bool}{Q:Unit->Shared->Prop}
 (ae:A.frames=some (env::outer)) (hl:s.heap.FunFrames base (env::outer)) (hf:env.frame=some L) (he:s.heap.get? e=some I) (hd:I.data=.fields vs) (hsz:1<vs.size)
 (h:∀(h':Heap) (T:Addr),s.heap.objs.size<=T->GW e (env::outer) s.heap h'->h'.get? e=some { I with data:=.fields (vs.setIfInBounds 1 (.ref T)) }->(∃oT ts,h'.get? T=some oT/\oT.data=.fields ts/\ts[3]? =some (rawInt L))->Q () { s with heap:=h' }):
 wpAny M A (do let a <-frameOf env;let pl <-entryPlaceOf L ac;let b <-EntryCells.newEntry J a .none (rawInt L) .none pl;setField (.ref e) 1 b) Q E s:=by
 have af:e ∉ (env::outer).filterMap (·.frame):=λz=>by
  obtain⟨_,o,ho,hn⟩:=hl.mem z;rw[he] at ho
  cases ho;exact hn vs hd
 refine Q0 (wpAny_frameOf_fun ae hl hf λh1 x1=>?_);refine Q0 (wpAny_entryPlaceOf λpl aa=>?_);unfold EntryCells.newEntry newFields;refine Q0 (wpAny_newObj_type ?_ (aa.sizeOk5 _ _ _ _ _));have e1:h1.get? e=some I:=(x1.2.1 e af).trans he;generalize ab:({ cls:=.type "traceback",dict:=none,data:=.fields ([J,.ref L,.none,rawInt L,.none]++(if pl.isEmpty then List.replicate 6 Value.none else pl)).toArray }:Obj)=ob;have e2:(h1.push ob).get? e=some I:=Q07 ob e1;have ag:h1.objs.size≠e:=Q0t (Q01 e1);have Y:({ I with data:=.fields (vs.setIfInBounds 1 (.ref h1.objs.size)) }:Obj).isFreed=false:=Obj.isFreed_of_fields rfl;have em:Obj.mapFields (·.setIfInBounds 1 (Value.ref h1.objs.size)) I={ I with data:=.fields (vs.setIfInBounds 1 (.ref h1.objs.size)) }:=t7 hd;refine wpAny_setField e2 hd hsz (h _ h1.objs.size (Q1t x1.1.symm) ⟨λb o hb U ho=>?_,λb o U ho=>?_⟩ ?_ ?_)
 . rw[Q15 _ _ (Ne.symm U)];exact Q07 ob ((x1.2.1 b hb).trans ho)
 . obtain⟨sl,hs⟩:=x1.2.2 b o ho;refine⟨sl,?_⟩;rw[Q15 _ _ (Ne.symm U)];exact Q07 ob hs
 . have:=Q1g (Obj.mapFields (·.setIfInBounds 1 (Value.ref h1.objs.size))) e2 (by rw[em];exact Y);rw[em] at this;exact this
 . refine⟨ob,_,?_,by rw[<-ab],?_⟩
   . rw[Q15 _ _ (Ne.symm ag)];exact Q0o h1 (by rw[<-ab];rfl)
   . first|(simp;done)|(rcases aa with rfl|⟨_,_,_,_,_,_,_,rfl⟩ <;> simp)
structure Tr (h:Heap) (e T:Addr) (cls fl:Value):Prop where
 ex:∃oe vs,h.get? e=some oe/\oe.cls=cls/\oe.dict=none/\oe.data=.fields vs/\vs[1]? =some (.ref T)
 tb:∃oT ts,h.get? T=some oT/\oT.data=.fields ts/\ts[3]? =some fl
 ne:T≠e
end
theorem gC.ex {P:Program}{w:World}{H:Hp}{h:Heap}{a:Addr}{o:HO}(x:gC P w H h a o):∃I,h.get? a=some I:=by
 cases o with
 |lst xs=>obtain⟨_,_,_,_,e⟩:=x;exact⟨_,e⟩
 |tup xs=>obtain⟨_,_,_,I,e,_⟩:=x;exact⟨I,e⟩
 |dK kvs=>obtain⟨_,_,_,_,I,_,_,e,_⟩:=x;exact⟨I,e⟩
 |dT kvs=>obtain⟨_,_,_,_,I,_,_,e,_⟩:=x;exact⟨I,e⟩
 |set S n=>obtain⟨I,_,_,_,e,_⟩:=x;exact⟨I,e⟩
 |ins C dx fs=>obtain⟨_,_,_,e,_⟩:=x;exact⟨_,e⟩
 |own y=>exact x
 |xd fs=>obtain⟨_,⟨I,_,_,e,_⟩,_⟩:=x;exact⟨I,e⟩
 |rng lo hi=>obtain⟨_,_,_,e⟩:=x;exact⟨_,e⟩
 |iI I u=>obtain⟨e,_⟩:=x;exact⟨_,e⟩
 |gF ps=>exact⟨_,show h.get? a=some _ from x⟩
 |met f y=>exact⟨_,show h.get? a=some _ from x⟩
 |ext J=>obtain⟨_,⟨I,e⟩,_⟩:=x;exact⟨I,e⟩
section
variable {X:Cx}{pins:List (Addr × Obj)}{σ:St}{H:Hp}{s:Shared}
theorem Heap.A0 {h:Heap}{a:Addr}(e:h.objs.size<=a):h.get? a=none:=by
 cases q:h.get? a with
 |none=>rfl
 |some o=>exact absurd (Q09 (Q01 q) e) (Q0m _)
theorem Inv.nK (I:Inv X pins σ H s)(hex:X.ex=[]){a:Addr}(e:s.heap.get? a=none):X.s₀.heap.get? a=none:=by
 cases q:X.s₀.heap.get? a with
 |none=>rfl
 |some o=>
  obtain⟨o',J⟩:=I.base.there a o q (by rw[hex];simp);rw[e] at J;cases J
theorem Inv.A1 (I:Inv X pins σ H s)(hex:X.ex=[]){a T:Addr}{h':Heap}(ha:X.s₀.heap.get? a=none)(hT:X.s₀.heap.get? T=none)(na:H a=none)(nT:H T=none)
 (k1:∀b o,b ∉ frs X.stack->b≠a->b≠T->s.heap.get? b=some o->h'.get? b=some o) (k2:∀b o,b≠a->b≠T->s.heap.get? b=some o->∃sl,h'.get? b=some { o with slots:=sl }):
 Un (frs X.outer) [] X.H₀ H X.s₀.heap h'/\gw X.prog X.w H h':=by
 have B:=I.base;rw[hex] at B
 have J:∀b o,X.s₀.heap.get? b=some o->b≠a/\b≠T/\b≠X.env.locals:=λb o e=>by
  have hb:=Q01 e;exact⟨(λz=>by rw[z,ha] at e;cases e),(λz=>by rw[z,hT] at e;cases e),λz=>Q0m _ (Q09 (z ▸ hb) I.ok.above)⟩
 refine⟨⟨λb o e n hf _=>?_,λb o e n hf _=>?_,λb o e n _=>B.free b o e n (by simp),λb o e _=>?_,B.tups,B.i4,B.i5⟩,λb o e=>(I.hok b o e).stay (λc u hc r=>?_) (λ_ r=>r) λ_ _ r=>r⟩
 . obtain⟨Y,o2,o3⟩:=J b o e;refine k1 b o (λz=>?_) Y o2 (B.keep b o e n hf (by simp));rcases List.mem_cons.mp (I.nj b z) with z|z
   . exact o3 z
   . exact hf z
 . obtain⟨Y,o2,o3⟩:=J b o e;obtain⟨sl,e1⟩:=B.slot b o e n hf (by simp);obtain⟨aa,e2⟩:=k2 b _ Y o2 e1;exact⟨aa,e2⟩
 . obtain⟨Y,o2,o3⟩:=J b o e;obtain⟨o',e1⟩:=B.there b o e (by simp);obtain⟨sl,e2⟩:=k2 b o' Y o2 e1;exact⟨_,e2⟩
 . have ab:∃v,H c=some v:=by
    rcases hc with z|z
    . exact⟨o,by rw[z];exact e⟩
    . exact⟨_,z⟩
   obtain⟨v,U⟩:=ab;refine k1 c u (λz=>?_) (λz=>?_) (λz=>?_) r
   . rw[I.oM c z] at U;cases U
   . rw[z,na] at U;cases U
   . rw[z,nT] at U;cases U
end
section
variable {M:Model}{A:Around}{E:Value->Shared->Prop}{s:Shared}
end
section
variable {X:Cx}{pins:List (Addr × Obj)}{σ:St}{H:Hp}{s:Shared}
end
section
variable {X:Cx}{k:Nat}{f:Addr}{fd:FuncData}{ps:List Str}{sp:Sp}{iw:List V}{ds:List Value}{Ek:XK}{x:Str}{p pos:Pos}{e:Expr}{es:List Expr}{t:TA}{te:TE}
end
end L2
namespace L2
open Spec PyProof.Rows W
theorem GX {M:Model}{A:Around}{E:Value->Shared->Prop}{K:Frag}{s:Shared}{a C D:Addr}{I:Obj}{b:Bool}{Q:Bool->Shared->Prop}(X:K.In s.heap)(h1:typeIn K (.ref D)=some (.type "type"))(h2:(clsIn K D).isSome=true)(Y:subIn K (.ref D) (.type "BaseException")=some true)
 (h4:subIn K (.ref C) (.ref D)=some b) (he:s.heap.get? a=some I) (hc:I.cls=.ref C) (hq:Q b s):wpAny M A (excMatches (.ref a) (.ref D)) Q E s:=by
 obtain⟨h,g,d,t,os⟩:=s;have L1:=looks_typeIn (M:=M) X h1;have L2:Looks M h (isSubtype (.type "type") (.type "tuple")) false:=Looks.of_pure tc_notTuple;have L3:=looks_subIn (M:=M) X Y;have L4:=looks_subIn (M:=M) X h4
 have L5:Looks M h (isType (.ref D)) true:=by
  unfold clsIn at h2;split at h2
  . rename_i c' d' aa ab ho;intro J Q' U s' k q;unfold isType loadHead;exact Q0 (wpAny_loadPart (k _ _ (X _ _ ho)) (Q0c q))
  . cases h2
 have L6:Looks M h (typeOf (.ref a)) (.ref C):=by
  have z:Looks M h (typeOf (.ref a)) I.cls:=(Looks.ld (show h.get? a=some I from he)).andThen .now;rw[hc] at z;exact z
 have L7:Looks M h (isInstance (.ref D) (.type "tuple")) false:=L1.andThen L2
 have L8:Looks M h (isExcClass (.ref D)) true:=λJ Q' U s' k q=>by
  unfold isExcClass;exact Q0 (L5 J _ U s' k (L3 J _ U s' k q))
 unfold excMatches;refine Q0 (L7.at ?_)
 repeat (any_goals (first|assumption|with_reducible refine L8.at ?_|with_reducible refine L6.at ?_|with_reducible refine L4.at ?_|wp_step))
 cases b <;> (repeat (any_goals (first|assumption|wp_step)))
end L2
namespace L2
open Spec PyProof.Rows
section
variable {X:Cx}{pins:List (Addr × Obj)}{σ:St}{H:Hp}{s:Shared}
theorem Inv.unbind {M:Model}{A:Around}{E:Value->Shared->Prop}{i:Nat}{x:Str}{pos:Pos}{Q:Unit->Shared->Prop}(I:Inv X pins σ H s)(hN:X.N.Nodup)(hi:X.N[i]? =some x)(hk:X.env.kindOf x=some .local)
 (h:∀s',Inv X pins (σ.set i none) H s'->Q () s'):wpAny M A (do bindName X.env x .none;unbindBehindTheSuite X.env x pos) Q E s:=by
 obtain⟨m,hn,hl⟩:=id I.loc;have aa:(X.env.scope.kind == .class || (X.env.scope.kind == .module && X.env.locals != X.env.globals))=false:=by rw[I.ok.kind];rfl
 have ab:i<σ.length:=by rw[I.len];exact(List.getElem?_eq_some_iff.mp hi).1
 have jL:=I.jL;refine wpAny_nameGoes_keeps hk hn aa λh' v ac U=>?_;obtain⟨oL,_,_,ae,_⟩:=id hn
 have J:gw X.prog X.w H h':=λb ob e=>by
  refine(I.hok b ob e).stay (λc w' hc q=>(U.2 c ?_).trans q) (λ_ q=>q) λ_ _ q=>q;rintro rfl;rcases hc with rfl|hc
  . rw[I.free] at e;cases e
  . rw[I.free] at hc;cases hc
 refine h _ ⟨I.ok,I.os,I.bare,⟨λb o e n hb hx=>?_,λb o e n hb hx=>?_,I.base.free,λb o e hx=>?_,I.base.tups,I.base.i4,I.base.i5⟩,⟨_,ac,λj y v' Y e2 e3=>?_⟩,λy c e=>?_,I.free,I.iC,λp hp=>?_,J,by simpa using I.len⟩
 . exact(U.2 b (Q0a (Q09 (Q01 e) I.ok.above))).trans (I.base.keep b o e n hb hx)
 . obtain⟨sl,Y⟩:=I.base.slot b o e n hb hx;exact⟨sl,(U.2 b (Q0a (Q09 (Q01 e) I.ok.above))).trans Y⟩
 . obtain⟨o',Y⟩:=I.base.there b o e hx;exact⟨o',(U.2 b (Q0a (Q09 (Q01 e) I.ok.above))).trans Y⟩
 . by_cases hj:j=i
   . subst hj;rw[Q26 ab] at e2
     cases e2
   . rw[Q1r (Ne.symm hj)] at e2;obtain⟨u',r',q⟩:=hl j y v' Y e2 e3;refine⟨u',r',?_⟩;rcases q with⟨k,e⟩|⟨k,c,e,z⟩
     . refine .inl ⟨k,?_⟩;have:y≠x:=λe=>hj (sJ hN Y (e ▸ hi));simp[this,e]
     . exact .inr ⟨k,c,e,z.sameBut U (jL y c e)⟩
 . obtain⟨w',z⟩:=I.cell y c e;exact⟨w',z.sameBut U (jL y c e)⟩
 . obtain⟨e,n,ne,nf,d⟩:=I.pin p hp;exact⟨(U.2 p.1 ne).trans e,n,ne,nf,d⟩
noncomputable abbrev Cx.marked (X:Cx) (a:Addr):Cx:={ X with A:=X.A.mark (some (.ref a)),calm:=false,xe:=λ_ _=>False }
theorem Inv.marked (I:Inv X pins σ H s)(a:Addr):Inv (X.marked a) pins σ H s:=
 ⟨⟨I.ok.mod,I.ok.kind,I.ok.glob,I.ok.blt,I.ok.above,I.ok.inj,I.ok.has,I.ok.cab,(λz=>by cases z),I.ok.frames,I.ok.stk,I.ok.oK,I.ok.bs,I.ok.jh,I.ok.lA,I.ok.l8,I.ok.iN,I.ok.j1⟩,I.os,I.bare,I.base,I.loc,I.cell,I.free,I.iC,I.pin,I.hok,I.len⟩
theorem Inv.unmarked {a:Addr}(I:Inv (X.marked a) pins σ H s)(ok:X.Ok):Inv X pins σ H s:=⟨ok,I.os,I.bare,I.base,I.loc,I.cell,I.free,I.iC,I.pin,I.hok,I.len⟩
end
def Ends.un (D:Ends) (i:Nat):Ends:={ nx:=λσ H=>D.nx (σ.set i none) H,rt:=D.rt,bk:=λσ H=>D.bk (σ.set i none) H,ct:=λσ H=>D.ct (σ.set i none) H }
end L2
namespace L2
open Spec Calls PyProof.Rows W Builtin Builtin.ObjectAttr Builtin.Getset_descriptor
structure nL (K:Frag) (C:Addr):Prop where
 ga:findIn K (.ref C) "__getattribute__"=some (some (.builtin "BaseException.__getattribute__"))
 gt:findIn K (.ref C) "__getattr__"=some none
 cl:findIn K (.ref C) "__class__"=some (some (.builtin "object.__class__"))
 ob:mroIn K C (.type "object")=some true
 bx:mroIn K C (.type "BaseException")=some true
 is:(clsIn K C).isSome=true
section
variable {prog:Program}{w:World}{A:Around}{E:Value->Shared->Prop}{K:Frag}{h:Heap}{g:Array GenState}{d:Drawn}{t:Nat}{os:OsState}{a C:Addr}{o:Obj}
theorem GY {I:Value}{M:Model}{Q:Unit->Shared->Prop}(X:K.In h)(Z:nL K C)(U:h.get? a=some o)(hc:o.cls=.ref C)(Y:Q () ⟨h,g,d,t,os⟩):
 wpAny M A (checkBuiltinCall "BaseException.__getattribute__" ⟨[.ref a,I],[]⟩) Q E ⟨h,g,d,t,os⟩:=by
 have hk:builtinKind "BaseException.__getattribute__"=some .slot:=by decide +kernel
 have J:splitId "BaseException.__getattribute__"=some ("BaseException","__getattribute__"):=by decide +kernel
 have ha:=F.args_bexc_ga (.ref a) I;have L1:=looks_mroIn (M:=M) X Z.bx;simp only[checkBuiltinCall,hk,J];refine Q0 ?_
 . unfold isInstance
   repeat (first|(with_reducible refine wpAny_loadPart_at U ?_;rw[hc])|with_reducible refine L1.at ?_|wp_step)
   exact Y
end
end L2
namespace L2
open Spec PyProof.Rows
section
variable {X:Cx}{es:List Expr}{n k:Nat}{t:St->Hp->Prop}{pos:Pos}
end
section
variable {X:Cx}
end
variable {P:Program}{w:World}{K:W.Frag}{mg:Str->Option Value}{base:Heap}
section
variable {X:Cx}
end
theorem jS.qO {x qual:Str}{st:Stmt}{f c:Addr}{fd:FuncData}{N ps:List Str}{k:Nat}{sp:Sp}(F:jS K x qual st f fd)(hc:fd.code=.ref c)(S:fG N ps (eX st))(len:∀vs H Q E,sp vs H Q E->vs.length=ps.length)
 (I:∀(A:Around) (outer:List Env) (s:Shared) (H:Hp) (vs:List V) (Q:VK) (E:XK),fV k (A.deeper (envOfC qual (eX st) s.heap.objs.size f (.ref c)))->sp vs H Q E->
   ∃t,iD (fw eI P w K mg base N qual (eX st) f (.ref c) A outer s H E).fB (g_ st) t/\t { nx:=λ_ H'=>Q .non H',rt:=Q } (start N vs) H):eE P w K mg base eI (k+1) f fd ps sp:=by
 obtain⟨oc,od,kV,aa,pm,an,J,ct,ab,rfl,lk,U⟩:=F.ex;have hc:J=.ref c:=hc;subst hc;refine sV lk U S len λA outer s H vs Q E hr Y=>?_;obtain⟨t,h,q⟩:=I A outer s H vs Q E hr Y;exact⟨t,h.fB,q⟩
def qP (I:List Addr) (H:Hp):Prop:=∀b,H b=none\/(∃o xs,H b=some (.iI o (.lst xs)))\/(b∈I/\H b=some (.gF #[]))
theorem GZ {P:Program}{w:World}{K:W.Frag}{mg mb:Str->Option Value}{CX:i8}{k:Nat}{fa a:Addr}{fd:FuncData}{x:Str}{sp:Sp}{I:Shared}{vs:List Value}{ns:List Int}{J:List (Addr × Addr)}
 (KX:K.In I.heap) (hT:W.TabsAt J I.heap) (ar:W.noTabs K=true) (au:BM mg I.heap) (aj:I.heap.Ns mainGlobals mg) (U:I.heap.Ns builtinsNs mb) (av:∀x:Str,x≠"__name__"->mb x=bootBuiltins x) (ao:I.heap.NoLimit) (hg:I.gens=#[])
 (ha:I.heap.get? a=some { cls:=.type "list",data:=.seq vs.toArray }) (hi:IntsAre vs ns) (hl:ns.length<=sizeLine) (hr:fV k callerA)
 (F:∀base:Heap,K.In base->base.Ns mainGlobals mg->BM mg base->eE P w K mg base CX k fa fd [x] sp) (ai:∀(s:Shared) (u:Value),BindsTo s fd ⟨[u],[]⟩ [(x,u)])
 (aw:∀H:Hp,qP (J.map (·.2)) H->(∀q∈J,H q.2=some (.gF #[]))->eA K H a (ns.map V.int)->sp [.ref a] H (λv _=>v=.bl true) λ_ _ _=>False)
 (ax:∀H e s',CX [] H I (λ_ _ _=>False) e s'->False):
 codeAny (model P w) callerA (.call (.ref fa) ⟨[.ref a],[]⟩) (λr s'=>r=.ok (.ret (.bool true))/\OldK I.heap s'.heap/\s'.os=I.os/\AllBare s'.gens) I:=by
 have rv:=Ap hi;have ap:=hi.length
 have aa:∀b,b∈J.map (·.2)->I.heap.get? b=some (W.tabObj #[]):=λb hm=>by
  obtain⟨q,hq,rfl⟩:=List.mem_map.mp hm;exact(hT q hq).2
 have ak:a ∉ J.map (·.2):=λhm=>by
  have:=aa a hm;rw[ha] at this;cases this
 have ag:∀H:Hp,qP (J.map (·.2)) H->(∀q∈J,H q.2=some (.gF #[]))->eA K H a (ns.map V.int)->gw P w H I.heap->(∀b,H b≠none->b=a\/b∈J.map (·.2))->(H a≠none->K.lookup a=none)->
  codeAny (model P w) callerA (.call (.ref fa) ⟨[.ref a],[]⟩) (λr s'=>r=.ok (.ret (.bool true))/\OldK I.heap s'.heap/\s'.os=I.os/\AllBare s'.gens) I:=by
  intro H hO al hS am hA hK;have Y:∀{b:Addr} {o:Obj},I.heap.get? b=some o->H b=none->(j0 I.heap H).get? b=some o:=λe n=>Eu e n
  have ac:∀{b:Addr} {o:Obj},I.heap.get? b=some o->(∀us n,o.data≠ .seq us n)->(∀us,o.data≠ .fields us)->H b=none:=λ{b o} e d1 d2=>by
   cases q:H b with
   |none=>rfl
   |some u=>
    rcases hA b (by rw[q];simp) with e'|e'
    . subst e';rw[ha] at e;cases e;exact absurd rfl (d1 _ _)
    . rw[aa b e'] at e;cases e;exact absurd rfl (d2 _)
  have af:∀{b:Addr} {m:Str->Option Value},I.heap.Ns b m->(j0 I.heap H).Ns b m:=λ{b m} ⟨o,es,ep,e,d,r⟩=>⟨o,es,ep,Y e (ac e (by rw[d];intro us n z;cases z) (by rw[d];intro us z;cases z)),d,r⟩
  have an:K.In (j0 I.heap H):=λb o e=>Y (KX b o e) (by
   cases q:H b with
   |none=>rfl
   |some u=>
    rcases hA b (by rw[q];simp) with e'|e'
    . subst e';rw[hK (by rw[q];simp)] at e;cases e
    . have e2:=KX b o e;rw[aa b e'] at e2;cases e2;have:=List.all_eq_true.mp ar _ (W.mem_of_lookupK e);simp at this)
  have hM:Mod K mg (j0 I.heap H):=⟨an,af aj,⟨mb,af U,av⟩,let⟨mc,h1,h2⟩:=ao;⟨mc,af h1,h2⟩⟩
  have ay:BM mg (j0 I.heap H):=by
   obtain⟨bm,o,b1,b2,b3,b4,b5,b6,b7⟩:=au;exact⟨bm,o,b1,b2,b3,Y b4 (ac b4 (by rw[b7];intro us n z;cases z) (by rw[b7];intro us z;cases z)),b5,b6,b7⟩
  have e0:my P w K mg (j0 I.heap H) callerA [] I H:=⟨rfl,hM,λb o e=>Ew e,Q1t (Et _ _),trivial,λb U=>absurd (show b∈([]:List Addr) from U) (by simp),am,.of_eq hg⟩;refine codeAny_mono ((F _ an (af aj) ay).run callerA [] I H ⟨[.ref a],[]⟩ [.ref a] [.ref a] _ _ hr e0 (ai I (.ref a)) (.cons rfl .nil) (aw H hO al hS)) λr s' h=>?_
  cases r with
  |error e=>exact(ax H e s' h).elim
  |ok fl=>
   cases fl with
   |next=>exact False.elim h
   |brk=>exact False.elim h
   |cont=>exact False.elim h
   |ret u=>
    obtain⟨v,H',os,aq,un,ah,r',q⟩:=h;have q':v=.bl true:=q;subst q';obtain rfl:u=Value.bool true:=r'
    have ae:∀b,b∈J.map (·.2)->∃ps,s'.heap.get? b=some (W.tabObj ps):=λb hm=>by
     obtain⟨q,hq,rfl⟩:=List.mem_map.mp hm;obtain⟨az,e⟩:=un.i5 _ _ (al q hq);exact⟨_,ah _ _ e⟩
    have keep:∀b o,b ∉ J.map (·.2)->I.heap.get? b=some o->s'.heap.get? b=some o:=λb o U e=>by
     cases q:H b with
     |none=>exact un.keep b o e q (by intro z;exact absurd (show b∈([]:List Addr) from z) (by simp)) (by simp)
     |some u=>
      rcases hO b with z|⟨ob,xs,z⟩|⟨z,_⟩
      . rw[q] at z;cases z
      . have z2:=un.i4 b ob _ z;obtain⟨e1,_⟩:=am b _ z;obtain⟨e2,_⟩:=ah b _ z2;rw[e] at e1;cases e1;exact e2
      . exact absurd z U
    refine⟨rfl,⟨λb o e=>?_,λb o e=>?_⟩,os,aq⟩
    . by_cases U:b∈J.map (·.2)
      . obtain⟨ps,hP⟩:=ae b U;have e2:=aa b U;rw[e] at e2;cases e2;obtain⟨q,hq,rfl⟩:=List.mem_map.mp U;exact .inr (.inl ⟨((hT q hq).1.tab (hT q hq).2).isCodeTable,rfl,#[],ps,rfl,by rw[Q2q];exact hP⟩)
      . exact .inl (keep b o U e)
    . by_cases U:b∈J.map (·.2)
      . obtain⟨ps,hP⟩:=ae b U;exact⟨_,hP⟩
      . exact⟨o,keep b o U e⟩
 cases hk:K.lookup a with
 |some o=>
  have e:=KX a o hk;rw[ha] at e
  cases e;refine ag (λb=>if b∈J.map (·.2) then some (.gF #[]) else none) (λb=>?_) (λq hq=>if_pos (Q1d hq)) (.inr ⟨_,vs.toArray,_,hk,rfl,rfl,rfl,by rw[Q0f,ap];exact hl,by simpa using rv⟩) (λb u z=>?_) (λb z=>?_) λz=>absurd (if_neg ak) z
  . by_cases U:b∈J.map (·.2)
    . exact .inr (.inr ⟨U,if_pos U⟩)
    . exact .inl (if_neg U)
  . by_cases U:b∈J.map (·.2)
    . have z':=(if_pos U).symm.trans z
      cases z';exact aa b U
    . have z':=(if_neg U).symm.trans z
      cases z'
  . by_cases U:b∈J.map (·.2)
    . exact .inr U
    . exact absurd (if_neg U) z
 |none=>
  refine ag (λb=>if b∈J.map (·.2) then some (.gF #[]) else if b=a then some (.iI { cls:=.type "list",data:=.seq vs.toArray } (.lst (ns.map V.int))) else none) (λb=>?_) (λq hq=>if_pos (Q1d hq))
   (.inl (.inr ⟨{ cls:=.type "list",data:=.seq vs.toArray },(if_neg ak).trans (if_pos rfl)⟩)) (λb u z=>?_) (λb z=>?_) λ_=>hk
  . by_cases U:b∈J.map (·.2)
    . exact .inr (.inr ⟨U,if_pos U⟩)
    . by_cases ab:b=a
      . exact .inr (.inl ⟨_,_,(if_neg U).trans (if_pos ab)⟩)
      . exact .inl ((if_neg U).trans (if_neg ab))
  . by_cases U:b∈J.map (·.2)
    . have z':=(if_pos U).symm.trans z
      cases z';exact aa b U
    . have z:=(if_neg U).symm.trans z;by_cases ab:b=a
      . have z':=(if_pos ab).symm.trans z
        cases z';subst ab;exact⟨ha,by rw[Q03];exact hl,vs,_,rv,ha⟩
      . have z':=(if_neg ab).symm.trans z
        cases z'
  . by_cases U:b∈J.map (·.2)
    . exact .inr U
    . by_cases ab:b=a
      . exact .inl ab
      . exact absurd ((if_neg U).trans (if_neg ab)) z
theorem G3 {l:W.OpenLaw}{n k:Nat}{q:Program}{loose:List Str}{XP:(Str->Option Value)->Heap->Prop}{YP:World->Heap->Prop}{d:DefRec}{K:Params->W.Frag}{sp:World->List (Addr × Addr)->Sp}{x:Str}{names:List Str}
 (hn:l.most=some n) (ae:n<=sizeLine) (af:d.params.defaults=[]) (hr:fV k callerA)
 (hY:∀(w:World) (h:Heap),YP w h->(K w.params).In h) (ag:∀w:World,W.noTabs (K w.params)=true)
 (tb:∀w:World,∃I:List (Addr × Addr),(∀q'∈I,∃y∈names,W.tabIn (K w.params) y=some q')/\
   (∀(mg:Str->Option Value) (fa:Addr) (h:Heap),(K w.params).In h->h.Ns mainGlobals mg->mg d.name=some (.ref fa)->
   ∃fd:FuncData,(∀(s:Shared) (u:Value),BindsTo s fd ⟨[u],[]⟩ [(x,u)])/\
    ∀base:Heap,(K w.params).In base->base.Ns mainGlobals mg->BM mg base->eE l.prog w (K w.params) mg base eI k fa fd [x] (sp w I)))
 (ab:∀y∈names,∃d',(recsOf q).find? (λe=>e.name == y)=some d')
 (ah:∀(w:World) (I:List (Addr × Addr)) (H:Hp) (a:Addr) (ns:List Int),ns.length<=n->qP (I.map (·.2)) H->(∀q∈I,H q.2=some (.gF #[]))->eA (K w.params) H a (ns.map V.int)->sp w I [.ref a] H (λv _=>v=.bl true) λ_ _ _=>False):
 W.WalkO q loose XP YP l.row.toRowW d [] (λf vs=>PySem.call f vs):=by
 refine Ao.F6 hn af λw s₀ J mg mb fa o pm cd am a vs ns G Y ho hd an ai ac aa U hg=>?_;have KX:=hY w _ Y;obtain⟨I,ht,F⟩:=tb w;obtain⟨fd,hb,hF⟩:=F mg fa _ KX G.T.g ai
 have hT:W.TabsAt I J.heap:=λq' hq=>by
  obtain⟨y,hy,aj⟩:=ht q' hq;obtain⟨d',ak⟩:=ab y hy;exact W.tab_of G.T KX ak aj
 have al:BM mg J.heap:=by
  obtain⟨bm,ob,b1,b2,b3,b4,b5,b6⟩:=G.T.bmain;refine⟨bm,ob,b1,b2,λz=>?_,b3,b4,b5,b6⟩;obtain⟨o',es,ep,e,hd,_⟩:=G.T.g;rw[z,e] at b3;cases b3;rw[hd] at b6;cases b6
 exact GZ KX hT (ag w) al G.T.g G.T.b G.T.builtins G.T.nolimit hg ac aa (Q0e U ae) hr hF hb (λH hO hP hS=>ah w I H a ns U hO hP hS) λH e s' h=>h.elim
end L2
namespace Pb
open L2 PyProof.Rows
mutual
inductive Kd where
 |num
 |fE
 |eZ (fs:Fs)
 |rows (key by_:Str) (fs:Fs)
 |tree (k:Kd)
 |gA (fs:Fs)
inductive Fs where
 |nil
 |cons (x:Str) (k:Kd) (r:Fs)
end
mutual
inductive D where
 |int (z:Int)
 |str (x:Str)
 |non
 |boo (b:Bool)
 |tup (xs:Ds)
 |lst (xs:Ds)
 |dct (m:Ds)
inductive Ds where
 |nil
 |cons (x:Str) (d:D) (r:Ds)
end
mutual
noncomputable def Kd.dep:Kd->Nat
 | .num=>1
 | .fE=>1
 | .eZ fs=>fs.dep+1
 | .rows _ _ fs=>fs.dep+1
 | .tree k=>k.dep+1
 | .gA fs=>fs.dep+1
noncomputable def Fs.dep:Fs->Nat
 | .nil=>0
 | .cons _ k r=>max k.dep r.dep
end
mutual
noncomputable def D.dep:D->Nat
 | .int _=>1
 | .str _=>1
 | .non=>1
 | .boo _=>1
 | .tup xs=>xs.dep+1
 | .lst xs=>xs.dep+1
 | .dct m=>m.dep+1
noncomputable def Ds.dep:Ds->Nat
 | .nil=>0
 | .cons _ d r=>max d.dep r.dep
end
theorem Kd.j6 (k:Kd):1<=k.dep:=by cases k <;> simp[Kd.dep]
theorem D.j6 (d:D):1<=d.dep:=by cases d <;> simp[D.dep]
noncomputable def Fs.names:Fs->List Str
 | .nil=>[]
 | .cons x _ r=>x::r.names
noncomputable def Fs.get:Fs->Str->Option Kd
 | .nil,_=>none
 | .cons y k r,x=>if x=y then some k else r.get x
noncomputable def Fs.at:Fs->Nat->Option (Str × Kd)
 | .nil,_=>none
 | .cons x k _,0=>some (x,k)
 | .cons _ _ r,i+1=>r.at i
noncomputable def Fs.snoc:Fs->Str->Kd->Fs
 | .nil,x,k=>.cons x k .nil
 | .cons y q r,x,k=>.cons y q (r.snoc x k)
noncomputable def Fs.take:Fs->Nat->Fs
 | .nil,_=>.nil
 | .cons _ _ _,0=>.nil
 | .cons x k r,i+1=>.cons x k (r.take i)
theorem Fs.t8:∀(fs:Fs) (x:Str) (k:Kd),(fs.snoc x k).names=fs.names++[x]
 | .nil,_,_=>rfl
 | .cons y q r,x,k=>by
   show y::(r.snoc x k).names=_;rw[Fs.t8 r x k];rfl
theorem Fs.t9:∀(fs:Fs) (x:Str) (k:Kd),(fs.snoc x k).dep=max fs.dep k.dep
 | .nil,_,k=>by simp[Fs.snoc,Fs.dep]
 | .cons y q r,x,k=>by
   show max q.dep (r.snoc x k).dep=max (max q.dep r.dep) k.dep;rw[Fs.t9 r x k,Nat.max_assoc]
theorem Fs.jT:∀(fs:Fs) (i:Nat),fs.names[i]? =(fs.at i).map (·.1)
 | .nil,i=>by simp[Fs.names,Fs.at]
 | .cons x k r,0=>by simp[Fs.names,Fs.at]
 | .cons x k r,i+1=>by
   show(x::r.names)[i+1]? =_;rw[List.getElem?_cons_succ,Fs.jT r i];rfl
theorem Fs.t_:∀{fs:Fs}{i:Nat},i<fs.names.length->∃x k,fs.at i=some (x,k)
 | .nil,i,h=>by simp[Fs.names] at h
 | .cons x k r,0,h=>⟨x,k,rfl⟩
 | .cons x k r,i+1,h=>Fs.t_ (fs:=r) (i:=i) (by simpa[Fs.names] using h)
theorem Fs.lG:∀{fs:Fs}{i:Nat}{x:Str}{k:Kd},fs.at i=some (x,k)->k.dep<=fs.dep
 | .nil,_,_,_,h=>by cases h
 | .cons x k r,0,_,_,h=>by
   cases h;exact Q1z _ _
 | .cons x k r,i+1,_,_,h=>Q0e (Fs.lG (fs:=r) (i:=i) h) (Q2 _ _)
theorem Fs.jU:∀{fs:Fs}{i:Nat}{x:Str}{k:Kd},fs.names.Nodup->fs.at i=some (x,k)->fs.get x=some k
 | .nil,_,_,_,_,h=>by cases h
 | .cons y q r,0,x,k,_,h=>by
   cases h;simp[Fs.get]
 | .cons y q r,i+1,x,k,I,h=>by
   have I:(y::r.names).Nodup:=I;obtain⟨J,U⟩:=List.nodup_cons.mp I;have h:r.at i=some (x,k):=h;have Y:x∈r.names:=Q0p (i:=i) (by rw[Fs.jT,h];rfl);show(if x=y then some q else r.get x)=some k;rw[if_neg (λe=>J (by rw[<-e];exact Y))];exact Fs.jU U h
theorem Fs.take_succ:∀{fs:Fs}{i:Nat}{x:Str}{k:Kd},fs.at i=some (x,k)->fs.take (i+1)=(fs.take i).snoc x k
 | .nil,_,_,_,h=>by cases h
 | .cons y q r,0,x,k,h=>by
   cases h
   cases r <;> rfl
 | .cons y q r,i+1,x,k,h=>by
   show Fs.cons y q (r.take (i+1))=Fs.cons y q ((r.take i).snoc x k);rw[Fs.take_succ (fs:=r) (i:=i) h]
theorem Fs.take_zero (fs:Fs):fs.take 0=.nil:=by cases fs <;> rfl
theorem Fs.take_all:∀(fs:Fs),fs.take fs.names.length=fs
 | .nil=>rfl
 | .cons x k r=>by
   show Fs.cons x k (r.take r.names.length)=_;rw[Fs.take_all r]
def j7:Kd->Prop
 | .num=>True
 | .fE=>True
 |_=>False
def Fs.pl (fs:Fs) (x:Str):Prop:=∃k,fs.get x=some k/\j7 k
mutual
def Kd.W:Kd->Prop
 | .num=>True
 | .fE=>True
 | .eZ fs=>fs.names.Nodup/\fs.names.length<=12/\fs.W
 | .rows key by_ fs=>fs.names.Nodup/\fs.names.length<=12/\fs.W/\fs.pl key/\(by_=""\/fs.pl by_)
 | .tree k=>k.W
 | .gA fs=>fs.names.Nodup/\fs.names.length<=12/\1<=fs.names.length/\fs.W
def Fs.W:Fs->Prop
 | .nil=>True
 | .cons x k r=>k.W/\x≠""/\r.W
end
theorem Fs.kU:∀{fs:Fs}{i:Nat}{x:Str}{k:Kd},fs.W->fs.at i=some (x,k)->k.W
 | .nil,_,_,_,_,h=>by cases h
 | .cons x k r,0,_,_,w,h=>by
   unfold Fs.W at w
   cases h;exact w.1
 | .cons x k r,i+1,_,_,w,h=>by
   unfold Fs.W at w;exact Fs.kU (fs:=r) (i:=i) w.2.2 h
theorem Fs.ua {x:Str}{k:Kd}(I:k.W)(J:x≠""):∀{fs:Fs},fs.W->(fs.snoc x k).W
 | .nil,_=>by
   show(Fs.cons x k .nil).W;unfold Fs.W;exact⟨I,J,by unfold Fs.W;trivial⟩
 | .cons y q r,h=>by
   unfold Fs.W at h;show(Fs.cons y q (r.snoc x k)).W;unfold Fs.W;exact⟨h.1,h.2.1,Fs.ua I J h.2.2⟩
noncomputable def Ds.get:Ds->Str->Option D
 | .nil,_=>none
 | .cons y d r,x=>if x=y then some d else r.get x
noncomputable def keyOf (m:Ds) (x:Str):Key:=match m.get x with
 |some (.int z)=>.inl z
 |some (.str s)=>.inr s
 |_=>.inl 0
noncomputable def rankOf (key by_:Str) (m:Ds):List Key:=if by_="" then [keyOf m key] else [keyOf m by_,keyOf m key]
theorem G4 {key by_:Str}{a b:Ds}(h:rankOf key by_ a=rankOf key by_ b):keyOf a key=keyOf b key:=by
 unfold rankOf at h;split at h
 . exact(List.cons.inj h).1
 . exact(List.cons.inj (List.cons.inj h).2).1
def iV (key by_:Str) (a b:Ds):Prop:=gS (rankOf key by_ a) (rankOf key by_ b)=true
def lI (key by_:Str) (a b:Ds):Prop:=mH (rankOf key by_ a) (rankOf key by_ b)
noncomputable def ins (key by_:Str) (m:Ds):List Ds->List Ds
 |[]=>[m]
 |y::q=>if gS (rankOf key by_ y) (rankOf key by_ m)=true then y::ins key by_ m q else m::y::q
noncomputable def gp (key by_:Str):List Ds->List Ds
 |[]=>[]
 |m::r=>ins key by_ m (gp key by_ r)
theorem ub (key by_:Str)(m:Ds):∀l:List Ds,(ins key by_ m l).Perm (m::l)
 |[]=>List.Perm.refl _
 |y::q=>by
  unfold ins;split
  . exact((ub key by_ m q).cons y).trans (List.Perm.swap m y q)
  . exact List.Perm.refl _
theorem iK (key by_:Str):∀l:List Ds,(gp key by_ l).Perm l
 |[]=>List.Perm.refl _
 |m::r=>(ub key by_ m _).trans ((iK key by_ r).cons m)
theorem A2 {a b:List Key}(h:gS a b=true):mH a b:=KeyOrd.kle_of_klt (O:=qL) h
theorem G5 {a b c:List Key}(h1:mH a b)(h2:mH b c):mH a c:=KeyOrd.kle_trans (O:=qL) h1 h2
theorem A4 (key by_:Str)(m:Ds):∀{l:List Ds},l.Pairwise (lI key by_)->(ins key by_ m l).Pairwise (lI key by_)
 |[],_=>Q3 _ _
 |y::q,h=>by
  obtain⟨h1,h2⟩:=List.pairwise_cons.mp h;unfold ins;by_cases c:gS (rankOf key by_ y) (rankOf key by_ m)=true
  . rw[if_pos c];refine List.pairwise_cons.mpr ⟨λz I=>?_,A4 key by_ m h2⟩;rcases List.mem_cons.mp ((ub key by_ m q).mem_iff.mp I) with e|e
    . rw[e];exact A2 c
    . exact h1 z e
  . rw[if_neg c];have c':lI key by_ m y:=by unfold lI mH;simpa using c
    refine List.pairwise_cons.mpr ⟨λz I=>?_,h⟩;rcases List.mem_cons.mp I with e|e
    . rw[e];exact c'
    . exact G5 c' (h1 z e)
theorem mK (key by_:Str):∀l:List Ds,(gp key by_ l).Pairwise (lI key by_)
 |[]=>List.Pairwise.nil
 |m::r=>A4 key by_ m (mK key by_ r)
theorem px {key by_:Str}{l:List Ds}(h:l.Pairwise (lI key by_))(J:(l.map λm=>keyOf m key).Nodup):l.Pairwise (iV key by_):=by
 have I:l.Pairwise λa b=>keyOf a key≠keyOf b key:=List.pairwise_map.mp J;refine(h.and I).imp λ{a b} ⟨h1,h2⟩=>?_;rcases qK (rankOf key by_ a) (rankOf key by_ b) with q|q|q
 . exact q
 . exact absurd (G4 q) h2
 . have h1:gS (rankOf key by_ b) (rankOf key by_ a)=false:=h1;rw[h1] at q;cases q
theorem A5 {key by_:Str}:∀{J I:List Ds},J.Perm I->J.Pairwise (iV key by_)->I.Pairwise (iV key by_)->J=I
 |[],I,p,_,_=>by rw[p.nil_eq]
 |a::r,[],p,_,_=>absurd p.length_eq (by simp)
 |a::r,b::q,p,h1,h2=>by
  obtain⟨Y,a2⟩:=List.pairwise_cons.mp h1;obtain⟨b1,b2⟩:=List.pairwise_cons.mp h2
  have e:a=b:=by
   have ha:a∈b::q:=p.mem_iff.mp Q06;have hb:b∈a::r:=p.mem_iff.mpr Q06;rcases List.mem_cons.mp ha with e|e
   . exact e
   . rcases List.mem_cons.mp hb with U|U
     . exact U.symm
     . have z:=pj _ _ _ (Y b U) (b1 a e);rw[qJ] at z;cases z
  subst e;rw[A5 ((List.perm_cons a).mp p) a2 b2]
theorem pz {key by_:Str}{l z:List Ds}(p:z.Perm l)(h:z.Pairwise (lI key by_))(I:(l.map λm=>keyOf m key).Nodup):z=gp key by_ l:=
 A5 (p.trans (iK key by_ l).symm) (px h ((p.map _).nodup_iff.mpr I)) (px (mK key by_ l) (((iK key by_ l).map _).nodup_iff.mpr I))
noncomputable def gh:List Ds->Ds
 |[]=>.nil
 |m::r=>.cons "" (.dct m) (gh r)
noncomputable abbrev pairD (a b:D):D:=.tup (.cons "" a (.cons "" b .nil))
mutual
def Tree (P:D->Prop):D->Prop
 | .tup xs=>jk P xs
 |_=>False
def jk (P:D->Prop):Ds->Prop
 | .cons _ t (.cons _ (.lst as) .nil)=>P t/\iG P as
 |_=>False
def iG (P:D->Prop):Ds->Prop
 | .nil=>True
 | .cons _ d r=>Tree P d/\iG P r
end
mutual
def eV:Kd->D->Prop
 | .num,d=>∃z,d=.int z
 | .fE,d=>∃x,d=.str x
 | .eZ fs,d=>∃m,d=.dct m/\fH fs m
 | .rows key by_ fs,d=>∃rs:List Ds,d=.lst (gh rs)/\(∀m∈rs,fH fs m)/\rs.Pairwise (iV key by_)/\(rs.map λm=>keyOf m key).Nodup
 | .tree k,d=>Tree (eV k) d
 | .gA fs,d=>∃x v,d=pairD (.str x) v/\jV fs x v
def fH:Fs->Ds->Prop
 | .nil,m=>m=.nil
 | .cons x k r,m=>∃d q,m=.cons x d q/\eV k d/\fH r q
def jV:Fs->Str->D->Prop
 | .nil,_,_=>False
 | .cons y k r,x,v=>(x=y/\eV k v)\/(x≠y/\jV r x v)
end
theorem Tree.shape {P:D->Prop}:∀{d:D},Tree P d->∃x y t as,d=.tup (.cons x t (.cons y (.lst as) .nil))/\P t/\iG P as
 | .tup (.cons x t (.cons y (.lst as) .nil)),h=>by
   unfold Tree jk at h;exact⟨x,y,t,as,rfl,h.1,h.2⟩
 | .tup .nil,h=>by unfold Tree jk at h;exact h.elim
 | .tup (.cons _ _ .nil),h=>by unfold Tree jk at h;exact h.elim
 | .tup (.cons _ _ (.cons _ (.int _) _)),h=>by unfold Tree jk at h;exact h.elim
 | .tup (.cons _ _ (.cons _ (.str _) _)),h=>by unfold Tree jk at h;exact h.elim
 | .tup (.cons _ _ (.cons _ .non _)),h=>by unfold Tree jk at h;exact h.elim
 | .tup (.cons _ _ (.cons _ (.boo _) _)),h=>by unfold Tree jk at h;exact h.elim
 | .tup (.cons _ _ (.cons _ (.tup _) _)),h=>by unfold Tree jk at h;exact h.elim
 | .tup (.cons _ _ (.cons _ (.dct _) _)),h=>by unfold Tree jk at h;exact h.elim
 | .tup (.cons _ _ (.cons _ (.lst _) (.cons _ _ _))),h=>by unfold Tree jk at h;exact h.elim
 | .int _,h=>by unfold Tree at h;exact h.elim
 | .str _,h=>by unfold Tree at h;exact h.elim
 | .non,h=>by unfold Tree at h;exact h.elim
 | .boo _,h=>by unfold Tree at h;exact h.elim
 | .lst _,h=>by unfold Tree at h;exact h.elim
 | .dct _,h=>by unfold Tree at h;exact h.elim
theorem fH.get:∀{fs:Fs}{m:Ds}{x:Str}{k:Kd},fH fs m->fs.get x=some k->∃d,m.get x=some d/\eV k d
 | .nil,_,_,_,_,h=>by cases h
 | .cons y q r,m,x,k,f,h=>by
   unfold fH at f;obtain⟨d,t,rfl,f1,I⟩:=f;have h:(if x=y then some q else r.get x)=some k:=h;by_cases e:x=y
   . rw[if_pos e] at h
     cases h;exact⟨d,by show(if x=y then some d else t.get x)=_;rw[if_pos e],f1⟩
   . rw[if_neg e] at h;obtain⟨d',J,U⟩:=fH.get I h;exact⟨d',by show(if x=y then some d else t.get x)=_;rw[if_neg e];exact J,U⟩
theorem fH.plain {fs:Fs}{m:Ds}{x:Str}(f:fH fs m)(h:fs.pl x):(m.get x=some (.int 0)\/True)/\((∃z,m.get x=some (.int z)/\keyOf m x=.inl z/\fs.get x=some .num)\/∃s,m.get x=some (.str s)/\keyOf m x=.inr s/\fs.get x=some .fE):=by
 refine⟨.inr trivial,?_⟩;obtain⟨k,h1,h2⟩:=h;obtain⟨d,I,J⟩:=f.get h1
 cases k with
 |num=>
  unfold eV at J;obtain⟨z,rfl⟩:=J;exact .inl ⟨z,I,by unfold keyOf;rw[I],h1⟩
 |fE=>
  unfold eV at J;obtain⟨s,rfl⟩:=J;exact .inr ⟨s,I,by unfold keyOf;rw[I],h1⟩
 |eZ _=>exact h2.elim
 |rows _ _ _=>exact h2.elim
 |tree _=>exact h2.elim
 |gA _=>exact h2.elim
theorem A6:∀{fs:Fs}{x:Str}{v:D},jV fs x v->x∈fs.names
 | .nil,_,_,h=>by unfold jV at h;exact h.elim
 | .cons y k r,x,v,h=>by
   unfold jV at h;rcases h with⟨e,_⟩|⟨_,h⟩
   . rw[e];exact Q06
   . exact Q0b _ (A6 h)
noncomputable def j8:Option Kd->Bool
 |some .num=>true
 |_=>false
theorem fH.tag {fs:Fs}{m:Ds}{x:Str}(f:fH fs m)(h:fs.pl x):gT (keyOf m x)=j8 (fs.get x):=by
 rcases(f.plain h).2 with⟨z,_,e,g⟩|⟨s,_,e,g⟩ <;> rw[e,g] <;> rfl
theorem qQ {fs:Fs}{key by_:Str}{m:Ds}(f:fH fs m)(h1:fs.pl key)(h2:by_=""\/fs.pl by_):(rankOf key by_ m).map gT=if by_="" then [j8 (fs.get key)] else [j8 (fs.get by_),j8 (fs.get key)]:=by
 unfold rankOf;split
 . show [gT (keyOf m key)]=_;rw[f.tag h1]
 . rename_i e;rcases h2 with z|z
   . exact absurd z e
   . show [gT (keyOf m by_),gT (keyOf m key)]=_;rw[f.tag h1,f.tag z]
noncomputable def cellAt (ns:List Int) (n:Int):Int:=if 0<ns.length then ns.getD (n % (ns.length:Int)).toNat 0 else 0
noncomputable def nx (ns:List Int) (n:Int):Int:=
 ((cellAt ns n % 2147483647+n * n * 7919+11) * 48271 % 2147483647) * ((cellAt ns n % 2147483647+n * n * 7919+11) * 48271 % 2147483647) % 1999999973
theorem qR (ns:List Int)(n:Int):0<=nx ns n:=Q0g _ (by decide)
theorem uc (ns:List Int)(n:Int):nx ns n<1999999973:=Q0h _ (by decide)
noncomputable def num (ns:List Int) (n:Int):Int:=
 if nx ns n % 3=0 then nx ns n / 3 % 7 - 3 else(cellAt ns n % 10 ^ 40+nx ns n * 10 ^ 29) % (2 * 10 ^ 40) - 10 ^ 40
noncomputable def jz:Str:=" !#$&'()*+,-./0123456789:;<=>?@ABCDEFGHIJKLMNOPQRSTUVWXYZ"++"[\\]^_`abcdefghijklmnopqrstuvwxyz{|}~"
noncomputable def nM (m:Int):Nat->Str
 |0=>""
 |k+1=>nM m k++⟨#[(jz.cps.toList.getD ((m / 145+(k:Int) * (k:Int) * (m / 7 % 3)) % 93).toNat 0)]⟩
noncomputable def fE (ns:List Int) (n:Int):Str:=nM (nx ns n) (if nx ns n / 5 % 29=0 then 40 else(nx ns n % 5).toNat)
noncomputable def times (g:Int->D × Int):Nat->Int->Ds × Int
 |0,n=>(.nil,n)
 |m+1,n=>(.cons "" (g n).1 (times g m (g n).2).1,(times g m (g n).2).2)
noncomputable def gP (ns:List Int) (f:Nat->Int->D × Int):Nat->Nat->Int->D × Int
 |0,_,n=>(.int 0,n)
 |fu+1,room,n=>
  (pairD (f (room / 2) n).1 (.lst (times (gP ns f fu (room / 2)) (nx ns ((f (room / 2) n).2+1) % ((room:Int)+1)).toNat ((f (room / 2) n).2+1)).1),
    (times (gP ns f fu (room / 2)) (nx ns ((f (room / 2) n).2+1) % ((room:Int)+1)).toNat ((f (room / 2) n).2+1)).2)
noncomputable def jA (key:Str) (l:List Ds) (k:Key):Bool:=l.any λr=>decide (keyOf r key=k)
noncomputable def f9 (g:Int->Ds × Int) (key:Str):Nat->List Ds->Int->List Ds × Int
 |0,I,n=>(I,n)
 |m+1,I,n=>if jA key I (keyOf (g n).1 key)=true then f9 g key m I (g n).2 else f9 g key m (I++[(g n).1]) (g n).2
mutual
noncomputable def val (ns:List Int):Kd->Nat->Int->D × Int
 | .num,_,n=>(.int (num ns (n+1)),n+1)
 | .fE,_,n=>(.str (fE ns (n+1)),n+1)
 | .eZ fs,room,n=>(.dct (fc ns fs room n).1,(fc ns fs room n).2)
 | .rows key by_ fs,room,n=>
   (.lst (gh (gp key by_ (f9 (fc ns fs (room / 2)) key (nx ns (n+1) % ((room:Int)+1)).toNat [] (n+1)).1)),(f9 (fc ns fs (room / 2)) key (nx ns (n+1) % ((room:Int)+1)).toNat [] (n+1)).2)
 | .tree k,room,n=>gP ns (val ns k) 4 room n
 | .gA fs,room,n=>h_ ns fs (nx ns (n+1) % (fs.names.length:Int)).toNat room (n+1)
noncomputable def fc (ns:List Int):Fs->Nat->Int->Ds × Int
 | .nil,_,n=>(.nil,n)
 | .cons x k r,room,n=>(.cons x (val ns k room n).1 (fc ns r room (val ns k room n).2).1,(fc ns r room (val ns k room n).2).2)
noncomputable def h_ (ns:List Int):Fs->Nat->Nat->Int->D × Int
 | .nil,_,_,n=>(.int 0,n)
 | .cons x k _,0,room,n=>(pairD (.str x) (val ns k room n).1,(val ns k room n).2)
 | .cons _ _ r,i+1,room,n=>h_ ns r i room n
end
theorem qS {g:Int->Ds × Int}{key:Str}:∀(m:Nat) (I:List Ds) (n:Int),(I.map λr=>keyOf r key).Nodup->((f9 g key m I n).1.map λr=>keyOf r key).Nodup
 |0,_,_,h=>h
 |m+1,I,n,h=>by
  unfold f9;split
  . exact qS m I _ h
  . rename_i c;refine qS m _ _ ?_;rw[Q0i];refine List.nodup_append.mpr ⟨h,by simp,λa J b U=>?_⟩;have:b=keyOf (g n).1 key:=by simpa using U
    rw[this];obtain⟨r,Y,e⟩:=List.mem_map.mp J;exact λe2=>c (List.any_eq_true.mpr ⟨r,Y,decide_eq_true (e.trans e2)⟩)
theorem nN {g:Int->Ds × Int}{key:Str}{R:Ds->Prop}(J:∀n,R (g n).1):∀(m:Nat) (I:List Ds) (n:Int),(∀r∈I,R r)->∀r∈(f9 g key m I n).1,R r
 |0,_,_,h=>h
 |m+1,I,n,h=>by
  unfold f9;split
  . exact nN J m I _ h
  . refine nN J m _ _ λr U=>?_;rcases List.mem_append.mp U with q|q
    . exact h r q
    . have:r=(g n).1:=by simpa using q
      rw[this];exact J n
theorem A7 {P:D->Prop}{g:Int->D × Int}(I:∀n,Tree P (g n).1):∀(m:Nat) (n:Int),iG P (times g m n).1
 |0,_=>by unfold times iG;trivial
 |m+1,n=>by
  unfold times iG;exact⟨I n,A7 I m _⟩
theorem A8 {ns:List Int}{P:D->Prop}{f:Nat->Int->D × Int}(I:∀room n,room<8->P (f room n).1):∀(fu room:Nat) (n:Int),room<8->room<2 ^ fu->Tree P (gP ns f (fu+1) room n).1
 |0,room,n,_,h=>by
  have e:room=0:=by simpa using h
  subst e;unfold gP
  have J:(nx ns ((f (0 / 2) n).2+1) % (((0:Nat):Int)+1)).toNat=0:=by
   have:nx ns ((f (0 / 2) n).2+1) % (((0:Nat):Int)+1)=0:=by
    show _ % (1:Int)=0;exact Int.emod_one _
   rw[this];rfl
  rw[J];unfold Tree jk;exact⟨I _ _ (by decide),by unfold times iG;trivial⟩
 |fu+1,room,n,Y,h=>by
  have U:=λm=>A8 (ns:=ns) I fu (room / 2) m (by omega) (by rw[Q2e] at h;omega);unfold gP;unfold Tree jk;exact⟨I _ _ (by omega),A7 U _ _⟩
mutual
theorem mL (ns:List Int):∀(k:Kd),k.W->∀(room:Nat) (n:Int),room<8->eV k (val ns k room n).1
 | .num,_,room,n,_=>by unfold val eV;exact⟨_,rfl⟩
 | .fE,_,room,n,_=>by unfold val eV;exact⟨_,rfl⟩
 | .eZ fs,w,room,n,h=>by
   unfold Kd.W at w;unfold val eV;exact(Zr rfl (lJ ns fs w.2.2 room n h))
 | .rows key by_ fs,w,room,n,h=>by
   unfold Kd.W at w;unfold val eV;have I:=qS (g:=fc ns fs (room / 2)) (key:=key) (nx ns (n+1) % ((room:Int)+1)).toNat [] (n+1) Q0w;refine(Zr rfl ⟨λm J=>?_,?_,?_⟩)
   . exact nN (R:=fH fs) (λn=>lJ ns fs w.2.2.1 (room / 2) n (by omega)) _ _ _ (λr U=>absurd U (by simp)) m ((iK key by_ _).mem_iff.mp J)
   . exact px (mK key by_ _) (((iK key by_ _).map _).nodup_iff.mpr I)
   . exact((iK key by_ _).map _).nodup_iff.mpr I
 | .tree k,w,room,n,h=>by
   unfold Kd.W at w;unfold val eV;exact A8 (λroom n h=>mL ns k w room n h) 3 room n h (by simpa using h)
 | .gA fs,w,room,n,h=>by
   unfold Kd.W at w;unfold val eV
   have hl:(nx ns (n+1) % (fs.names.length:Int)).toNat<fs.names.length:=by
    have:=Q0h (nx ns (n+1)) (show(0:Int)<fs.names.length by omega);have:=Q0g (nx ns (n+1)) (show(fs.names.length:Int)≠0 by omega);omega
   exact A9 ns fs w.2.2.2 w.1 _ room _ h hl
theorem lJ (ns:List Int):∀(fs:Fs),fs.W->∀(room:Nat) (n:Int),room<8->fH fs (fc ns fs room n).1
 | .nil,_,_,_,_=>by unfold fc fH;rfl
 | .cons x k r,w,room,n,h=>by
   unfold Fs.W at w;unfold fc fH;exact⟨_,Zr rfl ⟨mL ns k w.1 room n h,lJ ns r w.2.2 room _ h⟩⟩
theorem A9 (ns:List Int):∀(fs:Fs),fs.W->fs.names.Nodup->∀(i room:Nat) (n:Int),room<8->i<fs.names.length->∃x v,(h_ ns fs i room n).1=pairD (.str x) v/\jV fs x v
 | .nil,_,_,i,_,_,_,hi=>by simp[Fs.names] at hi
 | .cons x k r,w,I,0,room,n,h,hi=>by
   unfold Fs.W at w;unfold h_;exact⟨x,Zr rfl (by unfold jV;exact .inl ⟨rfl,mL ns k w.1 room n h⟩)⟩
 | .cons x k r,w,I,i+1,room,n,h,hi=>by
   unfold Fs.W at w;unfold h_;have I:(x::r.names).Nodup:=I;obtain⟨J,U⟩:=List.nodup_cons.mp I;obtain⟨y,v,e,f⟩:=A9 ns r w.2.2 U i room n h (by simpa[Fs.names] using hi);refine⟨y,v,e,?_⟩;unfold jV;exact .inr ⟨λz=>J (by rw[<-z];exact A6 f),f⟩
end
mutual
noncomputable def Kd.dB:Kd->Nat
 | .num=>1
 | .fE=>1
 | .eZ fs=>fs.dB+1
 | .rows _ _ fs=>fs.dB+2
 | .tree k=>k.dB+10
 | .gA fs=>fs.dB+2
noncomputable def Fs.dB:Fs->Nat
 | .nil=>0
 | .cons _ k r=>max k.dB r.dB
end
mutual
noncomputable def Kd.cB:Kd->Nat
 | .num=>1
 | .fE=>1
 | .eZ fs=>fs.cB
 | .rows _ _ fs=>8 * fs.cB+1
 | .tree k=>(k.cB+1) * 585
 | .gA fs=>fs.cB+1
noncomputable def Fs.cB:Fs->Nat
 | .nil=>0
 | .cons _ k r=>k.cB+r.cB
end
theorem qT:∀{l:List Ds}{n:Nat},(∀m∈l,m.dep<=n)->(gh l).dep<=n+1
 |[],n,_=>by simp[gh,Ds.dep]
 |m::r,n,h=>by
  have h1:=h m Q06;have h2:=qT (l:=r) (n:=n) λx I=>h x (Q0b _ I);simp only[gh,Ds.dep,D.dep];omega
theorem A_ {g:Int->D × Int}{N:Nat}(I:∀n,(g n).1.dep<=N):∀(m:Nat) (n:Int),(times g m n).1.dep<=N
 |0,_=>by simp[times,Ds.dep]
 |m+1,n=>by
  have h1:=I n;have h2:=A_ I m (g n).2;simp only[times,Ds.dep];omega
theorem Ba {ns:List Int}{f:Nat->Int->D × Int}{N:Nat}(h1:1<=N)(I:∀room n,(f room n).1.dep<=N):∀(fu room:Nat) (n:Int),(gP ns f fu room n).1.dep<=N+2 * fu
 |0,_,_=>by simp[gP,D.dep];omega
 |fu+1,room,n=>by
  have a:=I (room / 2) n;have b:=A_ (g:=gP ns f fu (room / 2)) (N:=N+2 * fu) (λn=>Ba h1 I fu (room / 2) n) (nx ns ((f (room / 2) n).2+1) % ((room:Int)+1)).toNat ((f (room / 2) n).2+1);simp only[gP,D.dep,Ds.dep];omega
theorem Kd.G6 (k:Kd):1<=k.dB:=by cases k <;> simp[Kd.dB]
mutual
theorem ud (ns:List Int):∀(k:Kd) (room:Nat) (n:Int),(val ns k room n).1.dep<=k.dB
 | .num,_,_=>by simp[val,D.dep,Kd.dB]
 | .fE,_,_=>by simp[val,D.dep,Kd.dB]
 | .eZ fs,room,n=>by
   have:=qU ns fs room n;simp only[val,D.dep,Kd.dB];omega
 | .rows key by_ fs,room,n=>by
   have:=qT (l:=gp key by_ (f9 (fc ns fs (room / 2)) key (nx ns (n+1) % ((room:Int)+1)).toNat [] (n+1)).1) (n:=fs.dB) λm I=>
    nN (R:=λm=>m.dep<=fs.dB) (λn=>qU ns fs (room / 2) n) _ _ _ (λr J=>absurd J (by simp)) m ((iK key by_ _).mem_iff.mp I)
   simp only[val,D.dep,Kd.dB];omega
 | .tree k,room,n=>by
   have:=Ba (ns:=ns) (f:=val ns k) k.G6 (λroom n=>ud ns k room n) 4 room n;simp only[val,Kd.dB];omega
 | .gA fs,room,n=>by
   have:=Bb ns fs (nx ns (n+1) % (fs.names.length:Int)).toNat room (n+1);simp only[val,Kd.dB];omega
theorem qU (ns:List Int):∀(fs:Fs) (room:Nat) (n:Int),(fc ns fs room n).1.dep<=fs.dB
 | .nil,_,_=>by simp[fc,Ds.dep]
 | .cons x k r,room,n=>by
   have a:=ud ns k room n;have b:=qU ns r room (val ns k room n).2;simp only[fc,Ds.dep,Fs.dB];omega
theorem Bb (ns:List Int):∀(fs:Fs) (i room:Nat) (n:Int),(h_ ns fs i room n).1.dep<=fs.dB+2
 | .nil,_,_,_=>by simp[h_,D.dep]
 | .cons x k r,0,room,n=>by
   have a:=ud ns k room n;simp only[h_,D.dep,Ds.dep,Fs.dB];omega
 | .cons x k r,i+1,room,n=>by
   have a:=Bb ns r i room n;simp only[h_,Fs.dB];omega
end
theorem mod_le {a:Int}{room:Nat}(h:room<8):(a % ((room:Int)+1)).toNat<=room:=by
 have:=Q0h a (show(0:Int)<(room:Int)+1 by omega);have:=Q0g a (show((room:Int)+1)≠0 by omega);omega
theorem ue {g:Int->D × Int}{N:Nat}(I:∀n,n<=(g n).2/\(g n).2<=n+N):∀(m:Nat) (n:Int),n<=(times g m n).2/\(times g m n).2<=n+(m * N:Nat)
 |0,n=>by simp[times]
 |m+1,n=>by
  obtain⟨J,U⟩:=I n;obtain⟨Y,b2⟩:=ue I m (g n).2;have e:(m+1) * N=m * N+N:=Q1m m N;simp only[times];rw[e];omega
noncomputable def j9:Nat->Nat
 |0=>0
 |n+1=>8 * j9 n+1
theorem nO {ns:List Int}{f:Nat->Int->D × Int}{N:Nat}(I:∀room n,room<8->n<=(f room n).2/\(f room n).2<=n+N):∀(fu room:Nat) (n:Int),room<8->n<=(gP ns f fu room n).2/\(gP ns f fu room n).2<=n+((N+1) * j9 fu:Nat)
 |0,_,n,_=>by simp[gP,j9]
 |fu+1,room,n,h=>by
  obtain⟨J,U⟩:=I (room / 2) n (by omega);obtain⟨Y,b2⟩:=ue (g:=gP ns f fu (room / 2)) (N:=(N+1) * j9 fu) (λn=>nO I fu (room / 2) n (by omega)) (nx ns ((f (room / 2) n).2+1) % ((room:Int)+1)).toNat ((f (room / 2) n).2+1);have c:=mod_le (a:=nx ns ((f (room / 2) n).2+1)) h;have d:(nx ns ((f (room / 2) n).2+1) % ((room:Int)+1)).toNat * ((N+1) * j9 fu)<=8 * ((N+1) * j9 fu):=Q0z _ (by omega)
  have e:(N+1) * j9 (fu+1)=8 * ((N+1) * j9 fu)+(N+1):=by
   show(N+1) * (8 * j9 fu+1)=_;rw[Nat.mul_add,Q34,Nat.mul_one]
  simp only[gP];rw[e];omega
theorem qV {g:Int->Ds × Int}{key:Str}{N:Nat}(J:∀n,n<=(g n).2/\(g n).2<=n+N):∀(m:Nat) (I:List Ds) (n:Int),n<=(f9 g key m I n).2/\(f9 g key m I n).2<=n+(m * N:Nat)
 |0,_,n=>by simp[f9]
 |m+1,I,n=>by
  obtain⟨a1,a2⟩:=J n;have e:(m+1) * N=m * N+N:=Q1m m N;unfold f9;rw[e];split
  . obtain⟨U,Y⟩:=qV (key:=key) J m I (g n).2;omega
  . obtain⟨U,Y⟩:=qV (key:=key) J m (I++[(g n).1]) (g n).2;omega
mutual
theorem lK (ns:List Int):∀(k:Kd) (room:Nat) (n:Int),room<8->n<=(val ns k room n).2/\(val ns k room n).2<=n+k.cB
 | .num,_,_,_=>by simp only[val,Kd.cB];omega
 | .fE,_,_,_=>by simp only[val,Kd.cB];omega
 | .eZ fs,room,n,h=>by
   have:=nQ ns fs room n h;simp only[val,Kd.cB];omega
 | .rows key by_ fs,room,n,h=>by
   obtain⟨I,J⟩:=qV (g:=fc ns fs (room / 2)) (key:=key) (N:=fs.cB) (λn=>nQ ns fs (room / 2) n (by omega)) (nx ns (n+1) % ((room:Int)+1)).toNat [] (n+1);have c:=mod_le (a:=nx ns (n+1)) h;have d:(nx ns (n+1) % ((room:Int)+1)).toNat * fs.cB<=8 * fs.cB:=Q0z _ (by omega);simp only[val,Kd.cB];omega
 | .tree k,room,n,h=>by
   have:=nO (ns:=ns) (f:=val ns k) (N:=k.cB) (λroom n h=>lK ns k room n h) 4 room n h;have e:j9 4=585:=rfl;rw[e] at this;simp only[val,Kd.cB];omega
 | .gA fs,room,n,h=>by
   have:=Bc ns fs (nx ns (n+1) % (fs.names.length:Int)).toNat room (n+1) h;simp only[val,Kd.cB];omega
theorem nQ (ns:List Int):∀(fs:Fs) (room:Nat) (n:Int),room<8->n<=(fc ns fs room n).2/\(fc ns fs room n).2<=n+fs.cB
 | .nil,_,_,_=>by simp[fc,Fs.cB]
 | .cons x k r,room,n,h=>by
   have a:=lK ns k room n h;have b:=nQ ns r room (val ns k room n).2 h;simp only[fc,Fs.cB];omega
theorem Bc (ns:List Int):∀(fs:Fs) (i room:Nat) (n:Int),room<8->n<=(h_ ns fs i room n).2/\(h_ ns fs i room n).2<=n+fs.cB
 | .nil,_,_,_,_=>by simp[h_,Fs.cB]
 | .cons x k r,0,room,n,h=>by
   have a:=lK ns k room n h;simp only[h_,Fs.cB];omega
 | .cons x k r,i+1,room,n,h=>by
   have a:=Bc ns r i room n h;simp only[h_,Fs.cB];omega
end
noncomputable def CB:Nat->Nat
 |0=>1
 |d+1=>1200 * CB d
theorem nR:∀d,1<=CB d
 |0=>Q00 _
 |d+1=>by have:=nR d;show 1<=1200 * CB d;omega
mutual
theorem Bd:∀(k:Kd) (d:Nat),k.W->k.dep<=d+1->k.cB<=CB d
 | .num,d,_,_=>nR d
 | .fE,d,_,_=>nR d
 | .eZ fs,0,_,h=>by
   simp only[Kd.dep] at h
   cases fs with
   |nil=>simp[Kd.cB,Fs.cB]
   |cons x k r=>have:=k.j6;simp only[Fs.dep] at h;omega
 | .eZ fs,d+1,w,h=>by
   unfold Kd.W at w;simp only[Kd.dep] at h;have:=nS fs d w.2.2 (by omega);have e:fs.names.length * CB d<=12 * CB d:=Q0z _ w.2.1;show fs.cB<=1200 * CB d;omega
 | .rows key by_ fs,0,w,h=>by
   simp only[Kd.dep] at h
   cases fs with
   |nil=>simp[Kd.cB,Fs.cB,CB]
   |cons x k r=>have:=k.j6;simp only[Fs.dep] at h;omega
 | .rows key by_ fs,d+1,w,h=>by
   unfold Kd.W at w;simp only[Kd.dep] at h;have:=nS fs d w.2.2.1 (by omega);have e:fs.names.length * CB d<=12 * CB d:=Q0z _ w.2.1;have p:=nR d;show 8 * fs.cB+1<=1200 * CB d;omega
 | .tree k,0,w,h=>by
   have:=k.j6;simp only[Kd.dep] at h;omega
 | .tree k,d+1,w,h=>by
   unfold Kd.W at w;simp only[Kd.dep] at h;have:=Bd k d w (by omega);have p:=nR d;show(k.cB+1) * 585<=1200 * CB d;omega
 | .gA fs,0,w,h=>by
   simp only[Kd.dep] at h
   cases fs with
   |nil=>simp[Kd.cB,Fs.cB,CB]
   |cons x k r=>have:=k.j6;simp only[Fs.dep] at h;omega
 | .gA fs,d+1,w,h=>by
   unfold Kd.W at w;simp only[Kd.dep] at h;have:=nS fs d w.2.2.2 (by omega);have e:fs.names.length * CB d<=12 * CB d:=Q0z _ w.2.1;have p:=nR d;show fs.cB+1<=1200 * CB d;omega
theorem nS:∀(fs:Fs) (d:Nat),fs.W->fs.dep<=d+1->fs.cB<=fs.names.length * CB d
 | .nil,d,_,_=>by simp[Fs.cB]
 | .cons x k r,d,w,h=>by
   unfold Fs.W at w;simp only[Fs.dep] at h;have a:=Bd k d w.1 (by omega);have b:=nS r d w.2.2 (by omega);show k.cB+r.cB<=(r.names.length+1) * CB d;rw[Q1m];omega
end
mutual
theorem Be:∀(k:Kd),k.dB+8<=10 * k.dep
 | .num=>by simp[Kd.dB,Kd.dep]
 | .fE=>by simp[Kd.dB,Kd.dep]
 | .eZ fs=>by have:=pA fs;simp only[Kd.dB,Kd.dep];omega
 | .rows _ _ fs=>by have:=pA fs;simp only[Kd.dB,Kd.dep];omega
 | .tree k=>by have:=Be k;simp only[Kd.dB,Kd.dep];omega
 | .gA fs=>by have:=pA fs;simp only[Kd.dB,Kd.dep];omega
theorem pA:∀(fs:Fs),fs.dB<=10 * fs.dep - 8
 | .nil=>by simp[Fs.dB]
 | .cons x k r=>by
   have a:=Be k;have b:=pA r;simp only[Fs.dB,Fs.dep];omega
end
end Pb
namespace Pb
open L2
mutual
def KA (H:Hp):V->Kd->Prop
 |v,.num=>∃a,v=.ref a/\H a=some (.tup [.str "number"])
 |v,.fE=>∃a,v=.ref a/\H a=some (.tup [.str "word"])
 |v,.eZ fs=>∃a b vs,v=.ref a/\H a=some (.tup [.str "record",.ref b])/\H b=some (.tup vs)/\FA H vs fs
 |v,.rows key by_ fs=>∃a b vs,v=.ref a/\H a=some (.tup [.str "rows",.str key,.str by_,.ref b])/\H b=some (.tup vs)/\FA H vs fs
 |v,.tree k=>∃a u,v=.ref a/\H a=some (.tup [.str "tree",u])/\KA H u k
 |v,.gA fs=>∃a b vs,v=.ref a/\H a=some (.tup [.str "either",.ref b])/\H b=some (.tup vs)/\FA H vs fs
def FA (H:Hp):List V->Fs->Prop
 |vs,.nil=>vs=[]
 |vs,.cons x k r=>∃c u I,vs=.ref c::I/\H c=some (.tup [.str x,u])/\KA H u k/\FA H I r
end
def Tu (H H':Hp):Prop:=∀a xs,H a=some (.tup xs)->H' a=some (.tup xs)
theorem Tu.trans {H H1 H2:Hp}(a:Tu H H1)(b:Tu H1 H2):Tu H H2:=λc xs h=>b c xs (a c xs h)
theorem Tu.of {H H':Hp}(s:Same H H'):Tu H H':=λa xs h=>s a _ h
theorem Tu.wr {H:Hp}{p:Addr}{o:HO}(h:∀xs,H p≠some (.tup xs)):Tu H (upd H p o):=λa xs e=>by
 rw[eu (λz=>h xs (by rw[<-z];exact e))];exact e
mutual
theorem KA.mono {H H':Hp}(t:Tu H H'):∀{v:V}(k:Kd),KA H v k->KA H' v k
 |v,.num,h=>by
  unfold KA at h ⊢;obtain⟨a,e,q⟩:=h;exact⟨a,e,t _ _ q⟩
 |v,.fE,h=>by
  unfold KA at h ⊢;obtain⟨a,e,q⟩:=h;exact⟨a,e,t _ _ q⟩
 |v,.eZ fs,h=>by
  unfold KA at h ⊢;obtain⟨a,b,vs,e,I,J,f⟩:=h;exact⟨a,b,vs,e,t _ _ I,t _ _ J,FA.mono t fs f⟩
 |v,.rows key by_ fs,h=>by
  unfold KA at h ⊢;obtain⟨a,b,vs,e,I,J,f⟩:=h;exact⟨a,b,vs,e,t _ _ I,t _ _ J,FA.mono t fs f⟩
 |v,.tree k,h=>by
  unfold KA at h ⊢;obtain⟨a,u,e,q,f⟩:=h;exact⟨a,u,e,t _ _ q,KA.mono t k f⟩
 |v,.gA fs,h=>by
  unfold KA at h ⊢;obtain⟨a,b,vs,e,I,J,f⟩:=h;exact⟨a,b,vs,e,t _ _ I,t _ _ J,FA.mono t fs f⟩
theorem FA.mono {H H':Hp}(t:Tu H H'):∀{vs:List V}(fs:Fs),FA H vs fs->FA H' vs fs
 |vs,.nil,h=>by
  unfold FA at h ⊢;exact h
 |vs,.cons x k r,h=>by
  unfold FA at h ⊢;obtain⟨c,u,I,e,q,f,g⟩:=h;exact⟨c,u,I,e,t _ _ q,KA.mono t k f,FA.mono t r g⟩
end
theorem FA.len {H:Hp}:∀{vs:List V}(fs:Fs),FA H vs fs->vs.length=fs.names.length
 |vs,.nil,h=>by
  unfold FA at h;rw[h];rfl
 |vs,.cons x k r,h=>by
  unfold FA at h;obtain⟨c,u,I,e,_,_,g⟩:=h;rw[e];show I.length+1=r.names.length+1;rw[FA.len r g]
theorem FA.get {H:Hp}:∀{vs:List V}(fs:Fs) {i:Nat}{v:V},FA H vs fs->vs[i]? =some v->∃c u x k,v=.ref c/\fs.at i=some (x,k)/\H c=some (.tup [.str x,u])/\KA H u k
 |vs,.nil,i,v,h,e=>by
  unfold FA at h;rw[h] at e;simp at e
 |vs,.cons x k r,0,v,h,e=>by
  unfold FA at h;obtain⟨c,u,J,I,q,f,_⟩:=h;rw[I] at e;have e:some (V.ref c)=some v:=e
  cases e;exact⟨c,u,x,k,rfl,rfl,q,f⟩
 |vs,.cons x k r,i+1,v,h,e=>by
  unfold FA at h;obtain⟨c,u,J,I,_,_,g⟩:=h;rw[I] at e;exact FA.get r (i:=i) g (by simpa using e)
theorem FA.at {H:Hp}{vs:List V}{fs:Fs}{i:Nat}{x:Str}{k:Kd}(h:FA H vs fs)(e:fs.at i=some (x,k)):∃c u,vs[i]? =some (.ref c)/\H c=some (.tup [.str x,u])/\KA H u k:=by
 have hl:=FA.len fs h
 have hi:i<fs.names.length:=by
  have:fs.names[i]? =some x:=by rw[Fs.jT,e];rfl
  exact(List.getElem?_eq_some_iff.mp this).1
 have I:vs[i]? =some (vs[i]'(by omega)):=Q02 (by omega);obtain⟨c,u,Y,k',h1,h2,J,U⟩:=FA.get fs h I;rw[e] at h2;cases h2;exact⟨c,u,by rw[I,h1],J,U⟩
theorem FA.snoc {H:Hp}{c:Addr}{u:V}{x:Str}{k:Kd}(hc:H c=some (.tup [.str x,u]))(I:KA H u k):∀{vs:List V}(fs:Fs),FA H vs fs->FA H (vs++[.ref c]) (fs.snoc x k)
 |vs,.nil,h=>by
  unfold FA at h;subst h;show FA H [.ref c] (.cons x k .nil);unfold FA;exact⟨c,u,[],rfl,hc,I,by unfold FA;rfl⟩
 |vs,.cons y q r,h=>by
  unfold FA at h;obtain⟨d,w,J,e,h1,h2,U⟩:=h;subst e;show FA H (.ref d::(J++[.ref c])) (.cons y q (r.snoc x k));unfold FA;exact⟨d,w,J++[.ref c],rfl,h1,h2,FA.snoc hc I r U⟩
mutual
def Own (H:Hp):V->D->List Addr->Prop
 |v,.int z,fp=>v=.int z/\fp=[]
 |v,.str x,fp=>v=.str x/\fp=[]
 |v,.non,fp=>v=.non/\fp=[]
 |v,.boo b,fp=>v=.bl b/\fp=[]
 |v,.tup xs,fp=>∃a vs,v=.ref a/\H a=some (.tup vs)/\eQ H vs xs fp
 |v,.lst xs,fp=>∃a vs I,v=.ref a/\H a=some (.lst vs)/\fp=a::I/\eQ H vs xs I
 |v,.dct m,fp=>∃a kvs I,v=.ref a/\H a=some (.dK kvs)/\fp=a::I/\eO H kvs m I
def eQ (H:Hp):List V->Ds->List Addr->Prop
 |vs,.nil,fp=>vs=[]/\fp=[]
 |vs,.cons _ d r,fp=>∃v q f1 I,vs=v::q/\fp=f1++I/\Own H v d f1/\eQ H q r I
def eO (H:Hp):List (Key × V)->Ds->List Addr->Prop
 |kvs,.nil,fp=>kvs=[]/\fp=[]
 |kvs,.cons x d r,fp=>∃v q f1 I,kvs=(Sum.inr x,v)::q/\fp=f1++I/\Own H v d f1/\eO H q r I
end
mutual
theorem Own.keep {H H':Hp}(t:Tu H H'):∀{v:V}(d:D) {fp:List Addr},(∀a∈fp,∀o,H a=some o->H' a=some o)->Own H v d fp->Own H' v d fp
 |v,.int z,fp,k,h=>by unfold Own at h ⊢;exact h
 |v,.str x,fp,k,h=>by unfold Own at h ⊢;exact h
 |v,.non,fp,k,h=>by unfold Own at h ⊢;exact h
 |v,.boo _,fp,k,h=>by unfold Own at h ⊢;exact h
 |v,.tup xs,fp,k,h=>by
  unfold Own at h ⊢;obtain⟨a,vs,e,q,f⟩:=h;exact⟨a,vs,e,t _ _ q,eQ.keep t xs k f⟩
 |v,.lst xs,fp,k,h=>by
  unfold Own at h ⊢;obtain⟨a,vs,I,e,q,rfl,f⟩:=h;exact⟨a,vs,I,e,k a Q06 _ q,rfl,eQ.keep t xs (λb J=>k b (Q0b _ J)) f⟩
 |v,.dct m,fp,k,h=>by
  unfold Own at h ⊢;obtain⟨a,vs,I,e,q,rfl,f⟩:=h;exact⟨a,vs,I,e,k a Q06 _ q,rfl,eO.keep t m (λb J=>k b (Q0b _ J)) f⟩
theorem eQ.keep {H H':Hp}(t:Tu H H'):∀{vs:List V}(xs:Ds) {fp:List Addr},(∀a∈fp,∀o,H a=some o->H' a=some o)->eQ H vs xs fp->eQ H' vs xs fp
 |vs,.nil,fp,k,h=>by unfold eQ at h ⊢;exact h
 |vs,.cons x d r,fp,k,h=>by
  unfold eQ at h ⊢;obtain⟨v,q,f1,J,e,rfl,U,Y⟩:=h;exact⟨v,q,f1,J,e,rfl,Own.keep t d (λb I=>k b (Q0v _ I)) U,eQ.keep t r (λb I=>k b (Q08 _ I)) Y⟩
theorem eO.keep {H H':Hp}(t:Tu H H'):∀{kvs:List (Key × V)}(m:Ds) {fp:List Addr},(∀a∈fp,∀o,H a=some o->H' a=some o)->eO H kvs m fp->eO H' kvs m fp
 |kvs,.nil,fp,k,h=>by unfold eO at h ⊢;exact h
 |kvs,.cons x d r,fp,k,h=>by
  unfold eO at h ⊢;obtain⟨v,q,f1,J,e,rfl,U,Y⟩:=h;exact⟨v,q,f1,J,e,rfl,Own.keep t d (λb I=>k b (Q0v _ I)) U,eO.keep t r (λb I=>k b (Q08 _ I)) Y⟩
end
theorem Own.same {H H':Hp}{v:V}{d:D}{fp:List Addr}(s:Same H H')(h:Own H v d fp):Own H' v d fp:=h.keep (Tu.of s) d λa _ o e=>s a o e
theorem eQ.same {H H':Hp}{v:List V}{d:Ds}{fp:List Addr}(s:Same H H')(h:eQ H v d fp):eQ H' v d fp:=h.keep (Tu.of s) d λa _ o e=>s a o e
theorem eO.same {H H':Hp}{v:List (Key × V)}{d:Ds}{fp:List Addr}(s:Same H H')(h:eO H v d fp):eO H' v d fp:=h.keep (Tu.of s) d λa _ o e=>s a o e
def Mu (H:Hp) (a:Addr):Prop:=(∃xs,H a=some (.lst xs))\/∃kvs,H a=some (.dK kvs)
mutual
theorem Own.alive {H:Hp}:∀{v:V}(d:D) {fp:List Addr},Own H v d fp->∀a∈fp,Mu H a
 |v,.int z,fp,h=>by unfold Own at h;rw[h.2];intro a I;exact absurd I (by simp)
 |v,.str x,fp,h=>by unfold Own at h;rw[h.2];intro a I;exact absurd I (by simp)
 |v,.non,fp,h=>by unfold Own at h;rw[h.2];intro a I;exact absurd I (by simp)
 |v,.boo _,fp,h=>by unfold Own at h;rw[h.2];intro a I;exact absurd I (by simp)
 |v,.tup xs,fp,h=>by
  unfold Own at h;obtain⟨a,vs,e,q,f⟩:=h;exact eQ.alive xs f
 |v,.lst xs,fp,h=>by
  unfold Own at h;obtain⟨a,vs,U,e,q,rfl,f⟩:=h;intro b J;rcases List.mem_cons.mp J with z|z
  . rw[z];exact .inl ⟨_,q⟩
  . exact eQ.alive xs f b z
 |v,.dct m,fp,h=>by
  unfold Own at h;obtain⟨a,vs,U,e,q,rfl,f⟩:=h;intro b J;rcases List.mem_cons.mp J with z|z
  . rw[z];exact .inr ⟨_,q⟩
  . exact eO.alive m f b z
theorem eQ.alive {H:Hp}:∀{vs:List V}(xs:Ds) {fp:List Addr},eQ H vs xs fp->∀a∈fp,Mu H a
 |vs,.nil,fp,h=>by unfold eQ at h;rw[h.2];intro a I;exact absurd I (by simp)
 |vs,.cons x d r,fp,h=>by
  unfold eQ at h;obtain⟨v,q,f1,f2,e,rfl,J,U⟩:=h;intro b Y;rcases List.mem_append.mp Y with z|z
  . exact Own.alive d J b z
  . exact eQ.alive r U b z
theorem eO.alive {H:Hp}:∀{kvs:List (Key × V)}(m:Ds) {fp:List Addr},eO H kvs m fp->∀a∈fp,Mu H a
 |kvs,.nil,fp,h=>by unfold eO at h;rw[h.2];intro a I;exact absurd I (by simp)
 |kvs,.cons x d r,fp,h=>by
  unfold eO at h;obtain⟨v,q,f1,f2,e,rfl,J,U⟩:=h;intro b Y;rcases List.mem_append.mp Y with z|z
  . exact Own.alive d J b z
  . exact eO.alive r U b z
end
theorem Mu.ex {H:Hp}{a:Addr}(h:Mu H a):∃o,H a=some o:=by
 rcases h with⟨_,h⟩|⟨_,h⟩ <;> exact⟨_,h⟩
theorem Mu.uf {H:Hp}{a:Addr}(h:Mu H a)(xs:List V):H a≠some (.tup xs):=λz=>by
 rcases h with⟨_,h⟩|⟨_,h⟩ <;> rw[h] at z <;> cases z
noncomputable def Ds.len:Ds->Nat
 | .nil=>0
 | .cons _ _ r=>r.len+1
noncomputable def Ds.names:Ds->List Str
 | .nil=>[]
 | .cons x _ r=>x::r.names
noncomputable def Ds.at:Ds->Nat->Option D
 | .nil,_=>none
 | .cons _ d _,0=>some d
 | .cons _ _ r,i+1=>r.at i
noncomputable def Ds.snoc:Ds->Str->D->Ds
 | .nil,x,d=>.cons x d .nil
 | .cons y e r,x,d=>.cons y e (r.snoc x d)
theorem Ds.lG:∀{xs:Ds}{i:Nat}{d:D},xs.at i=some d->d.dep<=xs.dep
 | .nil,_,_,h=>by cases h
 | .cons _ d r,0,_,h=>by cases h;exact Q1z _ _
 | .cons _ d r,i+1,_,h=>Q0e (Ds.lG (xs:=r) (i:=i) h) (Q2 _ _)
theorem Ds.qW:∀{xs:Ds}{x:Str}{d:D},xs.get x=some d->d.dep<=xs.dep
 | .nil,_,_,h=>by cases h
 | .cons y e r,x,d,h=>by
   have h:(if x=y then some e else r.get x)=some d:=h;by_cases c:x=y
   . rw[if_pos c] at h;cases h;exact Q1z _ _
   . rw[if_neg c] at h;exact Q0e (Ds.qW h) (Q2 _ _)
theorem eQ.len {H:Hp}:∀{vs:List V}(xs:Ds) {fp:List Addr},eQ H vs xs fp->vs.length=xs.len
 |vs,.nil,fp,h=>by unfold eQ at h;rw[h.1];rfl
 |vs,.cons x d r,fp,h=>by
  unfold eQ at h;obtain⟨v,q,f1,J,rfl,rfl,U,I⟩:=h;show q.length+1=r.len+1;rw[eQ.len r I]
theorem eQ.get {H:Hp}:∀{vs:List V}(xs:Ds) {fp:List Addr}{i:Nat}{v:V},eQ H vs xs fp->vs[i]? =some v->∃d f,xs.at i=some d/\Own H v d f/\∀a∈f,a∈fp
 |vs,.nil,fp,i,v,h,e=>by
  unfold eQ at h;rw[h.1] at e;simp at e
 |vs,.cons x d r,fp,0,v,h,e=>by
  unfold eQ at h;obtain⟨w,q,f1,Y,rfl,rfl,J,U⟩:=h;have e:some w=some v:=e
  cases e;exact⟨d,f1,rfl,J,λa I=>Q0v _ I⟩
 |vs,.cons x d r,fp,i+1,v,h,e=>by
  unfold eQ at h;obtain⟨w,q,f1,Y,rfl,rfl,J,U⟩:=h;obtain⟨d',f,h1,h2,h3⟩:=eQ.get r (i:=i) U (by simpa using e);exact⟨d',f,h1,h2,λa I=>Q08 _ (h3 a I)⟩
theorem eQ.snoc {H:Hp}{v:V}{d:D}{g:List Addr}{y:Str}(I:Own H v d g):∀{vs:List V}(xs:Ds) {fp:List Addr},eQ H vs xs fp->eQ H (vs++[v]) (xs.snoc y d) (fp++g)
 |vs,.nil,fp,h=>by
  unfold eQ at h;obtain⟨rfl,rfl⟩:=h;show eQ H [v] (.cons y d .nil) g;unfold eQ;exact⟨v,[],g,[],rfl,by simp,I,by unfold eQ;exact⟨rfl,rfl⟩⟩
 |vs,.cons x e r,fp,h=>by
  unfold eQ at h;obtain⟨w,q,f1,J,rfl,rfl,U,Y⟩:=h;show eQ H (w::(q++[v])) (.cons x e (r.snoc y d)) (f1++J++g);unfold eQ;exact⟨w,q++[v],f1,J++g,rfl,by rw[Q0q],U,eQ.snoc I r Y⟩
theorem eO.snoc {H:Hp}{v:V}{d:D}{g:List Addr}{y:Str}(I:Own H v d g):∀{kvs:List (Key × V)}(xs:Ds) {fp:List Addr},eO H kvs xs fp->eO H (kvs++[(Sum.inr y,v)]) (xs.snoc y d) (fp++g)
 |kvs,.nil,fp,h=>by
  unfold eO at h;obtain⟨rfl,rfl⟩:=h;show eO H [(Sum.inr y,v)] (.cons y d .nil) g;unfold eO;exact⟨v,[],g,[],rfl,by simp,I,by unfold eO;exact⟨rfl,rfl⟩⟩
 |kvs,.cons x e r,fp,h=>by
  unfold eO at h;obtain⟨w,q,f1,J,rfl,rfl,U,Y⟩:=h;show eO H ((Sum.inr x,w)::(q++[(Sum.inr y,v)])) (.cons x e (r.snoc y d)) (f1++J++g);unfold eO;exact⟨w,q++[(Sum.inr y,v)],f1,J++g,rfl,by rw[Q0q],U,eO.snoc I r Y⟩
theorem eO.keys {H:Hp}:∀{kvs:List (Key × V)}(m:Ds) {fp:List Addr},eO H kvs m fp->kvs.map (·.1)=m.names.map Sum.inr
 |kvs,.nil,fp,h=>by unfold eO at h;rw[h.1];rfl
 |kvs,.cons x d r,fp,h=>by
  unfold eO at h;obtain⟨v,q,f1,J,rfl,rfl,U,I⟩:=h;show Sum.inr x::q.map (·.1)=Sum.inr x::r.names.map Sum.inr;rw[eO.keys r I]
theorem eO.len {H:Hp}{kvs:List (Key × V)}{m:Ds}{fp:List Addr}(h:eO H kvs m fp):kvs.length=m.names.length:=by
 have:=congrArg List.length (eO.keys m h);simpa using this
theorem eO.val {H:Hp}:∀{kvs:List (Key × V)}(m:Ds) {fp:List Addr}{x:Str}{d:D},eO H kvs m fp->m.get x=some d->∃v f,gJ kvs (Sum.inr x)=some v/\Own H v d f/\∀a∈f,a∈fp
 |kvs,.nil,fp,x,d,h,e=>by cases e
 |kvs,.cons y e r,fp,x,d,h,I=>by
  unfold eO at h;obtain⟨v,q,f1,f2,rfl,rfl,U,Y⟩:=h;have I:(if x=y then some e else r.get x)=some d:=I;by_cases c:x=y
  . rw[if_pos c] at I
    cases I;exact⟨v,f1,oY (by rw[c]),U,λa J=>Q0v _ J⟩
  . rw[if_neg c] at I;obtain⟨w,f,h1,h2,h3⟩:=eO.val r Y I;exact⟨w,f,by rw[oZ (λz=>c (Sum.inr.inj z).symm)];exact h1,h2,λa J=>Q08 _ (h3 a J)⟩
theorem fH.names:∀{fs:Fs}{m:Ds},fH fs m->m.names=fs.names
 | .nil,m,h=>by unfold fH at h;rw[h];rfl
 | .cons x k r,m,h=>by
   unfold fH at h;obtain⟨d,q,rfl,_,g⟩:=h;show x::q.names=x::r.names;rw[fH.names g]
theorem eO.Bf {H:Hp}{kvs:List (Key × V)}{m:Ds}{fp:List Addr}{x:Str}(h:eO H kvs m fp)(I:x ∉ m.names):gJ kvs (Sum.inr x)=none:=by
 cases e:gJ kvs (Sum.inr x) with
 |none=>rfl
 |some v=>
  have:=F7 e;rw[eO.keys m h] at this;obtain⟨y,J,U⟩:=List.mem_map.mp this
  cases U;exact absurd J I
theorem pB {kvs:List (Key × V)}{k:Key}{v:V}(h:gJ kvs k=none):putK kvs k v=kvs++[(k,v)]:=by
 unfold putK;rw[if_neg];rw[o4,h];simp
def Kp (S:Addr->Prop) (H H':Hp):Prop:=∀c o,¬S c->H c=some o->H' c=some o
theorem Kp.refl (S:Addr->Prop)(H:Hp):Kp S H H:=λ_ _ _ h=>h
theorem Kp.trans {S:Addr->Prop}{H H1 H2:Hp}(x:Kp S H H1)(y:Kp S H1 H2):Kp S H H2:=λc o n h=>y c o n (x c o n h)
theorem Kp.of {S:Addr->Prop}{H H':Hp}(s:Same H H'):Kp S H H':=λc o _ h=>s c o h
theorem Kp.pC {S:Addr->Prop}{H H':Hp}{a:Addr}(x:Kp S H H')(I:¬S a)(h:H' a=none):H a=none:=by
 cases e:H a with
 |none=>rfl
 |some o=>rw[x a o I e] at h;cases h
inductive A3 {α β γ:Type} (R:α->β->γ->Prop):List α->List β->List γ->Prop
 |nil:A3 R [] [] []
 |cons {a:α} {b:β} {c:γ} {as:List α} {bs:List β} {cs:List γ}:R a b c->A3 R as bs cs->A3 R (a::as) (b::bs) (c::cs)
theorem A3.snoc {α I J:Type}{R:α->I->J->Prop}{a:α}{b:I}{c:J}(h:R a b c):∀{as:List α}{bs:List I}{U:List J},A3 R as bs U->A3 R (as++[a]) (bs++[b]) (U++[c])
 |_,_,_,.nil=>.cons h .nil
 |_,_,_,.cons x r=>.cons x (A3.snoc h r)
theorem A3.len {α J U:Type}{R:α->J->U->Prop}:∀{as:List α}{bs:List J}{I:List U},A3 R as bs I->as.length=bs.length/\as.length=I.length
 |_,_,_,.nil=>⟨rfl,rfl⟩
 |_,_,_,.cons x r=>by
  obtain⟨h1,h2⟩:=A3.len r;simp only[Q0j];omega
theorem A3.at {α I J:Type}{R:α->I->J->Prop}{a0:α}{b0:I}{c0:J}:∀{as:List α}{bs:List I}{U:List J},A3 R as bs U->∀i,i<as.length->R (as.getD i a0) (bs.getD i b0) (U.getD i c0)
 |_,_,_,.nil,i,h=>absurd h (by simp)
 |_,_,_,.cons x r,0,h=>x
 |_,_,_,.cons x r,i+1,h=>by
  have:=A3.at (a0:=a0) (b0:=b0) (c0:=c0) r i (by simpa using h);simpa using this
theorem A3.pick {α I J:Type}{R:α->I->J->Prop}{a0:α}{b0:I}{c0:J}{as:List α}{bs:List I}{U:List J}(h:A3 R as bs U):∀p:List Nat,(∀i∈p,i<as.length)->A3 R (p.map λi=>as.getD i a0) (p.map λi=>bs.getD i b0) (p.map λi=>U.getD i c0)
 |[],_=>.nil
 |i::p,hp=>.cons (h.at i (hp i Q06)) (A3.pick h p λj Y=>hp j (Q0b _ Y))
theorem G7 {α:Type}(a0:α):∀l:List α,((List.range l.length).map λi=>l.getD i a0)=l:=λl=>by
 apply Q2z
 . simp
 . intro i h1 h2;simp[h2]
theorem qX {α:Type}(a0:α){l:List α}{p:List Nat}(h:p.Perm (List.range l.length)):(p.map λi=>l.getD i a0).Perm l:=by
 have:=h.map (λi=>l.getD i a0)
 rwa [G7] at this
theorem Bg {α:Type}{I J:List (List α)}(h:I.Perm J):I.flatten.Perm J.flatten:=by
 induction h with
 |nil=>exact List.Perm.refl _
 |cons x _ U=>exact U.append_left x
 |swap x y l=>
  show(y++(x++l.flatten)).Perm (x++(y++l.flatten));rw[<-Q0q,<-Q0q];exact List.perm_append_comm.append_right _
 |trans _ _ a b=>exact a.trans b
abbrev eU (H:Hp):List V->List Ds->List (List Addr)->Prop:=A3 λv m f=>Own H v (.dct m) f
theorem eU.own {H:Hp}:∀{vs:List V}{rs:List Ds}{fs:List (List Addr)},eU H vs rs fs->eQ H vs (gh rs) fs.flatten
 |_,_,_,.nil=>by unfold gh eQ;exact⟨rfl,rfl⟩
 |_,_,_,.cons h r=>by
  unfold gh eQ;exact⟨_,_,_,Zr rfl ⟨rfl,h,eU.own r⟩⟩
theorem eQ.rows {H:Hp}:∀{rs:List Ds}{vs:List V}{fp:List Addr},eQ H vs (gh rs) fp->∃fs,eU H vs rs fs/\fp=fs.flatten
 |[],vs,fp,h=>by
  unfold gh eQ at h;obtain⟨rfl,rfl⟩:=h;exact⟨[],.nil,rfl⟩
 |m::rs,vs,fp,h=>by
  unfold gh eQ at h;obtain⟨v,q,f1,U,rfl,rfl,I,J⟩:=h;obtain⟨fs,h1,rfl⟩:=eQ.rows J;exact⟨f1::fs,.cons I h1,rfl⟩
noncomputable def lt (z:Int):Str:=⟨#[97+z.toNat]⟩
theorem qY (z:Int):(lt z).length=1:=rfl
theorem G8:∀j:Nat,j<26->(("abcdefghijklmnopqrstuvwxyz":Str)).cps.toList[j]? =some (97+j):=by decide +kernel
theorem G9:(("abcdefghijklmnopqrstuvwxyz":Str)).cps.toList.length=26:=by decide +kernel
theorem qZ {z:Int}(I:0<=z)(h1:z<26):gv (("abcdefghijklmnopqrstuvwxyz":Str)).cps.toList z=some (97+z.toNat):=by
 unfold gv jQ;rw[G9,if_pos I,if_pos (show z<((26:Nat):Int) by omega)];exact G8 z.toNat (by omega)
theorem G_ {z:Int}(I:0<=z)(h1:z<6):gv [V.int 1,.int 3,.int 5,.int 7,.int 9,.int 11] z=some (.int (2 * z+1)):=by
 obtain⟨n,rfl⟩:=Int.eq_ofNat_of_zero_le I;have h:=Int.ofNat_lt.mp h1;clear I h1;revert n
 decide
noncomputable def nameAt (m:Int) (k:Nat):Str:=
 if m / 12168 % 4=0 then Txt.mul (lt (m / 6 % 26)) ((k:Int)+1)
 else Txt.slice (lt (m / 6 % 26)++lt (m / 156 % 26)) none (some (m / 4056 % 3))++lt ((m / 156+(k:Int) * (2 * (m % 6)+1)) % 26)++Txt.slice (lt (m / 6 % 26)++lt (m / 156 % 26)) (some (m / 4056 % 3)) none
theorem foldl_size (a:Array Nat):∀(n:Nat) (b:Array Nat),((List.replicate n a).foldl (· ++ ·) b).size=b.size+n * a.size
 |0,b=>by simp
 |n+1,b=>by
  rw[Q2f,Q35,foldl_size a n,Q30,Q1m];omega
theorem Bh {x:Str}(I:x.length=1)(k:Nat):(Txt.mul x ((k:Int)+1)).length=k+1:=by
 have J:x.cps.size=1:=I;unfold Txt.mul;rw[if_neg (by omega)];by_cases h:k=0
 . subst h;rw[if_pos (by simp)];exact I
 . rw[if_neg]
   . show((List.replicate ((k:Int)+1).toNat x.cps).foldl (· ++ ·) #[]).size=k+1;rw[foldl_size,J,show((k:Int)+1).toNat=k+1 by omega];simp
   . rw[I];simp;omega
theorem ug (x y:Str):(x++y).cps.toList=x.cps.toList++y.cps.toList:=by
 show(x.cps++y.cps).toList=_;simp
theorem Bi (x y:Str):(x++y).length=x.length+y.length:=by
 show(x.cps++y.cps).size=x.cps.size+y.cps.size;simp
theorem Ha {p q:Str}{z w:Int}(h:p++lt z++q=p++lt w++q):z.toNat=w.toNat:=by
 have e:=congrArg (λs:Str=>s.cps.toList) h;simp only[ug] at e;have e:=List.append_cancel_left (List.append_cancel_right e);have e:[97+z.toNat]=[97+w.toNat]:=e;have e:=List.cons.inj e |>.1;omega
theorem Hb:∀s:Nat,s<6->∀i,i<12->∀j,j<12->(i * (2 * s+1)) % 26=(j * (2 * s+1)) % 26->i=j:=by decide +kernel
theorem Hc {m:Int}{i j:Nat}(Y:0<=m)(hi:i<12)(J:j<12)(h:nameAt m i=nameAt m j):i=j:=by
 unfold nameAt at h;by_cases I:m / 12168 % 4=0
 . rw[if_pos I,if_pos I] at h;have e:=congrArg Str.length h;rw[Bh (qY _),Bh (qY _)] at e;omega
 . rw[if_neg I,if_neg I] at h;have e:=Ha h;obtain⟨s,U⟩:∃s:Nat,m % 6=s:=⟨(m % 6).toNat,by omega⟩;rw[U] at e;have e:((m / 156+(i * (2 * s+1):Nat)) % 26).toNat=((m / 156+(j * (2 * s+1):Nat)) % 26).toNat:=e;generalize m / 156=a at e;exact Hb s (by omega) i hi j J (by omega)
theorem Hd {f:Nat->Str}:∀{n:Nat},(∀i j,i<n->j<n->f i=f j->i=j)->((List.range n).map f).Nodup:=by
 intro n h;refine List.pairwise_map.mpr (List.Pairwise.imp_of_mem (λ{a b} J U I=>?_) (List.nodup_range (n:=n)));intro e;exact I (h a b (List.mem_range.mp J) (List.mem_range.mp U) e)
theorem names_nodup {m:Int}{n:Nat}(I:0<=m)(J:n<=12):((List.range n).map (nameAt m)).Nodup:=
 Hd λi j hi U e=>Hc I (by omega) (by omega) e
theorem He {x:Str}(I:x.length=1){k:Nat}(Y:k<12)(hl:∀n,n<=1000->Builtin.Str.tooLong n=false):MulOk x ((k:Int)+1):=by
 refine⟨?_,λ_ z=>?_,λ_ _=>?_⟩
 . have J:decide (((k:Int)+1)< -(2 ^ 63:Int))=false:=decide_eq_false (by omega);have U:decide (((k:Int)+1) ≥ 2 ^ 63)=false:=decide_eq_false (by omega);rw[J,U];rfl
 . rw[I];clear hl I z;revert k
   decide
 . rw[I];exact hl _ (by omega)
end Pb
namespace Pb
open L2 PyProof.Rows Spec StrLaws Builtin Builtin.Str
theorem foldl_rep (c:Nat):∀(n:Nat) (b:Array Nat),((List.replicate n #[c]).foldl (· ++ ·) b).toList=b.toList++List.replicate n c
 |0,b=>by simp
 |n+1,b=>by
  rw[Q2f,Q35,foldl_rep c n,Array.toList_append,Q0q];rfl
theorem Hf (z:Int)(k:Nat):(Txt.mul (lt z) ((k:Int)+1)).cps.toList=List.replicate (k+1) (97+z.toNat):=by
 unfold Txt.mul;rw[if_neg (by omega)];by_cases h:(((k:Int)+1 == 1) || (lt z).length == 0)=true
 . rw[if_pos h]
   have I:k=0:=by
    rw[qY] at h;simp at h;omega
   subst I;rfl
 . rw[if_neg h];have e:((k:Int)+1).toNat=k+1:=by omega
   rw[e];show((List.replicate (k+1) #[97+z.toNat]).foldl (· ++ ·) #[]).toList=_;rw[foldl_rep];rfl
theorem Hg (a b:Int){c:Int}(Y:0<=c)(h1:c<3):∃I J:List Nat,(Txt.slice (lt a++lt b) none (some c)).cps.toList=I/\(Txt.slice (lt a++lt b) (some c) none).cps.toList=J/\I++J=[97+a.toNat,97+b.toNat]:=by
 have U:(lt a++lt b)=⟨#[97+a.toNat,97+b.toNat]⟩:=rfl;rw[U];have:c=0\/c=1\/c=2:=by omega
 rcases this with rfl|rfl|rfl
 . refine⟨[],[97+a.toNat,97+b.toNat],rfl,?_,rfl⟩;have e:strSliceIndices (some 0) none 1 2=[0,1]:=by decide +kernel
   unfold Txt.slice;rw[show(⟨#[97+a.toNat,97+b.toNat]⟩:Str).length=2 from rfl,e];rfl
 . refine⟨[97+a.toNat],[97+b.toNat],rfl,?_,rfl⟩;have e:strSliceIndices (some 1) none 1 2=[1]:=by decide +kernel
   unfold Txt.slice;rw[show(⟨#[97+a.toNat,97+b.toNat]⟩:Str).length=2 from rfl,e];rfl
 . exact⟨[97+a.toNat,97+b.toNat],[],rfl,rfl,rfl⟩
theorem Bj:("":Str).cps.toList=[]:=by decide +kernel
theorem Hh {m:Int}{i:Nat}:nameAt m i≠"":=by
 intro e;unfold nameAt at e;by_cases h:m / 12168 % 4=0
 . rw[if_pos h] at e;have:=congrArg (λx:Str=>x.cps.toList) e;have this:(Txt.mul (lt (m / 6 % 26)) ((i:Int)+1)).cps.toList=("":Str).cps.toList:=this;rw[Hf,Bj] at this;rw[Q2f] at this
   cases this
 . rw[if_neg h] at e;obtain⟨J,p2,U,Y,e3⟩:=Hg (m / 6 % 26) (m / 156 % 26) (c:=m / 4056 % 3) (by omega) (by omega)
   have I:(Txt.slice (lt (m / 6 % 26)++lt (m / 156 % 26)) none (some (m / 4056 % 3))++lt ((m / 156+(i:Int) * (2 * (m % 6)+1)) % 26)++Txt.slice (lt (m / 6 % 26)++lt (m / 156 % 26)) (some (m / 4056 % 3)) none).cps.toList
    =J++[97+((m / 156+(i:Int) * (2 * (m % 6)+1)) % 26).toNat]++p2:=by
    rw[ug,ug,U,Y];rfl
   have aa:J.length+p2.length=2:=by
    have:=congrArg List.length e3;rw[Q05] at this;exact this
   have:=congrArg (λx:Str=>x.cps.toList.length) e;have this:List.length _=List.length _:=this;rw[I,Bj,Q05,Q05,Q1x] at this;have:J.length+1+p2.length=0:=this;omega
end Pb
namespace Pb
open L2
theorem boot_isinstance:bootBuiltins "isinstance"=some (.builtin "isinstance"):=by decide +kernel
theorem boot_sorted:bootBuiltins "sorted"=some (.builtin "sorted"):=by decide +kernel
theorem boot_all:bootBuiltins "all"=some (.builtin "all"):=by decide +kernel
theorem boot_int:bootBuiltins "int"=some (.type "int"):=by decide +kernel
theorem boot_bool:bootBuiltins "bool"=some (.type "bool"):=by decide +kernel
theorem boot_str:bootBuiltins "str"=some (.type "str"):=by decide +kernel
theorem boot_list:bootBuiltins "list"=some (.type "list"):=by decide +kernel
theorem boot_tuple:bootBuiltins "tuple"=some (.type "tuple"):=by decide +kernel
theorem boot_dict:bootBuiltins "dict"=some (.type "dict"):=by decide +kernel
structure Tb (mg:Str->Option Value):Prop where
 gB:mg "len"=none
 iz:mg "isinstance"=none
 pE:mg "sorted"=none
 q9:mg "all"=none
 kW:mg "range"=none
 uh:mg "enumerate"=none
 ui:mg "zip"=none
 uk:mg "int"=none
 um:mg "bool"=none
 uo:mg "str"=none
 mM:mg "list"=none
 pF:mg "tuple"=none
 uq:mg "dict"=none
 K8:mg "min"=none
structure Dn (K:W.Frag) (mg:Str->Option Value) (x:Str) (ps:List Str) (st:Stmt) (f:Addr) (fd:FuncData):Prop where
 F:jS K x x st f fd
 b:Binds K fd ps []
 m:mg x=some (.ref f)
theorem eN {X:Cx}{k U:Nat}{f:Addr}{fd:FuncData}{ps:List Str}{sp:Sp}{x:Str}{p pos:Pos}{e:Expr}{es:List Expr}{t:TA}{st:Stmt}(F:eE X.prog X.w X.K X.mg X.base eI k f fd ps sp)(Y:fV U X.A)(D:Dn X.K X.mg x ps st f fd)(ha:PA X (e::es) t)(hg:Gl X x:=by rfl)(I:(x == ("__debug__":Str))=false:=by decide)(he:starEach (e::es) X.env=(false,eval e X.env)::starEach es X.env:=by rfl)(J:(backTo pos (starEach es X.env)).any (·.1)=false:=by rfl)(hk:k<=U:=by first|decide|omega):PE X (.Call (.Name x p) (e::es) [] pos) (jw sp [] E0 t):=nA F (Y.mono hk) hg D.m D.F.kp D.b .nil nG ha I he J
theorem eW {X:Cx}(i:Nat){x:Str}{e:Expr}{te:TE}{pos I:Pos}(J:X.N.Nodup)(U:PE X e te)(hi:X.N[i]? =some x:=by rfl)(Y:Loc X.env.scope x:=by exact Or.inl rfl)(hs:swapsWith e (some (.Name x I)) pos.line X.env=pure false:=by rfl)(hf:X.fn x=true\/X.env.scope.names.lookup x=some .local:=by first|exact .inl rfl|exact .inr rfl|assumption):PS X (.Assign [.Name x I] e pos) (nr te (gX i)):=zE J hi Y U hs hf
theorem ur {X:Cx}(i:Nat){x:Str}{e:Expr}{te:TE}{pos I:Pos}(J:X.N.Nodup)(U:PE X e te)(hi:X.N[i]? =some x:=by rfl)(Y:Loc X.env.scope x:=by exact Or.inr rfl)(hs:swapsWith e (some (.Name x I)) pos.line X.env=pure false:=by rfl)(hf:X.fn x=true\/X.env.scope.names.lookup x=some .local:=by first|exact .inl rfl|exact .inr rfl|assumption):PS X (.Assign [.Name x I] e pos) (nr te (gX i)):=zE J hi Y U hs hf
theorem nU:0<=sizeLine:=by decide
theorem g6:1<=sizeLine:=by decide
theorem gn:2<=sizeLine:=by decide
theorem mO:3<=sizeLine:=by decide
theorem uu:4<=sizeLine:=by decide
theorem K9:5<=sizeLine:=by decide
theorem Hi:6<=sizeLine:=by decide
theorem eK {X:Cx}{a b:Expr}{ta tb:TE}{pos:Pos}(I:PE X a ta)(J:PE X b tb)(U:qB b:=by exact λ_ _=>rfl):PE X (.Subscript a b pos) (gI (i9 X.K) ta tb):=kI Fv I J U
theorem gK {X:Cx}{a b:Expr}{ta tb:TE}{pos:Pos}(I:PE X a ta)(J:PE X b tb)(U:qB b:=by exact λ_ _=>rfl):PE X (.Subscript a b pos) (gI (Ab X.K) ta tb):=kI Ac I J U
theorem jb {X:Cx}{own N:List Str}{scope sc:Scope}(I:X.env.scope=sc:=by rfl)(J:X.N=N:=by rfl)(k:scope.kind=.function:=by rfl)(c:tQ own N scope sc=true:=by decide +kernel):i_ X own scope:=i_.of I J k c
theorem gq {α:Type}{a:α}{p:Prop}:a=a\/p:=Or.inl rfl
theorem fW {N P:List Str}{sc:Scope}(h:(sc.kind == .function && !sc.isCoroutine && !sc.isGenerator && decide N.Nodup && N.take P.length == P && P.all (λx=>sc.names.lookup x == some .local || sc.names.lookup x == some .cell) && sc.names.all (λy=>y.2 != .free))=true:=by decide +kernel):fG N P sc:=by
 simp only[Bool.and_eq_true,Q12,Bool.or_eq_true,beq_iff_eq,bne_iff_ne,decide_eq_true_eq,Bool.not_eq_true',ne_eq] at h;obtain⟨⟨⟨⟨⟨⟨h1,h2⟩,I⟩,J⟩,U⟩,Y⟩,h7⟩:=h;exact⟨h1,h2,I,J,U,Y,h7⟩
abbrev fo:List Str:=XD
abbrev hZ:List Str:=XM
abbrev jc:List Str:=XJ
abbrev jd:List Str:=XY
abbrev je:List Str:=["kind","value"]
abbrev jl:List Str:=Xe
abbrev jB:List Str:=XS
abbrev jW:List Str:=XG
abbrev kX:List Str:=Xf
abbrev k6:List Str:=Xd
abbrev k7:List Str:=Xg
abbrev k8:List Str:=Xc
abbrev k9:List Str:=["kind","tree"]
abbrev lL:List Str:=XF
abbrev mP:List Str:=["kind","row"]
abbrev mQ:List Str:=Xk
abbrev mR:List Str:=["look","value"]
abbrev mS:List Str:=Xm
abbrev mT:List Str:=["value"]
abbrev nV:List Str:=["self","way"]
abbrev pG:List Str:=["path","value"]
abbrev pH:List Str:=["look","there"]
abbrev pI:List Str:=XZ
abbrev pJ:List Str:=Xh
abbrev pK:List Str:=["fields","name"]
abbrev pL:List Str:=["fields","value"]
abbrev q_:List Str:=XW
abbrev ra:List Str:=XU
abbrev rb:List Str:=XX
abbrev rd:List Str:=Xp
abbrev rf:List Str:=["kind","seen"]
abbrev rg:List Str:=Xl
abbrev rh:List Str:=XV
abbrev rj:List Str:=XQ
abbrev rm:List Str:=XN
def jf (K:W.Frag) (H:Hp) (a:Addr) (ns:List Int):Prop:=
 (∃o,H a=some (.iI o (.lst (ns.map V.int))))\/
   ∃(o:Obj) (I:Array Value) (n:Nat),K.lookup a=some o/\o.cls=.type "list"/\o.dict=none/\o.data=.seq I n/\I.size<=sizeLine/\Vals (ns.map V.int) I.toList
theorem jf.sq {K:W.Frag}{H:Hp}{a:Addr}{ns:List Int}(h:jf K H a ns):eA K H a (ns.map V.int):=by
 rcases h with⟨o,h⟩|h
 . exact .inl (.inr ⟨o,h⟩)
 . exact .inr h
def SB (b:Addr) (H H':Hp):Prop:=∀c o,c≠b->H c=some o->H' c=some o
theorem SB.trans {b:Addr}{H H1 H2:Hp}(x:SB b H H1)(y:SB b H1 H2):SB b H H2:=λc o n h=>y c o n (x c o n h)
theorem SB.of {b:Addr}{H H':Hp}(s:Same H H'):SB b H H':=λc o _ h=>s c o h
theorem SB.wr {b:Addr}{H:Hp}{o:HO}:SB b H (upd H b o):=λc u n h=>by rw[eu n];exact h
theorem SB.new {b p:Addr}{H:Hp}{o:HO}(h:H p=none):SB b H (upd H p o):=λc u n q=>by rw[eu (eL q h)];exact q
structure G0 (K:W.Frag) (H:Hp) (a b:Addr) (ns:List Int) (n:Int):Prop where
 jm:jf K H a ns
 len:ns.length<=63
 at_:H b=some (.lst [.int n])
 pos:0<=n
theorem SB.jm {K:W.Frag}{b:Addr}{H H':Hp}{a:Addr}{ns:List Int}{n:Int}(x:SB b H H')(I:H b=some (.lst [.int n]))(h:jf K H a ns):jf K H' a ns:=by
 rcases h with⟨o,h⟩|h
 . exact .inl ⟨o,x a _ (gZ h I (by intro z;cases z)) h⟩
 . exact .inr h
theorem SB.tu {b:Addr}{H H':Hp}{n:Int}(x:SB b H H')(I:H b=some (.lst [.int n])):Tu H H':=λc xs h=>x c _ (gZ h I (by intro z;cases z)) h
theorem G0.go {K:W.Frag}{H H':Hp}{a b:Addr}{ns:List Int}{n n':Int}(g:G0 K H a b ns n)(x:SB b H H')(h:H' b=some (.lst [.int n']))(I:n<=n'):G0 K H' a b ns n':=
 ⟨x.jm g.at_ g.jm,g.len,h,by have:=g.pos;omega⟩
theorem Same.new {H:Hp}{p:Addr}{o:HO}(h:H p=none):Same H (upd H p o):=λc u q=>by rw[eu (eL q h)];exact q
theorem int_at {ns:List Int}{z:Int}(I:0<=z)(h1:z<ns.length):gv (ns.map V.int) z=some (.int (ns.getD z.toNat 0)):=by
 obtain⟨j,rfl⟩:∃j:Nat,z=(j:Int):=⟨z.toNat,by omega⟩;rw[Q1w];exact gY (by rw[Q0r,Q0d,Q02 (by omega)];rfl)
def lM (K:W.Frag):Sp:=λvs H Q _=>∃a b ns n,vs=[.ref a,.ref b]/\G0 K H a b ns n/\n<=1000000000000/\
 ∀(H':Hp),SB b H H'->H' b=some (.lst [.int (n+1)])->Q (.int (nx ns (n+1))) H'
def jn (K:W.Frag):Sp:=λvs H Q _=>∃a b ns n,vs=[.ref a,.ref b]/\G0 K H a b ns n/\n<=1000000000000/\
 ∀(r:Int) (H':Hp),0<=r->r<1999999973->SB b H H'->H' b=some (.lst [.int (n+1)])->Q (.int r) H'
theorem nW {P:Program}{w:World}{K:W.Frag}{mg:Str->Option Value}{base:Heap}{CX:i8}{k:Nat}{f:Addr}{fd:FuncData}{ps:List Str}(F:eE P w K mg base CX k f fd ps (lM K)):eE P w K mg base CX k f fd ps (jn K):=
 F.imp λvs H Q E ⟨a,b,ns,n,e,g,I,q⟩=>⟨a,b,ns,n,e,g,I,λH' J h1=>q _ H' (qR _ _) (uc _ _) J h1⟩
def pM (K:W.Frag):Sp:=λvs H Q _=>∃a b ns n,vs=[.ref a,.ref b]/\G0 K H a b ns n/\n<=1000000000000/\
 ∀(v:V) (k:Kd) (H':Hp),SB b H H'->H' b=some (.lst [.int (n+1)])->KA H' v k->k.dep<=1->j7 k->k.W->Q v H'
def rn (K:W.Frag):Sp:=λvs H Q _=>∃a b ns n,∃m:Nat,vs=[.ref a,.ref b,.int m]/\m<=12/\G0 K H a b ns n/\n<=1000000000000/\
 ∀(p:Addr) (ss:List Str) (H':Hp),SB b H H'->H' b=some (.lst [.int (n+1)])->p≠b->H' p=some (.lst (ss.map V.str))->ss.length=m->ss.Nodup->(∀x∈ss,x≠"")->Q (.ref p) H'
noncomputable def ck:Nat->Nat
 |0=>2
 |d+1=>3 * ck d+6
def mU (K:W.Frag) (d:Nat):Sp:=λvs H Q _=>∃a b ns n,vs=[.ref a,.ref b,.int d]/\G0 K H a b ns n/\n+ck d<=1000000000000/\
 ∀(v:V) (k:Kd) (n':Int) (H':Hp),SB b H H'->H' b=some (.lst [.int n'])->n<=n'->n'<=n+ck d->KA H' v k->k.dep<=d+1->k.W->Q v H'
def Bk (K:W.Frag) (d:Nat):Sp:=λvs H Q _=>∃a b ns n,∃m:Nat,vs=[.ref a,.ref b,.int m,.int d]/\m<=3/\G0 K H a b ns n/\n+1+3 * ck d<=1000000000000/\
 ∀(t:Addr) (xs:List V) (fs:Fs) (n':Int) (H':Hp),SB b H H'->H' b=some (.lst [.int n'])->n<=n'->n'<=n+1+3 * ck d->H' t=some (.tup xs)->FA H' xs fs->fs.names.Nodup->fs.names.length=m->fs.dep<=d+1->fs.W->Q (.ref t) H'
def Bl (K:W.Frag) (d:Nat):Sp:=λvs H Q _=>∃a b ns n,∃m:Nat,vs=[.ref a,.ref b,.int m,.int d]/\1<=m/\m<=3/\G0 K H a b ns n/\n+5+3 * ck d<=1000000000000/\
 ∀(v:V) (k:Kd) (n':Int) (H':Hp),SB b H H'->H' b=some (.lst [.int n'])->n<=n'->n'<=n+5+3 * ck d->KA H' v k->k.dep<=d+2->k.W->Q v H'
def Bm (K:W.Frag) (d:Nat):Sp:=λvs H Q _=>∃a b ns n,∃m:Nat,vs=[.ref a,.ref b,.int m,.int d]/\1<=m/\m<=12/\G0 K H a b ns n/\n+2+(m:Int) * (ck d+1)<=1000000000000/\
 ∀(v:V) (key by_:Str) (fs:Fs) (n':Int) (H':Hp),SB b H H'->H' b=some (.lst [.int n'])->n<=n'->n'<=n+2+(m:Int) * (ck d+1)->KA H' v (.rows key by_ fs)->(Kd.rows key by_ fs).dep<=d+2->(Kd.rows key by_ fs).W->fs.names.length=m->Q v H'
def Bo (K:W.Frag):Sp:=λvs H Q _=>∃a b ns n,vs=[.ref a,.ref b]/\G0 K H a b ns n/\n<=1000000000000/\
 ∀(H':Hp),SB b H H'->H' b=some (.lst [.int (n+1)])->Q (.int (num ns (n+1))) H'
def Bp (K:W.Frag):Sp:=λvs H Q _=>∃a b ns n,vs=[.ref a,.ref b]/\G0 K H a b ns n/\n<=1000000000000/\
 ∀(H':Hp),SB b H H'->H' b=some (.lst [.int (n+1)])->Q (.str (fE ns (n+1))) H'
variable {P:Program}{w:World}{K:W.Frag}{mg:Str->Option Value}{base:Heap}
theorem Hj:fG ["_law_script","_law_at","_law_cell","_law_m"] XD (eX (top 27)):=fW
theorem mV (T:Tb mg)(I:Dn K mg "_law_next" fo (top 27) J U):eE P w K mg base eI (1) J U fo (lM K):=by
 refine I.F.ok Hj λvs H Q E h=>?_;obtain⟨a,b,ns,n,rfl,g,hn,q⟩:=h;refine⟨rfl,λaa A outer s nd hr hu=>?_⟩
 refine⟨_,(en (qr (eB hX (gK (pv 1) b_) b_) (EM (pv 1) b_ set_list))
  (en (eW 2 nd b_)
  (en (eR (eP jP (fA gO (by rfl) T.gB PySem.boot_len (a_ (pv 0) c_)) b_ (eM _)) (eG (eW 2 nd (gK (pv 0) (eB fm (gK (pv 1) b_) (fA gO (by rfl) T.gB PySem.boot_len (a_ (pv 0) c_)))))) eS)
  (en (eW 3 nd (eB fm (eB kG (eB hX (eB hX (eB fm (pv 2) b_) (eB kG (eB kG (gK (pv 1) b_) (gK (pv 1) b_)) b_)) b_) b_) b_))
  (eG (eJ (eB fm (eB kG (pv 3) (pv 3)) b_))))))),?_⟩
 ac_rfl
 have hb:=g.at_;have hp:=g.pos;have hS:eA K (upd H b (.lst [.int (n+1)])) a (ns.map V.int):=(SB.wr.jm hb g.jm).sq;have Y:upd H b (.lst [.int (n+1)]) b=some (.lst [.int (n+1)]):=eF;refine(Zr rfl ⟨b,_,_,Zr rfl ⟨rfl,eA.of hb,rfl,_,Zr rfl ⟨rfl,Zr rfl ⟨b,_,_,0,rfl,rfl,hb,rfl,?_⟩⟩⟩⟩);refine(Zr rfl ⟨a,Zr rfl ⟨.inl hS,_,Zr rfl ⟨rfl,Zr rfl ?_⟩⟩⟩);have hl:(ns.map V.int).length=ns.length:=Q03 _;refine fJ (λc=>?_) (λc=>?_)
 . have c':(0:Int)<((ns.map V.int).length:Nat):=of_decide_eq_true c;rw[hl] at c';have i0:=Q0g (n+1) (show(ns.length:Int)≠0 by omega);have i1:=Q0h (n+1) c'
   have hz:gv (ns.map V.int) ((n+1) % (((ns.map V.int).length:Nat):Int))=some (.int (cellAt ns (n+1))):=by
    rw[hl,int_at i0 i1];unfold cellAt;rw[if_pos (by omega)]
   refine(Zr rfl (Zr rfl ⟨b,_,_,Zr rfl ⟨rfl,eA.of Y,rfl,Zr rfl ⟨a,Zr rfl ⟨.inl hS,_,Zr rfl ⟨rfl,by rw[hl];exact c',a,_,_,Zr rfl ⟨rfl,hS,hz,?_⟩⟩⟩⟩⟩⟩))
   refine(Zr rfl ⟨_,Zr rfl ⟨rfl,(by show(0:Int)<_;decide),Zr rfl ⟨b,_,_,Zr rfl ⟨rfl,eA.of Y,rfl,Zr rfl ⟨b,_,_,Zr rfl ⟨rfl,eA.of Y,rfl,_,Zr rfl ⟨rfl,.inl ⟨by omega,by omega⟩,_,Zr rfl ⟨rfl,.inr ⟨by decide,by decide⟩,
    _,Zr rfl ⟨rfl,_,Zr rfl ⟨rfl,_,Zr rfl ⟨rfl,.inr ⟨by decide,by decide⟩,_,Zr rfl ⟨rfl,(by show(0:Int)<_;decide),?_⟩⟩⟩⟩⟩⟩⟩⟩⟩⟩⟩⟩)
   refine(Zr rfl (Zr rfl ⟨_,Zr rfl ⟨rfl,.inl ⟨?_,?_⟩,_,Zr rfl ⟨rfl,(by show(0:Int)<_;decide),q _ SB.wr Y⟩⟩⟩))
   . exact Q36 (by decide) (Q0g _ (by decide))
   . exact Int.lt_trans (Q0h _ (by decide)) (by decide)
 . have c':¬(0:Int)<((ns.map V.int).length:Nat):=λz=>c (decide_eq_true z);rw[hl] at c'
   have hz:cellAt ns (n+1)=0:=by
    unfold cellAt;rw[if_neg (by omega)]
   have q':Q (.int (((0:Int) % 2147483647+(n+1) * (n+1) * 7919+11) * 48271 % 2147483647 * (((0:Int) % 2147483647+(n+1) * (n+1) * 7919+11) * 48271 % 2147483647) % 1999999973)) (upd H b (.lst [.int (n+1)])):=by
    have:=q _ SB.wr Y;unfold nx at this;rw[hz] at this;exact this
   refine(Zr rfl ⟨_,Zr rfl ⟨rfl,(by show(0:Int)<_;decide),Zr rfl ⟨b,_,_,Zr rfl ⟨rfl,eA.of Y,rfl,Zr rfl ⟨b,_,_,Zr rfl ⟨rfl,eA.of Y,rfl,_,Zr rfl ⟨rfl,.inl ⟨by omega,by omega⟩,_,Zr rfl ⟨rfl,.inr ⟨by decide,by decide⟩,
    _,Zr rfl ⟨rfl,_,Zr rfl ⟨rfl,_,Zr rfl ⟨rfl,.inr ⟨by decide,by decide⟩,_,Zr rfl ⟨rfl,(by show(0:Int)<_;decide),?_⟩⟩⟩⟩⟩⟩⟩⟩⟩⟩⟩⟩)
   refine(Zr rfl (Zr rfl ⟨_,Zr rfl ⟨rfl,.inl ⟨?_,?_⟩,_,Zr rfl ⟨rfl,(by show(0:Int)<_;decide),q'⟩⟩⟩))
   . exact Q36 (by decide) (Q0g _ (by decide))
   . exact Int.lt_trans (Q0h _ (by decide)) (by decide)
theorem Hk:fG XD XD (eX (top 31)):=fW
theorem uv (T:Tb mg)(I:Dn K mg "_law_plain" fo (top 31) J U)(Y:Dn K mg "_law_next" fo (top 27) aa ab)(ac:eE P w K mg base eI (1) aa ab fo (jn K)):eE P w K mg base eI (2) J U fo (pM K):=by
 refine I.F.ok Hk λvs H Q E h=>?_;obtain⟨a,b,ns,n,rfl,g,hn,q⟩:=h;refine⟨rfl,λaf A outer s nd hr hu=>?_⟩
 refine⟨_,(en (eR (eP fi (eB fm (eN ac hr Y (a_ (pv 0) (a_ (pv 1) c_))) b_) b_ (eM _)) (eG (eJ (gc (a_ fg c_)))) eS)
  (eG (eJ (gc (a_ fg c_))))),?_⟩
 ac_rfl
 refine(Zr rfl (Zr rfl ⟨a,b,ns,n,rfl,g,hn,λr H1 r0 r1 s1 h1=>?_⟩));refine⟨_,Zr rfl ⟨rfl,(by show(0:Int)<_;decide),rfl,Zr rfl ?_⟩⟩
 have fin:∀(x:Str) (k:Kd),(∀(p:Addr) (H2:Hp),H2 p=some (.tup [.str x])->KA H2 (.ref p) k)->k.dep<=1->j7 k->k.W->∀p,H1 p=none->Q (.ref p) (upd H1 p (.tup [.str x])):=λx k hk hd hp hw p ae=>
  q _ k _ (s1.trans (SB.new ae)) (by rw[eu (eL h1 ae)];exact h1) (hk p _ eF) hd hp hw
 refine fJ (λc=>?_) (λc=>?_)
 . exact⟨g6,λp hp=>fin _ .num (λp H2 e=>by unfold KA;exact⟨p,rfl,e⟩) (Q00 _) trivial (by unfold Kd.W;trivial) p hp⟩
 . exact⟨g6,λp hp=>fin _ .fE (λp H2 e=>by unfold KA;exact⟨p,rfl,e⟩) (Q00 _) trivial (by unfold Kd.W;trivial) p hp⟩
theorem Hl:fG ["_law_script","_law_at","_law_m","_law_cell"] XD (eX (top 28)):=fW
theorem Hm (T:Tb mg)(I:Dn K mg "_law_number" fo (top 28) J U)(Y:Dn K mg "_law_next" fo (top 27) aa ab)(ac:eE P w K mg base eI (1) aa ab fo (lM K)):eE P w K mg base eI (2) J U fo (Bo K):=by
 refine I.F.ok Hl λvs H Q E h=>?_;obtain⟨a,b,ns,n,rfl,g,hn,q⟩:=h;refine⟨rfl,λaf A outer s nd hr hu=>?_⟩
 refine⟨_,(en (eW 2 nd (eN ac hr Y (a_ (pv 0) (a_ (pv 1) c_))))
  (en (eW 3 nd b_)
  (en (eR (eP jP (fA gO (by rfl) T.gB PySem.boot_len (a_ (pv 0) c_)) b_ (eM _)) (eG (eW 3 nd (gK (pv 0) (eB fm (gK (pv 1) b_) (fA gO (by rfl) T.gB PySem.boot_len (a_ (pv 0) c_)))))) eS)
  (en (eR (eP fi (eB fm (pv 2) b_) b_ (eM _)) (eG (eJ (eB jv (eB fm (eB gm (pv 2) b_) b_) b_))) eS)
  (eG (eJ (eB jv (eB fm (eB hX (eB fm (pv 3) (eB qx b_ b_)) (eB kG (pv 2) (eB qx b_ b_))) (eB kG b_ (eB qx b_ b_))) (eB qx b_ b_)))))))),?_⟩
 ac_rfl
 refine(Zr rfl (Zr rfl ⟨a,b,ns,n,rfl,g,hn,λH1 s1 h1=>?_⟩));have g1:=g.go s1 h1 (by omega);have hS:=g1.jm.sq;have r0:=qR ns (n+1);have r1:=uc ns (n+1);have hl:(ns.map V.int).length=ns.length:=Q03 _;have hq:∀e,num ns (n+1)=e->Q (.int e) H1:=λe he=>by rw[<-he];exact q _ s1 h1
 unfold num at hq;refine(Zr rfl ⟨a,Zr rfl ⟨.inl hS,_,Zr rfl ⟨rfl,Zr rfl ?_⟩⟩⟩);have pw:sS 10 40:=⟨by decide,by decide,by decide⟩;have ae:sS 10 29:=⟨by decide,by decide,by decide⟩;refine fJ (λc=>?_) (λc=>?_)
 . have c':(0:Int)<((ns.map V.int).length:Nat):=of_decide_eq_true c;rw[hl] at c';have i0:=Q0g (n+1) (show(ns.length:Int)≠0 by omega);have i1:=Q0h (n+1) c'
   have hz:gv (ns.map V.int) ((n+1) % (((ns.map V.int).length:Nat):Int))=some (.int (cellAt ns (n+1))):=by
    rw[hl,int_at i0 i1];unfold cellAt;rw[if_pos (by omega)]
   refine(Zr rfl (Zr rfl ⟨b,_,_,Zr rfl ⟨rfl,eA.of h1,rfl,Zr rfl ⟨a,Zr rfl ⟨.inl hS,_,Zr rfl ⟨rfl,by rw[hl];exact c',a,_,_,Zr rfl ⟨rfl,hS,hz,?_⟩⟩⟩⟩⟩⟩));refine(Zr rfl ⟨_,Zr rfl ⟨rfl,(by show(0:Int)<_;decide),rfl,Zr rfl (fJ (λc2=>?_) (λc2=>?_))⟩⟩)
   . have c3:nx ns (n+1) % 3=0:=by
      have:=of_decide_eq_true c2;injection this
     refine(Zr rfl ⟨_,Zr rfl ⟨rfl,⟨by decide,by decide⟩,_,Zr rfl ⟨rfl,(by show(0:Int)<_;decide),_,Zr rfl ⟨rfl,hq _ (by rw[if_pos c3])⟩⟩⟩⟩)
   . have c3:¬nx ns (n+1) % 3=0:=λz=>c2 (decide_eq_true (show V.int (nx ns (n+1) % 3)=V.int 0 by rw[z]));refine(Zr rfl ⟨_,Zr rfl ⟨rfl,pw,_,Zr rfl ⟨rfl,(by show(0:Int)<_;decide),Zr rfl ⟨_,Zr rfl ⟨rfl,ae,_,Zr rfl ⟨rfl,.inl ⟨by omega,by omega⟩,_,Zr rfl ⟨rfl,_,Zr rfl ⟨rfl,pw,_,Zr rfl ⟨rfl,.inl ⟨by decide,by decide⟩,_,Zr rfl ⟨rfl,(by show(0:Int)<_;decide),_,Zr rfl ⟨rfl,pw,_,Zr rfl ⟨rfl,hq _ (by rw[if_neg c3];rfl)⟩⟩⟩⟩⟩⟩⟩⟩⟩⟩⟩⟩)
 . have c':¬(0:Int)<((ns.map V.int).length:Nat):=λz=>c (decide_eq_true z);rw[hl] at c'
   have hz:cellAt ns (n+1)=0:=by
    unfold cellAt;rw[if_neg (by omega)]
   refine(Zr rfl ⟨_,Zr rfl ⟨rfl,(by show(0:Int)<_;decide),rfl,Zr rfl (fJ (λc2=>?_) (λc2=>?_))⟩⟩)
   . have c3:nx ns (n+1) % 3=0:=by
      have:=of_decide_eq_true c2;injection this
     refine(Zr rfl ⟨_,Zr rfl ⟨rfl,⟨by decide,by decide⟩,_,Zr rfl ⟨rfl,(by show(0:Int)<_;decide),_,Zr rfl ⟨rfl,hq _ (by rw[if_pos c3])⟩⟩⟩⟩)
   . have c3:¬nx ns (n+1) % 3=0:=λz=>c2 (decide_eq_true (show V.int (nx ns (n+1) % 3)=V.int 0 by rw[z]));refine(Zr rfl ⟨_,Zr rfl ⟨rfl,pw,_,Zr rfl ⟨rfl,(by show(0:Int)<_;decide),Zr rfl ⟨_,Zr rfl ⟨rfl,ae,_,Zr rfl ⟨rfl,.inl ⟨by omega,by omega⟩,_,Zr rfl ⟨rfl,_,Zr rfl ⟨rfl,pw,_,Zr rfl ⟨rfl,.inl ⟨by decide,by decide⟩,_,Zr rfl ⟨rfl,(by show(0:Int)<_;decide),_,Zr rfl ⟨rfl,pw,_,Zr rfl ⟨rfl,hq _ (by rw[if_neg c3,hz];rfl)⟩⟩⟩⟩⟩⟩⟩⟩⟩⟩⟩⟩)
theorem nX:jz.length=93:=by decide +kernel
theorem Bq {z:Int}(I:0<=z)(h1:z<93):gv jz.cps.toList z=some (jz.cps.toList.getD z.toNat 0):=by
 have hl:jz.cps.toList.length=93:=by
  have:=nX;rw[Q1q];exact this
 unfold gv jQ;rw[hl,if_pos I,if_pos (show z<((93:Nat):Int) by omega)];show jz.cps.toList[z.toNat]? =_;rw[Q0d,Q02 (by omega)];rfl
theorem rq (m:Int):∀k,(nM m k).length=k
 |0=>rfl
 |k+1=>by
  show(nM m k++_).length=_;rw[Bi,rq m k];rfl
noncomputable def σW (a b:Addr) (m:Int) (k:Int) (w:Str) (y z:Option V):St:=[some (.ref a),some (.ref b),some (.str jz),some (.int m),some (.int k),some (.str w),y,z]
theorem Hn:fG ["_law_script","_law_at","_law_signs","_law_m","_law_many","_law_word_here","_law_k","_law_place"] XD (eX (top 29)):=fW
theorem Ho (T:Tb mg)(I:Dn K mg "_law_word" fo (top 29) J U)(Y:Dn K mg "_law_next" fo (top 27) aa ab)(ac:eE P w K mg base eI (1) aa ab fo (lM K)):eE P w K mg base eI (2) J U fo (Bp K):=by
 refine I.F.ok Hn λvs H Q E h=>?_;obtain⟨a,b,ns,n,rfl,g,hn,q⟩:=h;refine⟨rfl,λaf A outer s nd hr hu=>?_⟩
 refine⟨_,(en (eW 2 nd fg)
  (en (eW 2 nd (eB mq (pv 2) fg))
  (en (eW 3 nd (eN ac hr Y (a_ (pv 0) (a_ (pv 1) c_))))
  (en (eW 4 nd (eB fm (pv 3) b_))
  (en (eR (eP fi (eB fm (eB gm (pv 3) b_) b_) b_ (eM _)) (eG (eW 4 nd b_)) eS)
  (en (eW 5 nd fg)
  (en (ie PassesOwn.never rfl (kE rfl T.kW (a_ (pv 4) c_)) (fQ (i:=6) nd rfl gq) (en (eW 7 nd (eB hX (eB gm (pv 3) b_) (eB kG (eB kG (pv 6) (pv 6)) (eB fm (eB gm (pv 3) b_) b_))))
  (eG (eW 5 nd (eB mq (pv 5) (kI nB (pv 2) (eB fm (pv 7) (fA Af (by rfl) T.gB PySem.boot_len (a_ (pv 2) c_))) (λ_ _=>rfl)))))))
  (eG (eJ (pv 5)))))))))),?_⟩
 ac_rfl
 have ae:(jz).length<=sizeLine:=by rw[nX];decide
 refine(Zr rfl ⟨_,Zr rfl ⟨rfl,ae,?_⟩⟩);refine(Zr rfl (Zr rfl ⟨a,b,ns,n,rfl,g,hn,λH1 s1 h1=>?_⟩));have r0:=qR ns (n+1);have r1:=uc ns (n+1);have hq:∀e,fE ns (n+1)=e->Q (.str e) H1:=λe he=>by rw[<-he];exact q _ s1 h1
 unfold fE at hq;generalize nx ns (n+1)=m at *;refine(Zr rfl ⟨_,Zr rfl ⟨rfl,(by show(0:Int)<_;decide),?_⟩⟩);refine(Zr rfl ⟨_,Zr rfl ⟨rfl,⟨by decide,by decide⟩,_,Zr rfl ⟨rfl,(by show(0:Int)<_;decide),rfl,Zr rfl (fJ (λc=>?_) (λc=>?_))⟩⟩⟩)
 . have c3:m / 5 % 29=0:=by
    have:=of_decide_eq_true c;injection this
   rw[if_pos c3] at hq;refine(Zr rfl (Zr rfl ⟨by decide,by decide,kF (n:=Int.toNat 40) (λi σ H'=>∃y z,σ=σW a b m 40 (nM m i) y z/\H'=H1) ⟨_,Zr rfl rfl⟩ ?_ ?_⟩))
   . rintro i σ H' hi ⟨y,z,rfl,rfl⟩;have hi:i<40:=hi;have e0:(0:Int)+(i:Int)=(i:Int):=by omega
     have l3:0<=(m / 145+((0:Int)+(i:Int)) * ((0:Int)+(i:Int)) * (m / 7 % 3)) % 93/\(m / 145+((0:Int)+(i:Int)) * ((0:Int)+(i:Int)) * (m / 7 % 3)) % 93<93:=⟨Q0g _ (by decide),Q0h _ (by decide)⟩;refine(Zr rfl ⟨_,Zr rfl ⟨rfl,⟨by decide,by decide⟩,Zr rfl (Zr rfl ⟨_,Zr rfl ⟨rfl,.inl ⟨by omega,by omega⟩,Zr rfl ⟨_,Zr rfl ⟨rfl,⟨by decide,by decide⟩,_,Zr rfl ⟨rfl,(by show(0:Int)<_;decide),_,Zr rfl ⟨rfl,.inr ⟨by omega,by omega⟩,_,Zr rfl ⟨rfl,?_⟩⟩⟩⟩⟩⟩⟩)⟩⟩);refine(Zr rfl (Zr rfl (Zr rfl (Zr rfl (Zr rfl ⟨ae,_,Zr rfl ⟨rfl,(by show(0:Int)<((jz.length:Nat):Int);rw[nX];decide),jz,_,Zr rfl ⟨rfl,ae,(by rw[nX];exact Bq l3.1 l3.2),_,Zr rfl ⟨rfl,?_,?_⟩⟩⟩⟩)))))
     . rw[rq];show i+1<=sizeLine;exact Q0k (gz (by omega))
     . rw[e0];exact⟨_,Zr rfl rfl⟩
   . rintro σ H' ⟨y,z,rfl,rfl⟩;exact(Zr rfl (hq _ rfl))
 . have c3:¬m / 5 % 29=0:=λz=>c (decide_eq_true (show V.int (m / 5 % 29)=V.int 0 by rw[z]));rw[if_neg c3] at hq;have h5:0<=m % 5/\m % 5<5:=by omega
   refine(Zr rfl (Zr rfl ⟨by omega,by omega,kF (n:=Int.toNat (m % 5)) (λi σ H'=>∃y z,σ=σW a b m (m % 5) (nM m i) y z/\H'=H1) ⟨_,Zr rfl rfl⟩ ?_ ?_⟩))
   . rintro i σ H' hi ⟨y,z,rfl,rfl⟩;have hi:i<40:=by omega
     have e0:(0:Int)+(i:Int)=(i:Int):=by omega
     have l3:0<=(m / 145+((0:Int)+(i:Int)) * ((0:Int)+(i:Int)) * (m / 7 % 3)) % 93/\(m / 145+((0:Int)+(i:Int)) * ((0:Int)+(i:Int)) * (m / 7 % 3)) % 93<93:=⟨Q0g _ (by decide),Q0h _ (by decide)⟩;refine(Zr rfl ⟨_,Zr rfl ⟨rfl,⟨by decide,by decide⟩,Zr rfl (Zr rfl ⟨_,Zr rfl ⟨rfl,.inl ⟨by omega,by omega⟩,Zr rfl ⟨_,Zr rfl ⟨rfl,⟨by decide,by decide⟩,_,Zr rfl ⟨rfl,(by show(0:Int)<_;decide),_,Zr rfl ⟨rfl,.inr ⟨by omega,by omega⟩,_,Zr rfl ⟨rfl,?_⟩⟩⟩⟩⟩⟩⟩)⟩⟩);refine(Zr rfl (Zr rfl (Zr rfl (Zr rfl (Zr rfl ⟨ae,_,Zr rfl ⟨rfl,(by show(0:Int)<((jz.length:Nat):Int);rw[nX];decide),jz,_,Zr rfl ⟨rfl,ae,(by rw[nX];exact Bq l3.1 l3.2),_,Zr rfl ⟨rfl,?_,?_⟩⟩⟩⟩)))))
     . rw[rq];show i+1<=sizeLine;exact Q0k (gz (by omega))
     . rw[e0];exact⟨_,Zr rfl rfl⟩
   . rintro σ H' ⟨y,z,rfl,rfl⟩;exact(Zr rfl (hq _ rfl))
theorem Hq (n:Nat)(h:n<=1000):Builtin.Str.tooLong n=false:=by
 have:n<=sizeLine:=Q0k (gz h);unfold Builtin.Str.tooLong;exact decide_eq_false (by omega)
theorem Hr (f:Nat->Str)(i:Nat):((List.range (i+1)).map f).map V.str=((List.range i).map f).map V.str++[V.str (f i)]:=by
 rw[List.range_succ,Q0i,Q0i];rfl
noncomputable abbrev abc:Str:="abcdefghijklmnopqrstuvwxyz"
noncomputable abbrev stemOf (r:Int):Str:=lt (r / 6 % 26)++lt (r / 156 % 26)
noncomputable def σN (a b:Addr) (m:Nat) (r:Int) (p:Addr) (y z:Option V):St:=
 [some (.ref a),some (.ref b),some (.int m),some (.str abc),some (.int r),some (.int (2 * (r % 6)+1)),some (.str (stemOf r)),some (.int (r / 4056 % 3)),some (.ref p),y,z]
theorem Hs:fG ["_law_script","_law_at","_law_many","_law_letters","_law_m","_law_step","_law_stem","_law_cut","_law_names_here","_law_k","_law_sign"] Xf (eX (top 30)):=fW
theorem Br (T:Tb mg)(I:Dn K mg "_law_names" kX (top 30) J U)(Y:Dn K mg "_law_next" fo (top 27) aa ab)(ac:eE P w K mg base eI (1) aa ab fo (jn K)):eE P w K mg base eI (2) J U kX (rn K):=by
 refine I.F.ok Hs λvs H Q E h=>?_;obtain⟨a,b,ns,n,m,rfl,hm,g,hn,q⟩:=h;refine⟨rfl,λam A outer s nd hr hu=>?_⟩
 refine⟨_,(en (eW 3 nd fg)
  (en (eW 4 nd (eN ac hr Y (a_ (pv 0) (a_ (pv 1) c_))))
  (en (eW 5 nd (gK (fY (a_ b_ (a_ b_ (a_ b_ (a_ b_ (a_ b_ (a_ b_ c_))))))) (eB fm (pv 4) b_)))
  (en (eW 6 nd (eB mq (kI nB (pv 3) (eB fm (eB gm (pv 4) b_) b_) (λ_ _=>rfl)) (kI nB (pv 3) (eB fm (eB gm (pv 4) b_) b_) (λ_ _=>rfl))))
  (en (eW 7 nd (eB fm (eB gm (pv 4) b_) b_))
  (en (eW 8 nd (fY c_))
  (en (ie PassesOwn.never rfl (kE rfl T.kW (a_ (pv 2) c_)) (fQ (i:=9) nd rfl gq) (eG (eR (eP fi (eB fm (eB gm (pv 4) b_) b_) b_ (eM _)) (eG (kx (lE PySem.F.plainAttrs_list PySem.F.slot_list_append PySem.F.type_list_append mz (pv 8) (a_ (eB Gi (kI nB (pv 3) (eB fm (eB gm (pv 4) b_) b_) (λ_ _=>rfl)) (eB hX (pv 9) b_)) c_)))) (en (eW 10 nd (kI nB (pv 3) (eB fm (eB hX (eB gm (pv 4) b_) (eB kG (pv 9) (pv 5))) b_) (λ_ _=>rfl)))
  (eG (kx (lE PySem.F.plainAttrs_list PySem.F.slot_list_append PySem.F.type_list_append mz (pv 8) (a_ (eB mq (eB mq (iS qE (pv 6) iQ (iR (pv 7))) (pv 10)) (iS qE (pv 6) (iR (pv 7)) iQ)) c_))))))))
  (eG (eJ (fA Gd (by rfl) T.pE boot_sorted (a_ (pv 8) c_))))))))))),?_⟩
 ac_rfl
 refine(Zr rfl (Zr rfl ⟨a,b,ns,n,rfl,g,hn,λr H1 r0 r1 s1 h1=>?_⟩));have hz:(abc).length<=sizeLine:=by decide +kernel
 have m6:0<=r % 6/\r % 6<6:=by omega
 have l1:0<=r / 6 % 26/\r / 6 % 26<26:=by omega
 have l2:0<=r / 156 % 26/\r / 156 % 26<26:=by omega
 refine⟨Hi,λp1 aj=>?_⟩;refine(Zr rfl ⟨_,Zr rfl ⟨rfl,(by show(0:Int)<_;decide),p1,_,_,Zr rfl ⟨rfl,eA.of eF,G_ m6.1 m6.2,?_⟩⟩⟩);have s2:SB b H (upd H1 p1 (.lst [.int 1,.int 3,.int 5,.int 7,.int 9,.int 11])):=s1.trans (SB.new aj);have h2:upd H1 p1 (.lst [.int 1,.int 3,.int 5,.int 7,.int 9,.int 11]) b=some (.lst [.int (n+1)]):=by rw[eu (eL h1 aj)];exact h1
 generalize upd H1 p1 (.lst [.int 1,.int 3,.int 5,.int 7,.int 9,.int 11])=H2 at s2 h2
 refine(Zr rfl (Zr rfl ⟨_,Zr rfl ⟨rfl,⟨by decide,by decide⟩,_,Zr rfl ⟨rfl,(by show(0:Int)<_;decide),_,_,Zr rfl ⟨rfl,hz,qZ l1.1 l1.2,Zr rfl (Zr rfl ⟨_,Zr rfl ⟨rfl,⟨by decide,by decide⟩,_,Zr rfl ⟨rfl,(by show(0:Int)<_;decide),_,_,Zr rfl ⟨rfl,hz,qZ l2.1 l2.2,
  _,Zr rfl ⟨rfl,gn,?_⟩⟩⟩⟩⟩)⟩⟩⟩⟩))
 refine(Zr rfl ⟨_,Zr rfl ⟨rfl,⟨by decide,by decide⟩,_,Zr rfl ⟨rfl,(by show(0:Int)<_;decide),?_⟩⟩⟩);refine⟨nU,λp hp=>?_⟩;have ak:p≠b:=λz=>by rw[z,h2] at hp;cases hp
 have em:Int.toNat (m:Int)=m:=by omega
 refine(Zr rfl (Zr rfl ⟨by omega,by omega,kF (n:=Int.toNat (m:Int)) (λi σ H'=>∃y z,σ=σN a b m r p y z/\SB b H H'/\H' b=some (.lst [.int (n+1)])/\H' p=some (.lst (((List.range i).map (nameAt r)).map V.str))) ?_ ?_ ?_⟩))
 . exact⟨_,Zr rfl ⟨s2.trans (SB.new hp),by rw[eu (eL h2 hp)];exact h2,eF⟩⟩
 . intro i σ H' hi zq;obtain⟨y,z,rfl,sb,ah,af⟩:=zq;rw[em] at hi
   have ae:(((List.range i).map (nameAt r)).map V.str).length<sizeLine:=by
    rw[Q03,Q03,Q2b];exact gz (by omega)
   have next:∀(v:Str) (y' z':Option V),v=nameAt r i->∃y z,σN a b m r p y' z'=σN a b m r p y z/\SB b H (upd H' p (.lst (((List.range i).map (nameAt r)).map V.str++[V.str v])))/\
    upd H' p (.lst (((List.range i).map (nameAt r)).map V.str++[V.str v])) b=some (.lst [.int (n+1)])/\upd H' p (.lst (((List.range i).map (nameAt r)).map V.str++[V.str v])) p=some (.lst (((List.range (i+1)).map (nameAt r)).map V.str)):=by
    rintro v y' z' rfl;refine⟨y',z',rfl,λc o hc hh=>?_,by rw[eu (Ne.symm ak)];exact ah,by rw[eF,Hr]⟩;by_cases e:c=p
    . subst e;have:=s2 c o hc hh;rw[hp] at this;cases this
    . rw[eu e];exact sb c o hc hh
   have e0:(0:Int)+(i:Int)=(i:Int):=by omega
   refine(Zr rfl ⟨_,Zr rfl ⟨rfl,⟨by decide,by decide⟩,_,Zr rfl ⟨rfl,(by show(0:Int)<_;decide),rfl,Zr rfl ?_⟩⟩⟩);refine fJ (λc=>?_) (λc=>?_)
   . have c':r / 12168 % 4=0:=by
      have:=of_decide_eq_true c;injection this
     refine(Zr rfl ⟨.inl ⟨rfl,_,eA.of af⟩,Zr rfl (Zr rfl ⟨_,Zr rfl ⟨rfl,⟨by decide,by decide⟩,_,Zr rfl ⟨rfl,(by show(0:Int)<_;decide),_,_,Zr rfl ⟨rfl,hz,qZ l1.1 l1.2,Zr rfl ⟨_,Zr rfl ⟨rfl,_,Zr rfl ⟨rfl,?_,p,_,Zr rfl ⟨rfl,af,ae,?_⟩⟩⟩⟩⟩⟩⟩⟩)⟩)
     . rw[e0];exact He (qY _) (by omega) Hq
     . refine next _ _ _ ?_;rw[e0];unfold nameAt;rw[if_pos c'];rfl
   . have c':¬r / 12168 % 4=0:=λz=>c (decide_eq_true (show V.int (r / 12168 % 4)=V.int 0 by rw[z]));have l3:0<=(r / 156+((0:Int)+(i:Int)) * (2 * (r % 6)+1)) % 26/\(r / 156+((0:Int)+(i:Int)) * (2 * (r % 6)+1)) % 26<26:=⟨Q0g _ (by decide),Q0h _ (by decide)⟩;have ls:(stemOf r).length<=sizeLine:=gn;refine(Zr rfl (Zr rfl ⟨_,Zr rfl ⟨rfl,⟨by decide,by decide⟩,Zr rfl (Zr rfl ⟨_,Zr rfl ⟨rfl,.inl ⟨by omega,by omega⟩,_,Zr rfl ⟨rfl,_,Zr rfl ⟨rfl,(by show(0:Int)<_;decide),_,_,Zr rfl ⟨rfl,hz,qZ l3.1 l3.2,?_⟩⟩⟩⟩⟩)⟩⟩));have k1:=Txt.slice_le (stemOf r) none (some (r / 4056 % 3));have k2:=Txt.slice_le (stemOf r) (some (r / 4056 % 3)) none;have k0:(stemOf r).length=2:=rfl;rw[k0] at k1 k2;refine(Zr rfl ⟨.inl ⟨rfl,_,eA.of af⟩,Zr rfl (Zr rfl (Zr rfl (Zr rfl ⟨ls,Zr rfl ⟨_,Zr rfl ⟨rfl,?_,Zr rfl (Zr rfl (Zr rfl (Zr rfl ⟨ls,_,Zr rfl ⟨rfl,?_,p,_,Zr rfl ⟨rfl,af,ae,?_⟩⟩⟩)))⟩⟩⟩)))⟩)
     . show _+1<=sizeLine;exact Q0e (Q37 k1 1) (by decide)
     . rw[Bi];show _+1+_<=sizeLine;exact Q0e (Nat.add_le_add (Q37 k1 1) k2) (by decide)
     . refine next _ _ _ ?_;rw[e0];unfold nameAt;rw[if_neg c'];rfl
 . intro σ H' zq;obtain⟨y,z,rfl,sb,ah,af⟩:=zq;rw[em] at af;have ae:((List.range m).map (nameAt r)).length=m:=by rw[Q03,Q2b]
   refine(Zr rfl ⟨p,Zr rfl ⟨eA.of af,by rw[ae];omega,λp' al ai ag _=>?_⟩⟩);refine q p' al _ (sb.trans (SB.new ai)) (by rw[eu (eL ah ai)];exact ah) (λz=>by rw[z,ah] at ai;cases ai) eF (ag.length_eq.trans ae) ?_ ?_
   . exact ag.nodup_iff.mpr (names_nodup r0 hm)
   . intro x hx;obtain⟨i,hi,rfl⟩:=List.mem_map.mp (ag.mem_iff.mp hx);exact Hh
theorem Hu:fG Xj XJ (eX (top 32)):=fW
theorem Hv (d:Nat)(T:Tb mg)(I:Dn K mg "_law_fields" jc (top 32) J U)(Y:Dn K mg "_law_names" kX (top 30) aa ab)(ac:eE P w K mg base eI (2) aa ab kX (rn K))(ae:Dn K mg "_law_kind" jl (top 34) af ag)(ah:eE P w K mg base eI (2 * d+4) af ag jl (mU K d)):eE P w K mg base eI (2 * d+5) J U jc (Bk K d):=by
 refine I.F.ok Hu λvs H Q E h=>?_;obtain⟨a,b,ns,n,m,rfl,hm,g,hn,q⟩:=h;refine⟨rfl,λaD A outer s nd hr hu=>?_⟩
 refine⟨_,(en (eW 4 nd (eN ac hr Y (a_ (pv 0) (a_ (pv 1) (a_ (pv 2) c_)))))
  (eG (eJ (oU Ag (by rfl) T.pF boot_tuple (a_ (lF (g:=(gX 0)) (tt:=kM) (te:=(oS (gy (fF 0) (gy (jw _ _ _ (gy (fF 1) (gy (fF 2) (gy (fF 4) iu)))) iu)))) (own:=["_law_name"]) rfl (jb (N:=Xj) (sc:=eX (top 32))) (kB (pv 4)) (λ_ _ _ _ _=>(fQ (i:=0) (show(["_law_name","_law_script","_law_at","_law_many","_law_deep","_law_names_here"]:List Str).Nodup by decide +kernel) rfl (Or.inl rfl) (.inr rfl))) (λ_ _ _ _ _=>mC) (λ_ _ _ _ _=>(gc (a_ (pv 0) (a_ (eN ah hr ae (a_ (pv 1) (a_ (pv 2) (a_ (pv 4) c_)))) c_))))) c_))))),?_⟩
 ac_rfl
 have aq:n<=1000000000000:=by omega
 refine(Zr rfl (Zr rfl (Zr rfl ⟨a,b,ns,n,m,rfl,by omega,g,aq,λp ss H1 s1 h1 ar hp hl au av=>?_⟩)))
 refine(Zr rfl ⟨p,rfl,⟨_,eA.of hp⟩,λi m' ys H'=>m'=ss.length - i/\i<=ss.length/\∃(fs:Fs) (n':Int),SB b H H'/\H' b=some (.lst [.int n'])/\n<=n'/\n'<=n+1+i * ck d/\H' p=some (.lst (ss.map V.str))/\FA H' ys fs/\fs.names=ss.take i/\fs.dep<=d+1/\ys.length=i/\fs.W,
  (Zr rfl ⟨Q04 _,.nil,n+1,s1,h1,by omega,by omega,hp,by unfold FA;rfl,by simp[Fs.names],by simp[Fs.dep],rfl,by unfold Fs.W;trivial⟩),?_⟩)
 intro i m' ys H' zq;obtain⟨rfl,aC,fs,n',sb,aj,z1,z2,ak,hf,al,aw,hy,hW⟩:=zq;by_cases hi:i<ss.length
 . refine .inr ⟨⟨_,.str ss[i],eA.of ak,by rw[Q0r,Q02 hi];rfl⟩,gz (by omega),λx ax y=>?_⟩;obtain⟨rfl,y⟩:=y;have hx:=y _ (eA.of ak)
   have ex:x=.str ss[i]:=by
    rw[Q0r,Q02 hi] at hx;exact(Option.some.inj hx).symm
   subst ex;refine⟨rfl,yes (fv ?_)⟩;have ay:(i:Int)<=2:=by omega
   have aE:(i:Int) * ck d<=2 * ck d:=Q1n ay (by omega);refine(Zr rfl (Zr rfl (Zr rfl (Zr rfl ⟨a,b,ns,n',rfl,g.go sb aj z1,by omega,λv k az H2 s2 h2 y1 y2 hk aF aA=>?_⟩))));refine⟨gn,λt ht=>?_⟩;have aB:t≠b:=λz=>by rw[z,h2] at ht;cases ht
   have am:Tu H2 (upd H2 t (.tup [.str ss[i],v])):=Tu.of (λc o h=>by rw[eu (eL h ht)];exact h);have tu:Tu ax (upd H2 t (.tup [.str ss[i],v])):=(s2.tu aj).trans am;refine⟨_,Nat.sub_lt_sub_left hi (Q10 i),rfl,hi,fs.snoc ss[i] k,az,sb.trans (s2.trans (SB.new ht)),by rw[eu (Ne.symm aB)];exact h2,by omega,?_,?_,FA.snoc eF (KA.mono am k hk) fs (FA.mono tu fs hf),?_,?_,?_,Fs.ua aA (av _ (Q0u _)) hW⟩
   . have e:((i+1:Nat):Int) * ck d=(i:Int) * ck d+ck d:=by
      rw[Q20,Q21];simp
     rw[e];omega
   . have h3:=s2 p _ ar ak;rw[eu (eL h3 ht)];exact h3
   . rw[Fs.t8,al,Q0x,Q02 hi];rfl
   . rw[Fs.t9];omega
   . rw[Q05,hy];rfl
 . have ei:i=m:=by omega
   subst ei;refine .inl ⟨⟨_,eA.of ak,by rw[Q03];omega⟩,λp' ai=>?_⟩;have e3:(i:Int) * ck d<=3 * ck d:=Q1n (by omega) (by omega);refine⟨p',ys,rfl,.inl ⟨eA.of eF,λt ht=>?_⟩⟩;have ap:p'≠b:=λz=>by rw[z,aj] at ai;cases ai
   have an:upd H' p' (.lst ys) b=some (.lst [.int n']):=by rw[eu (Ne.symm ap)];exact aj
   have tu:Tu H' (upd (upd H' p' (.lst ys)) t (.tup ys)):=λc xs h=>by
    rw[eu (eL (show upd H' p' (.lst ys) c=some (.tup xs) by rw[eu (eL h ai)];exact h) ht),eu (eL h ai)];exact h
   have ao:ss.take i=ss:=by rw[<-hl,Q0s]
   refine q t ys fs n' _ (sb.trans ((SB.new ai).trans (SB.new ht))) (by rw[eu (eL an ht)];exact an) z1 (by omega) eF (FA.mono tu fs hf) ?_ ?_ aw hW
   . rw[al,ao];exact au
   . rw[al,ao];exact hl
noncomputable def σR (a b:Addr) (m d:Nat) (p:Addr) (r:Int) (I:Addr) (x y z:Option V):St:=
 [some (.ref a),some (.ref b),some (.int m),some (.int d),some (.ref p),some (.int r),some (.int (r % m)),some (.int (r / m % (m+1))),some (.ref I),x,y,z]
theorem uw {ss:List Str}{z:Int}(I:0<=z)(h1:z<ss.length):∃x:Str,gv (ss.map V.str) z=some (.str x)/\ss[z.toNat]? =some x:=by
 obtain⟨j,rfl⟩:∃j:Nat,z=(j:Int):=⟨z.toNat,by omega⟩;exact⟨ss[j]'(by omega),gY (by rw[Q0r,Q02 (by omega)];rfl),by rw[Q1w];exact Q02 (by omega)⟩
theorem Fs.Bs:∀{fs:Fs}{x:Str}{k:Kd}{j:Nat}{y:Str}{q:Kd},fs.at j=some (y,q)->(fs.snoc x k).at j=some (y,q)
 | .nil,_,_,_,_,_,h=>by cases h
 | .cons _ _ _,_,_,0,_,_,h=>h
 | .cons _ _ r,x,k,j+1,y,q,h=>Fs.Bs (fs:=r) (j:=j) h
theorem Fs.Bt:∀{fs:Fs}{x:Str}{k:Kd},(fs.snoc x k).at fs.names.length=some (x,k)
 | .nil,_,_=>rfl
 | .cons _ _ r,x,k=>Fs.Bt (fs:=r)
theorem Hw:fG ["_law_script","_law_at","_law_many","_law_deep","_law_names_here","_law_m","_law_lead","_law_by","_law_fields_here","_law_k","_law_kind_here","_law_name"] XJ (eX (top 33)):=fW
theorem Bu (d:Nat)(T:Tb mg)(U:Dn K mg "_law_rows_kind" jc (top 33) Y aa)(ae:Dn K mg "_law_names" kX (top 30) af ag)(ah:eE P w K mg base eI (2) af ag kX (rn K))(an:Dn K mg "_law_next" fo (top 27) ao ap)(aq:eE P w K mg base eI (1) ao ap fo (jn K))(ai:Dn K mg "_law_plain" fo (top 31) aj ak)(al:eE P w K mg base eI (2) aj ak fo (pM K))(ar:Dn K mg "_law_kind" jl (top 34) au av)(aw:eE P w K mg base eI (2 * d+4) au av jl (mU K d)):
 eE P w K mg base eI (2 * d+5) Y aa jc (Bm K d):=by
 refine U.F.ok Hw λvs H Q E h=>?_;obtain⟨a,b,ns,n,m,rfl,bo,hm,g,hn,q⟩:=h;refine⟨rfl,λbp A outer s nd hr hu=>?_⟩;have bq:(0:Int)<=(m:Int) * (ck d+1):=Int.mul_nonneg (by omega) (by omega)
 refine⟨_,(en (eW 4 nd (eN ah hr ae (a_ (pv 0) (a_ (pv 1) (a_ (pv 2) c_)))))
  (en (eW 5 nd (eN aq hr an (a_ (pv 0) (a_ (pv 1) c_))))
  (en (eW 6 nd (eB fm (pv 5) (pv 2)))
  (en (eW 7 nd (eB fm (eB gm (pv 5) (pv 2)) (eB hX (pv 2) b_)))
  (en (eW 8 nd (fY c_))
  (en (ie PassesOwn.never rfl (kE rfl T.kW (a_ (pv 2) c_)) (fQ (i:=9) nd rfl gq) (en (eW 10 nd (eN aw hr ar (a_ (pv 0) (a_ (pv 1) (a_ (pv 3) c_)))))
  (en (eR (PW.pt (ic (eP fi (pv 9) (pv 6) (eM _)) (ib (eP fi (pv 9) (pv 7) (eM _))))) (eG (eW 10 nd (eN al hr ai (a_ (pv 0) (a_ (pv 1) c_))))) eS)
  (eG (kx (lE PySem.F.plainAttrs_list PySem.F.slot_list_append PySem.F.type_list_append mz (pv 8) (a_ (gc (a_ (gK (pv 4) (pv 9)) (a_ (pv 10) c_))) c_)))))))
  (en (eW 11 nd fg)
  (en (eR (PW.pt (ma (eP oR (pv 7) (pv 2) (eM _)) (nq (eP jO (pv 7) (pv 6) (eM _))))) (eG (eW 11 nd (gK (pv 4) (pv 7)))) eS)
  (eG (eJ (gc (a_ fg (a_ (gK (pv 4) (pv 6)) (a_ (pv 11) (a_ (oU Ag (by rfl) T.pF boot_tuple (a_ (pv 8) c_)) c_))))))))))))))),?_⟩
 ac_rfl
 refine(Zr rfl (Zr rfl (Zr rfl ⟨a,b,ns,n,m,rfl,by omega,g,by omega,λp ss H1 s1 h1 aB hp hl a8 a9=>?_⟩)));refine(Zr rfl (Zr rfl ⟨a,b,ns,n+1,rfl,g.go s1 h1 (by omega),by omega,λr H2 r0 r1 s2 h2=>?_⟩));have aL:H2 p=some (.lst (ss.map V.str)):=s2 p _ aB hp;have aU:SB b H H2:=s1.trans s2;refine(Zr rfl (Zr rfl ⟨_,Zr rfl ⟨rfl,by omega,?_⟩⟩));refine(Zr rfl (Zr rfl ⟨_,Zr rfl ⟨rfl,⟨by omega,by omega⟩,Zr rfl ⟨_,Zr rfl ⟨rfl,_,Zr rfl ⟨rfl,by omega,?_⟩⟩⟩⟩⟩));refine⟨nU,λI aC=>?_⟩;have ab:I≠b:=λz=>by rw[z,h2] at aC;cases aC
 have aV:p≠I:=λz=>by rw[z,aC] at aL;cases aL
 have a4:∀o,H I=some o->False:=λo ho=>by
  have:=aU I o ab ho;rw[aC] at this;cases this
 have em:Int.toNat (m:Int)=m:=by omega
 refine(Zr rfl (Zr rfl ⟨by omega,by omega,kF (n:=Int.toNat (m:Int)) (λi σ H'=>∃(x y z:Option V) (n':Int) (ys:List V) (fs:Fs),σ=σR a b m d p r I x y z/\SB b H H'/\H' b=some (.lst [.int n'])/\n<=n'/\n'<=n+2+i * (ck d+1)/\
  H' p=some (.lst (ss.map V.str))/\H' I=some (.lst ys)/\FA H' ys fs/\fs.dep<=d+1/\ys.length=i/\fs.W/\fs.names=ss.take i/\∀j:Nat,j<i->((j:Int)=r % m\/(j:Int)=r / m % (m+1))->∃y q,fs.at j=some (y,q)/\j7 q) ?_ ?_ ?_⟩))
 . refine⟨_,_,_,n+1+1,[],.nil,rfl,aU.trans (SB.new aC),by rw[eu (Ne.symm ab)];exact h2,by omega,by omega,by rw[eu aV];exact aL,eF,by unfold FA;rfl,by simp[Fs.dep],rfl,by unfold Fs.W;trivial,rfl,λj hj=>absurd hj (by omega)⟩
 . intro i σ H' hi zq;obtain⟨x,y,z,n',ys,fs,rfl,sb,ay,z1,z2,am,J,aH,ba,hy,hW,aI,aJ⟩:=zq;rw[em] at hi
   have e1:((i+1:Nat):Int) * (ck d+1)=(i:Int) * (ck d+1)+(ck d+1):=by
    rw[Q20,Q21];simp
   have bb:((i+1:Nat):Int) * (ck d+1)<=(m:Int) * (ck d+1):=Q1n (by omega) (by omega);rw[e1] at bb;have aD:ys.length<sizeLine:=gz (by omega);have bc:∃q:Str,gv (ss.map V.str) ((0:Int)+(i:Int))=some (.str q)/\ss[((0:Int)+(i:Int)).toNat]? =some q:=uw (by omega) (by omega);obtain⟨nm,aE,ax⟩:=bc
   have ax:ss[i]? =some nm:=by
    rw[show((0:Int)+(i:Int)).toNat=i by omega] at ax;exact ax
   have bd:fs.names.length=i:=by rw[<-FA.len fs aH];exact hy
   have next:∀(x' y' z':Option V) (v:V) (k:Kd) (n2:Int) (H3:Hp) (t:Addr),SB b H' H3->H3 b=some (.lst [.int n2])->n'<=n2->n2<=n'+(ck d+1)->KA H3 v k->k.dep<=d+1->k.W->(((i:Int)=r % m\/(i:Int)=r / m % (m+1))->j7 k)->H3 t=none->
    ∃(x y z:Option V) (n':Int) (aM:List V) (fs:Fs),σR a b m d p r I x' y' z'=σR a b m d p r I x y z/\SB b H (upd (upd H3 t (.tup [.str nm,v])) I (.lst (ys++[.ref t])))/\(upd (upd H3 t (.tup [.str nm,v])) I (.lst (ys++[.ref t]))) b=some (.lst [.int n'])/\n<=n'/\
     n'<=n+2+((i+1:Nat):Int) * (ck d+1)/\(upd (upd H3 t (.tup [.str nm,v])) I (.lst (ys++[.ref t]))) p=some (.lst (ss.map V.str))/\(upd (upd H3 t (.tup [.str nm,v])) I (.lst (ys++[.ref t]))) I=some (.lst aM)/\
     FA (upd (upd H3 t (.tup [.str nm,v])) I (.lst (ys++[.ref t]))) aM fs/\fs.dep<=d+1/\aM.length=i+1/\fs.W/\fs.names=ss.take (i+1)/\∀j:Nat,j<i+1->((j:Int)=r % m\/(j:Int)=r / m % (m+1))->∃y q,fs.at j=some (y,q)/\j7 q:=by
    intro x' y' z' v k n2 H3 t s3 h3 w1 w2 hk aW aP be ht;have aX:H3 I=some (.lst ys):=s3 I _ ab J;have aY:H3 p=some (.lst (ss.map V.str)):=s3 p _ aB am;have bf:t≠I:=λz=>by rw[z,aX] at ht;cases ht
    have bg:t≠b:=λz=>by rw[z,h3] at ht;cases ht
    have bh:t≠p:=λz=>by rw[z,aY] at ht;cases ht
    have aZ:Tu H3 (upd (upd H3 t (.tup [.str nm,v])) I (.lst (ys++[.ref t]))):=λc xs h=>by
     rw[eu (gZ h aX (by intro z;cases z)),eu (eL h ht)];exact h
    have pN:upd (upd H3 t (.tup [.str nm,v])) I (.lst (ys++[.ref t])) t=some (.tup [.str nm,v]):=by rw[eu bf];exact eF
    refine⟨x',y',z',n2,ys++[.ref t],fs.snoc nm k,rfl,λc o hc hh=>?_,?_,by omega,by rw[e1];omega,?_,eF,FA.snoc pN (KA.mono aZ k hk) fs (FA.mono ((s3.tu ay).trans aZ) fs aH),by rw[Fs.t9];omega,by rw[Q05,hy];rfl,Fs.ua aP (a9 _ (Q0p ax)) hW,by rw[Fs.t8,aI,Q0x,ax];rfl,λj hj aA=>?_⟩
    . have q1:=s3 c o hc (sb c o hc hh);by_cases e:c=I
      . subst e;exact(a4 o hh).elim
      . rw[eu e,eu (eL q1 ht)];exact q1
    . rw[eu (Ne.symm ab),eu (Ne.symm bg)];exact h3
    . rw[eu aV,eu (Ne.symm bh)];exact aY
    . by_cases e:j<i
      . obtain⟨y,q,e1,e2⟩:=aJ j e aA;exact⟨y,q,Fs.Bs e1,e2⟩
      . have:j=i:=by omega
        subst this;exact⟨nm,k,by have:=Fs.Bt (fs:=fs) (x:=nm) (k:=k);rwa [bd] at this,be aA⟩
   refine(Zr rfl (Zr rfl (Zr rfl ⟨a,b,ns,n',rfl,g.go sb ay z1,by omega,λv k n2 H3 s3 h3 w1 w2 hk aW aP=>?_⟩)));refine(Zr rfl (Zr rfl ⟨rfl,Zr rfl ?_⟩));refine fJ (λc=>fv ?_) (λcL=>(Zr rfl (Zr rfl ⟨rfl,Zr rfl (fJ (λc=>?_) (λc=>?_))⟩)))
   . refine(Zr rfl (Zr rfl ⟨a,b,ns,n2,rfl,(g.go sb ay z1).go s3 h3 w1,by omega,λv' k' H4 s4 h4 aQ a5 aF aG=>?_⟩));have ac:=s3.trans s4;refine(Zr rfl ⟨.inl ⟨rfl,_,eA.of (ac I _ ab J)⟩,Zr rfl (Zr rfl ⟨p,_,_,Zr rfl ⟨rfl,eA.of (ac p _ aB am),aE,Zr rfl ⟨gn,λt ht=>?_⟩⟩⟩)⟩);refine⟨I,_,Zr rfl ⟨rfl,by rw[eu (eL (ac I _ ab J) ht)];exact ac I _ ab J,aD,?_⟩⟩;exact next _ _ _ v' k' _ H4 t ac h4 (by omega) (by omega) aQ (by omega) aG (λ_=>aF) ht
   . refine(Zr rfl (Zr rfl ⟨a,b,ns,n2,rfl,(g.go sb ay z1).go s3 h3 w1,by omega,λv' k' H4 s4 h4 aQ a5 aF aG=>?_⟩));have ac:=s3.trans s4;refine(Zr rfl ⟨.inl ⟨rfl,_,eA.of (ac I _ ab J)⟩,Zr rfl (Zr rfl ⟨p,_,_,Zr rfl ⟨rfl,eA.of (ac p _ aB am),aE,Zr rfl ⟨gn,λt ht=>?_⟩⟩⟩)⟩);refine⟨I,_,Zr rfl ⟨rfl,by rw[eu (eL (ac I _ ab J) ht)];exact ac I _ ab J,aD,?_⟩⟩;exact next _ _ _ v' k' _ H4 t ac h4 (by omega) (by omega) aQ (by omega) aG (λ_=>aF) ht
   . refine(Zr rfl ⟨.inl ⟨rfl,_,eA.of (s3 I _ ab J)⟩,Zr rfl (Zr rfl ⟨p,_,_,Zr rfl ⟨rfl,eA.of (s3 p _ aB am),aE,Zr rfl ⟨gn,λt ht=>?_⟩⟩⟩)⟩);refine⟨I,_,Zr rfl ⟨rfl,by rw[eu (eL (s3 I _ ab J) ht)];exact s3 I _ ab J,aD,?_⟩⟩;refine next _ _ _ v k _ H3 t s3 h3 (by omega) (by omega) hk aW aP (λaA=>?_) ht
     exact(by
      rcases aA with e|e
      . exact absurd (decide_eq_true (show V.int ((0:Int)+(i:Int))=V.int (r % m) by rw[<-e];congr 1;omega)) cL
      . exact absurd (decide_eq_true (show V.int ((0:Int)+(i:Int))=V.int (r / m % (m+1)) by rw[<-e];congr 1;omega)) c)
 . intro σ H' zq;obtain⟨x,y,z,n',ys,fs,rfl,sb,ay,z1,z2,am,J,aH,ba,hy,hW,aI,aJ⟩:=zq;rw[em] at z2 hy aJ aI;have l0:0<=r % (m:Int):=Q0g _ (by omega);have l1:r % (m:Int)<m:=Q0h _ (by omega);have b0:0<=r / (m:Int) % ((m:Int)+1):=Q0g _ (by omega);obtain⟨xk,aT,bi⟩:=uw (ss:=ss) l0 (by omega);have az:fs.names=ss:=by rw[aI,<-hl,Q0s]
   have a1:fs.names.Nodup:=by rw[az];exact a8
   have pl:∀(z:Int) (x:Str),0<=z->z<m->(z=r % m\/z=r / m % (m+1))->ss[z.toNat]? =some x->fs.pl x:=λz x h0 h1 aA hx=>by
    obtain⟨y,q,e1,e2⟩:=aJ z.toNat (by omega) (by rw[Int.toNat_of_nonneg h0];exact aA);have a2:=Fs.jT fs z.toNat;rw[e1,az,hx] at a2;have e3:some x=some y:=a2
    cases e3;exact⟨q,Fs.jU a1 e1,e2⟩
   have bj:fs.pl xk:=pl _ _ l0 l1 (.inl rfl) bi;have aK:fs.names.length<=12:=by rw[az,hl];omega
   have fin:∀(nm:Str),(nm=""\/fs.pl nm)->∀(t:Addr),H' t=none->∀v:Addr,upd H' t (.tup ys) v=none->Q (.ref v) (upd (upd H' t (.tup ys)) v (.tup [.str "rows",.str xk,.str nm,.ref t])):=by
    intro nm bm t ht v hv;have bn:v≠t:=λz=>by rw[z,eF] at hv;cases hv
    have tu:Tu H' (upd (upd H' t (.tup ys)) v (.tup [.str "rows",.str xk,.str nm,.ref t])):=λc xs h=>by
     have e:upd H' t (.tup ys) c=some (.tup xs):=by rw[eu (eL h ht)];exact h
     rw[eu (eL e hv)];exact e
    have a3:upd H' t (.tup ys) b=some (.lst [.int n']):=by rw[eu (eL ay ht)];exact ay
    refine q (.ref v) xk nm fs n' _ (sb.trans ((SB.new ht).trans (SB.new hv))) (by rw[eu (eL a3 hv)];exact a3) z1 (by omega) ?_ (by simp only[Kd.dep];omega) (by unfold Kd.W;exact⟨a1,aK,hW,bj,bm⟩) (by rw[az,hl]);unfold KA;exact⟨v,t,ys,rfl,eF,by rw[eu (Ne.symm bn)];exact eF,FA.mono tu fs aH⟩
   refine(Zr rfl (Zr rfl ⟨_,Zr rfl ⟨rfl,Zr rfl ?_⟩⟩));refine fJ (λc=>(Zr rfl (Zr rfl ⟨rfl,Zr rfl (fJ (λc2=>?_) (λc2=>?_))⟩))) (λc=>fk ?_)
   . have c':r / (m:Int) % ((m:Int)+1)<m:=of_decide_eq_true c;obtain⟨nm,a6,a7⟩:=uw (ss:=ss) b0 (by omega);refine(Zr rfl (Zr rfl ⟨p,_,_,Zr rfl ⟨rfl,eA.of am,a6,?_⟩⟩));exact(Zr rfl (Zr rfl ⟨p,_,_,Zr rfl ⟨rfl,eA.of am,aT,Zr rfl (Zr rfl ⟨I,ys,rfl,.inl ⟨eA.of J,λt ht=>⟨uu,λv hv=>fin nm (.inr (pl _ _ b0 c' (.inr rfl) a7)) t ht v hv⟩⟩⟩)⟩⟩))
   . exact(Zr rfl (Zr rfl ⟨p,_,_,Zr rfl ⟨rfl,eA.of am,aT,Zr rfl (Zr rfl ⟨I,ys,rfl,.inl ⟨eA.of J,λt ht=>⟨uu,λv hv=>fin _ (.inl rfl) t ht v hv⟩⟩⟩)⟩⟩))
   . exact(Zr rfl (Zr rfl ⟨p,_,_,Zr rfl ⟨rfl,eA.of am,aT,Zr rfl (Zr rfl ⟨I,ys,rfl,.inl ⟨eA.of J,λt ht=>⟨uu,λv hv=>fin _ (.inl rfl) t ht v hv⟩⟩⟩)⟩⟩))
theorem Hx (d:Nat)(T:Tb mg)(I:Dn K mg "_law_rows_kind" jc (top 33) J U)(Y:Dn K mg "_law_names" kX (top 30) aa ab)(ac:eE P w K mg base eI (2) aa ab kX (rn K))(ai:Dn K mg "_law_next" fo (top 27) aj ak)(al:eE P w K mg base eI (1) aj ak fo (jn K))(ae:Dn K mg "_law_plain" fo (top 31) af ag)(ah:eE P w K mg base eI (2) af ag fo (pM K))(am:Dn K mg "_law_kind" jl (top 34) an ao)(ap:eE P w K mg base eI (2 * d+4) an ao jl (mU K d)):
 eE P w K mg base eI (2 * d+5) J U jc (Bl K d):=(Bu d T I Y ac ai al ae ah am ap).imp λvs H Q E h=>by
 obtain⟨a,b,ns,n,m,e,h1,h3,g,hn,q⟩:=h;have e3:(m:Int) * (ck d+1)<=3 * (ck d+1):=Q1n (by omega) (by omega);exact⟨a,b,ns,n,m,e,h1,by omega,g,by omega,λv key by_ fs n' H' s h0 l1 l2 k kd kw _=>q v _ n' H' s h0 l1 (by omega) k kd kw⟩
theorem Bv:fG ["_law_script","_law_at","_law_deep","_law_m"] Xe (eX (top 34)):=fW
theorem Hy (T:Tb mg)(aa:Dn K mg "_law_kind" jl (top 34) ab ac)(ae:Dn K mg "_law_next" fo (top 27) af ag)(ah:eE P w K mg base eI (1) af ag fo (jn K))(I:Dn K mg "_law_plain" fo (top 31) J U)(Y:eE P w K mg base eI (2) J U fo (pM K)):eE P w K mg base eI (2 * 0+4) ab ac jl (mU K 0):=by
 refine aa.F.ok Bv λvs H Q E h=>?_;obtain⟨a,b,ns,n,rfl,g,hn,q⟩:=h;refine⟨rfl,λaj A outer s nd hr hu=>?_⟩;have ai:ck 0=2:=rfl;rw[ai] at hn q
 refine⟨_,(en (eW 3 nd (eN ah hr ae (a_ (pv 0) (a_ (pv 1) c_))))
  (en (eR (PW.pt (ic (eP zM (pv 2) b_ (eM _)) (ib Gc))) (eG (eJ (eN Y hr I (a_ (pv 0) (a_ (pv 1) c_))))) eS) EK)),?_⟩
 ac_rfl
 refine(Zr rfl (Zr rfl ⟨a,b,ns,n,rfl,g,by omega,λr H1 r0 r1 s1 h1=>?_⟩));refine(Zr rfl ⟨_,Zr rfl ⟨rfl,Zr rfl ?_⟩⟩);refine fJ (λc=>fv ?_) (λc=>(c (by decide)).elim);refine(Zr rfl (Zr rfl ⟨a,b,ns,n+1,rfl,g.go s1 h1 (by omega),by omega,λv k H2 s2 h2 hk hd hp hw=>?_⟩));exact q v k (n+1+1) H2 (s1.trans s2) h2 (by omega) (by omega) hk (by omega) hw
theorem Hz (d:Nat)(T:Tb mg)(U:Dn K mg "_law_kind" jl (top 34) Y aa)(am:Dn K mg "_law_next" fo (top 27) an ao)(ap:eE P w K mg base eI (1) an ao fo (jn K))(ai:Dn K mg "_law_plain" fo (top 31) aj ak)(al:eE P w K mg base eI (2) aj ak fo (pM K))(I:Dn K mg "_law_fields" jc (top 32) ag ah)(J:eE P w K mg base eI (2 * d+5) ag ah jc (Bk K d))(ab:Dn K mg "_law_rows_kind" jc (top 33) ac ae)(af:eE P w K mg base eI (2 * d+5) ac ae jc (Bl K d))
 (aq:eE P w K mg base eI (2 * d+4) Y aa jl (mU K d)):eE P w K mg base eI (2 * (d+1)+4) Y aa jl (mU K (d+1)):=by
 refine U.F.ok Bv λvs H Q E h=>?_;obtain⟨a,b,ns,n,rfl,g,hn,q⟩:=h;refine⟨rfl,λax A outer s nd hr hu=>?_⟩
 have ar:(ck (d+1):Int)=3 * ck d+6:=by
  have:ck (d+1)=3 * ck d+6:=rfl;omega
 rw[ar] at hn
 refine⟨_,(en (eW 3 nd (eN ap hr am (a_ (pv 0) (a_ (pv 1) c_))))
  (en (eR (PW.pt (ic (eP zM (pv 2) b_ (eM _)) (ib (eP oR (eB fm (pv 3) b_) b_ (eM _))))) (eG (eJ (eN al hr ai (a_ (pv 0) (a_ (pv 1) c_))))) eS)
  (en (eR (eP oR (eB fm (pv 3) b_) b_ (eM _)) (eG (eJ (gc (a_ fg (a_ (eN J hr I (a_ (pv 0) (a_ (pv 1) (a_ (eB fm (eB gm (pv 3) b_) b_) (a_ (eB jv (pv 2) b_) c_))))) c_))))) eS)
  (en (eR (eP oR (eB fm (pv 3) b_) b_ (eM _)) (eG (eJ (eN af hr ab (a_ (pv 0) (a_ (pv 1) (a_ (eB hX b_ (eB fm (eB gm (pv 3) b_) b_)) (a_ (eB jv (pv 2) b_) c_))))))) eS)
  (en (eR (eP fi (eB fm (pv 3) b_) b_ (eM _)) (eG (eJ (gc (a_ fg (a_ (eN aq hr U (a_ (pv 0) (a_ (pv 1) (a_ (eB jv (pv 2) b_) c_)))) c_))))) eS)
  (eG (eJ (gc (a_ fg (a_ (eN J hr I (a_ (pv 0) (a_ (pv 1) (a_ (eB hX b_ (eB fm (eB gm (pv 3) b_) b_)) (a_ (eB jv (pv 2) b_) c_))))) c_)))))))))),?_⟩
 ac_rfl
 refine(Zr rfl (Zr rfl ⟨a,b,ns,n,rfl,g,by omega,λr H1 r0 r1 s1 h1=>?_⟩));have g1:=g.go s1 h1 (by omega);have e2:(((d+1:Nat):Int)) - 1=(d:Int):=by omega
 have e0:(if decide ((((d+1:Nat):Int))<=0)=true then True else False)=False:=by
  rw[if_neg (by rw[decide_eq_true_iff];omega)]
 refine(Zr rfl ⟨_,Zr rfl ⟨rfl,Zr rfl (fJ (λc=>?_) (λc=>?_))⟩⟩)
 . exact absurd (of_decide_eq_true c) (by omega)
 refine(Zr rfl ⟨_,Zr rfl ⟨rfl,(by show(0:Int)<_;decide),_,Zr rfl ⟨rfl,Zr rfl (fJ (λc1=>?_) (λc1=>?_))⟩⟩⟩)
 . refine(Zr rfl (Zr rfl ⟨a,b,ns,n+1,rfl,g1,by omega,λv k H2 s2 h2 hk hd hp hw=>?_⟩));exact q v k (n+1+1) H2 (s1.trans s2) h2 (by omega) (by rw[ar];omega) hk (by omega) hw
 refine(Zr rfl ⟨_,Zr rfl ⟨rfl,(by show(0:Int)<_;decide),_,Zr rfl ⟨rfl,Zr rfl (fJ (λc2=>?_) (λc2=>?_))⟩⟩⟩)
 . obtain⟨m,hm⟩:∃m:Nat,r / 10 % 4=(m:Int):=⟨(r / 10 % 4).toNat,by omega⟩;refine(Zr rfl (Zr rfl (Zr rfl ⟨_,Zr rfl ⟨rfl,⟨by decide,by decide⟩,_,Zr rfl ⟨rfl,(by show(0:Int)<_;decide),Zr rfl ⟨_,Zr rfl ⟨rfl,a,b,ns,n+1,m,(by show [V.ref a,V.ref b,V.int (r / 10 % 4),V.int (((d+1:Nat):Int) - 1)]=_;rw[hm,e2]),by omega,g1,by omega,λt xs fs n' H2 s2 h2 w1 w2 ht au av hl aw hW=>?_⟩⟩⟩⟩⟩)));refine⟨gn,λv hv=>?_⟩;have tu:Tu H2 (upd H2 v (.tup [.str "record",.ref t])):=λc ys h=>by rw[eu (eL h hv)];exact h
   refine q (.ref v) (.eZ fs) n' _ (s1.trans (s2.trans (SB.new hv))) (by rw[eu (eL h2 hv)];exact h2) (by omega) (by rw[ar];omega) ?_ (by simp only[Kd.dep];omega) (by unfold Kd.W;exact⟨av,by omega,hW⟩);unfold KA;exact⟨v,t,xs,rfl,eF,tu _ _ ht,FA.mono tu fs au⟩
 refine(Zr rfl ⟨_,Zr rfl ⟨rfl,(by show(0:Int)<_;decide),_,Zr rfl ⟨rfl,Zr rfl (fJ (λc3=>?_) (λc3=>?_))⟩⟩⟩)
 . obtain⟨m,hm⟩:∃m:Nat,1+r / 10 % 3=(m:Int):=⟨(1+r / 10 % 3).toNat,by omega⟩;refine(Zr rfl (Zr rfl (Zr rfl ⟨_,Zr rfl ⟨rfl,⟨by decide,by decide⟩,_,Zr rfl ⟨rfl,(by show(0:Int)<_;decide),_,Zr rfl ⟨rfl,Zr rfl ⟨_,Zr rfl ⟨rfl,a,b,ns,n+1,m,(by show [V.ref a,V.ref b,V.int (1+r / 10 % 3),V.int (((d+1:Nat):Int) - 1)]=_;rw[hm,e2]),by omega,by omega,g1,by omega,λv k n' H2 s2 h2 w1 w2 hk aw hw=>?_⟩⟩⟩⟩⟩⟩)));exact q v k n' H2 (s1.trans s2) h2 (by omega) (by rw[ar];omega) hk (by omega) hw
 refine(Zr rfl ⟨_,Zr rfl ⟨rfl,(by show(0:Int)<_;decide),rfl,Zr rfl (fJ (λc4=>?_) (λc4=>?_))⟩⟩)
 . refine(Zr rfl (Zr rfl (Zr rfl ⟨_,Zr rfl ⟨rfl,a,b,ns,n+1,(by show [V.ref a,V.ref b,V.int (((d+1:Nat):Int) - 1)]=_;rw[e2]),g1,by omega,λu k n' H2 s2 h2 w1 w2 hk aw hw=>?_⟩⟩)));refine⟨gn,λv hv=>?_⟩;have tu:Tu H2 (upd H2 v (.tup [.str "tree",u])):=λc ys h=>by rw[eu (eL h hv)];exact h
   refine q (.ref v) (.tree k) n' _ (s1.trans (s2.trans (SB.new hv))) (by rw[eu (eL h2 hv)];exact h2) (by omega) (by rw[ar];omega) ?_ (by simp only[Kd.dep];omega) (by unfold Kd.W;exact hw);unfold KA;exact⟨v,u,rfl,eF,KA.mono tu k hk⟩
 . obtain⟨m,hm⟩:∃m:Nat,1+r / 10 % 3=(m:Int):=⟨(1+r / 10 % 3).toNat,by omega⟩;refine(Zr rfl (Zr rfl (Zr rfl ⟨_,Zr rfl ⟨rfl,⟨by decide,by decide⟩,_,Zr rfl ⟨rfl,(by show(0:Int)<_;decide),_,Zr rfl ⟨rfl,Zr rfl ⟨_,Zr rfl ⟨rfl,a,b,ns,n+1,m,(by show [V.ref a,V.ref b,V.int (1+r / 10 % 3),V.int (((d+1:Nat):Int) - 1)]=_;rw[hm,e2]),by omega,g1,by omega,λt xs fs n' H2 s2 h2 w1 w2 ht au av hl aw hW=>?_⟩⟩⟩⟩⟩⟩)));refine⟨gn,λv hv=>?_⟩;have tu:Tu H2 (upd H2 v (.tup [.str "either",.ref t])):=λc ys h=>by rw[eu (eL h hv)];exact h
   refine q (.ref v) (.gA fs) n' _ (s1.trans (s2.trans (SB.new hv))) (by rw[eu (eL h2 hv)];exact h2) (by omega) (by rw[ar];omega) ?_ (by simp only[Kd.dep];omega) (by unfold Kd.W;exact⟨av,by omega,by omega,hW⟩);unfold KA;exact⟨v,t,xs,rfl,eF,tu _ _ ht,FA.mono tu fs au⟩
theorem kind_all (T:Tb mg)(U:Dn K mg "_law_kind" jl (top 34) ac ae)(I:Dn K mg "_law_next" fo (top 27) an ao)(J:Dn K mg "_law_plain" fo (top 31) aj ak)(aa:Dn K mg "_law_names" kX (top 30) al am)(ab:Dn K mg "_law_fields" jc (top 32) ah ai)(Y:Dn K mg "_law_rows_kind" jc (top 33) af ag):∀d:Nat,eE P w K mg base eI (2 * d+4) ac ae jl (mU K d)
 |0=>Hy T U I (nW (mV T I)) J (uv T J I (nW (mV T I)))
 |d+1=>by
  have N:=nW (mV (P:=P) (w:=w) (base:=base) T I);have Pl:=uv T J I N;have Nm:=Br T aa I N;have ih:=kind_all T U I J aa ab Y d;have Fd:=Hv d T ab aa Nm U ih;have Rw:=Hx d T Y aa Nm I N J Pl U ih;exact Hz d T U I N J Pl ab Fd Y Rw ih
theorem Bw (ns:List Int)(x:Str)(k:Kd)(room:Nat):∀(fs:Fs) (n:Int),fc ns (fs.snoc x k) room n=((fc ns fs room n).1.snoc x (val ns k room (fc ns fs room n).2).1,(val ns k room (fc ns fs room n).2).2)
 | .nil,n=>by
   show fc ns (.cons x k .nil) room n=_;simp only[fc,Ds.snoc]
 | .cons y q r,n=>by
   show fc ns (.cons y q (r.snoc x k)) room n=_;simp only[fc,Ds.snoc];rw[Bw ns x k room r]
theorem Bx (g:Int->D × Int):∀(m:Nat) (n:Int),times g (m+1) n=((times g m n).1.snoc "" (g (times g m n).2).1,(g (times g m n).2).2)
 |0,n=>by simp only[times,Ds.snoc]
 |m+1,n=>by
  have I:=Bx g m (g n).2;show(Ds.cons "" (g n).1 (times g (m+1) (g n).2).1,(times g (m+1) (g n).2).2)=_;rw[I];simp only[times,Ds.snoc]
theorem ux {g h:Int->D × Int}(e:∀n,g n=h n):∀(m:Nat) (n:Int),times g m n=times h m n
 |0,n=>rfl
 |m+1,n=>by
  simp only[times];rw[e n,ux e m]
theorem lP {ns:List Int}{f:Nat->Int->D × Int}:∀(fu room:Nat) (n:Int),room<2 ^ fu->gP ns f (fu+1) room n=gP ns f (fu+2) room n
 |0,room,n,h=>by
  have e:room=0:=by simpa using h
  subst e
  have I:(nx ns ((f (0 / 2) n).2+1) % (((0:Nat):Int)+1)).toNat=0:=by
   have:nx ns ((f (0 / 2) n).2+1) % (((0:Nat):Int)+1)=0:=by
    show _ % (1:Int)=0;exact Int.emod_one _
   rw[this];rfl
  unfold gP;rw[I];rfl
 |fu+1,room,n,h=>by
  have J:=λm=>lP (ns:=ns) (f:=f) fu (room / 2) m (by rw[Q2e] at h;omega);show(pairD (f (room / 2) n).1 (.lst (times (gP ns f (fu+1) (room / 2)) _ _).1),(times (gP ns f (fu+1) (room / 2)) _ _).2)=(pairD (f (room / 2) n).1 (.lst (times (gP ns f (fu+2) (room / 2)) _ _).1),(times (gP ns f (fu+2) (room / 2)) _ _).2);rw[ux J]
theorem HA (ns:List Int)(k:Kd)(room:Nat)(n:Int)(h:room<8):val ns (.tree k) room n=
 (pairD (val ns k (room / 2) n).1 (.lst (times (val ns (.tree k) (room / 2)) (nx ns ((val ns k (room / 2) n).2+1) % ((room:Int)+1)).toNat ((val ns k (room / 2) n).2+1)).1),
   (times (val ns (.tree k) (room / 2)) (nx ns ((val ns k (room / 2) n).2+1) % ((room:Int)+1)).toNat ((val ns k (room / 2) n).2+1)).2):=by
 have e:∀m,val ns (.tree k) (room / 2) m=gP ns (val ns k) 3 (room / 2) m:=λm=>by
  show gP ns (val ns k) 4 (room / 2) m=_;exact(lP 2 (room / 2) m (by show _<4;omega)).symm
 rw[ux e];simp only[val,gP]
theorem uy {g:Int->Ds × Int}{key:Str}:∀(m:Nat) (I:List Ds) (n:Int),f9 g key (m+1) I n=
 (if jA key (f9 g key m I n).1 (keyOf (g (f9 g key m I n).2).1 key)=true then((f9 g key m I n).1,(g (f9 g key m I n).2).2) else((f9 g key m I n).1++[(g (f9 g key m I n).2).1],(g (f9 g key m I n).2).2))
 |0,I,n=>by
  simp only[f9]
  first
   |rfl
   |(by_cases c:jA key I (keyOf (g n).1 key)=true <;> simp[c])
 |m+1,I,n=>by
  rw[f9];split
  . rename_i c;rw[uy m I]
    conv=>rhs;rw[f9]
    simp only[c,if_true]
  . rename_i c;rw[uy m (I++[(g n).1])]
    conv=>rhs;rw[f9]
    simp only[c,if_false];rfl
noncomputable def mu:Kd->Nat->Nat
 | .rows key by_ fs,room=>(2 * (fs.dep+1)+1) * 8+room
 |k,room=>(2 * k.dep) * 8+room
theorem rz (k:Kd)(room:Nat):mu k room<=(2 * k.dep+1) * 8+room:=by
 cases k <;> simp only[mu,Kd.dep] <;> omega
theorem uz {k J:Kd}{room I:Nat}(h:k.dep<J.dep)(U:room<8):mu k room<mu J I:=by
 have:=rz k room
 cases J <;> simp only[mu,Kd.dep] at * <;> omega
noncomputable def gr (room:Nat):Nat:=if room=0 then 1 else if room=1 then 9 else if room<4 then 73 else 585
noncomputable def kc:Kd->Nat->Nat
 | .tree k,room=>(k.cB+1) * gr room
 |k,_=>k.cB
theorem uA (room:Nat):1<=gr room/\gr room<=585:=by
 unfold gr;by_cases I:room=0
 . rw[if_pos I];omega
 . rw[if_neg I];by_cases h1:room=1
   . rw[if_pos h1];omega
   . rw[if_neg h1];by_cases h2:room<4
     . rw[if_pos h2];omega
     . rw[if_neg h2];omega
theorem HC (room:Nat):gr room<=585:=(uA room).2
theorem uB (k:Kd)(room:Nat):kc k room<=k.cB:=by
 cases k with
 |tree k=>exact Q38 _ (HC room)
 |_=>exact Q00 _
theorem HD {room:Nat}(h1:1<=room)(I:room<8):1+room * gr (room / 2)<=gr room:=by
 have h:room=1\/room=2\/room=3\/room=4\/room=5\/room=6\/room=7:=by omega
 rcases h with h|h|h|h|h|h|h <;> subst h <;> decide
theorem HE (ns:List Int)(k:Kd)(room:Nat)(n:Int)(h:room<8):n<=(val ns (.tree k) room n).2/\(val ns (.tree k) room n).2<=n+((k.cB+1) * gr room:Nat):=by
 have I:=λ(room:Nat) (n:Int) (h:room<8)=>lK ns k room n h;have e:val ns (.tree k) room n=gP ns (val ns k) 4 room n:=by simp only[val]
 rw[e];unfold gr;by_cases J:room=0
 . rw[if_pos J,<-lP 2 room n (by omega),<-lP 1 room n (by omega),<-lP 0 room n (by omega)];exact nO (N:=k.cB) I 1 room n h
 . rw[if_neg J];by_cases h1:room=1
   . rw[if_pos h1,<-lP 2 room n (by omega),<-lP 1 room n (by omega)];exact nO (N:=k.cB) I 2 room n h
   . rw[if_neg h1];by_cases h2:room<4
     . rw[if_pos h2,<-lP 2 room n (by omega)];exact nO (N:=k.cB) I 3 room n h
     . rw[if_neg h2];exact nO (N:=k.cB) I 4 room n h
theorem By (ns:List Int):∀(fs:Fs) (i room:Nat) (n:Int) (x:Str) (k:Kd),fs.at i=some (x,k)->h_ ns fs i room n=(pairD (.str x) (val ns k room n).1,(val ns k room n).2)
 | .nil,i,_,_,_,_,h=>by cases h
 | .cons y q r,0,room,n,x,k,h=>by
   cases h;simp only[h_]
 | .cons y q r,i+1,room,n,x,k,h=>by
   simp only[h_];exact By ns r i room n x k h
theorem Fs.Bz:∀{fs:Fs}{i:Nat}{x:Str}{k:Kd},fs.at i=some (x,k)->k.cB<=fs.cB
 | .nil,_,_,_,h=>by cases h
 | .cons y q r,0,x,k,h=>by
   cases h;simp only[Fs.cB];omega
 | .cons y q r,i+1,x,k,h=>by
   have:=Fs.Bz (fs:=r) (i:=i) h;simp only[Fs.cB];omega
theorem Fs.BA:∀{fs:Fs}{i:Nat}{x:Str}{k:Kd},fs.at i=some (x,k)->(fs.take i).cB+k.cB<=fs.cB
 | .nil,_,_,_,h=>by cases h
 | .cons y q r,0,x,k,h=>by
   cases h;simp only[Fs.take,Fs.cB];omega
 | .cons y q r,i+1,x,k,h=>by
   have:=Fs.BA (fs:=r) (i:=i) h;simp only[Fs.take,Fs.cB];omega
theorem Fs.uC:∀(fs:Fs) (i:Nat),(fs.take i).names=fs.names.take i
 | .nil,i=>by simp[Fs.take,Fs.names]
 | .cons x k r,0=>by simp[Fs.take,Fs.names]
 | .cons x k r,i+1=>by
   show x::(r.take i).names=x::r.names.take i;rw[Fs.uC r i]
theorem Fs.HF {fs:Fs}{i:Nat}{x:Str}{k:Kd}(I:fs.names.Nodup)(h:fs.at i=some (x,k)):x ∉ (fs.take i).names:=by
 rw[Fs.uC];intro J;obtain⟨j,U,e⟩:=Q13 J;have Y:fs.names[i]? =some x:=by rw[Fs.jT,h];rfl
 obtain⟨hi,ei⟩:=List.getElem?_eq_some_iff.mp Y;rw[Q0l] at U;rw[Q19] at e;have:=(Q25 I).mp (e.trans ei.symm);omega
theorem rA (ns:List Int)(room:Nat):∀(fs:Fs) (n:Int),(fc ns fs room n).1.names=fs.names
 | .nil,n=>by simp[fc,Ds.names,Fs.names]
 | .cons x k r,n=>by
   simp only[fc,Ds.names,Fs.names];rw[rA ns room r]
theorem eO.key {H:Hp}{kvs:List (Key × V)}{m:Ds}{fp:List Addr}{fs:Fs}{x:Str}(h:eO H kvs m fp)(f:fH fs m)(hp:fs.pl x):gJ kvs (Sum.inr x)=some (kV (keyOf m x)):=by
 rcases(f.plain hp).2 with⟨z,I,J,_⟩|⟨s,I,J,_⟩
 . obtain⟨v,g,h1,h2,_⟩:=eO.val m h I;unfold Own at h2;rw[h1,J,h2.1];rfl
 . obtain⟨v,g,h1,h2,_⟩:=eO.val m h I;unfold Own at h2;rw[h1,J,h2.1];rfl
abbrev fj (b P:Addr):Hp->Hp->Prop:=Kp (λc=>c=b\/c=P)
theorem _root_.L2.eY.tab {P:Addr}{I:Pos}{J:Str}{H:Hp}(h:eY P I J H):∃ps,H P=some (.gF ps):=by
 rcases h with e|⟨c,e,_⟩ <;> exact⟨_,e⟩
theorem _root_.L2.eY.keep {P:Addr}{I:Pos}{J:Str}{H H':Hp}(h:eY P I J H)(k:∀c o,(∀xs,o≠ .lst xs)->H c=some o->H' c=some o):eY P I J H':=by
 rcases h with e|⟨c,e,f⟩
 . exact .inl (k _ _ (by intro xs z;cases z) e)
 . exact .inr ⟨c,k _ _ (by intro xs z;cases z) e,k _ _ (by intro xs z;cases z) f⟩
theorem _root_.L2.eY.same {P:Addr}{I:Pos}{J:Str}{H H':Hp}(h:eY P I J H)(s:Same H H'):eY P I J H':=h.keep λc o _ e=>s c o e
theorem _root_.L2.eY.sb {P b:Addr}{I:Pos}{J:Str}{H H':Hp}{l:List V}(h:eY P I J H)(U:H b=some (.lst l))(s:SB b H H'):eY P I J H':=
 h.keep λc o Y e=>s c o (gZ e U (Y l)) e
theorem _root_.L2.eY.wr {P p:Addr}{J:Pos}{U:Str}{H:Hp}{o:HO}(h:eY P J U H)(hp:Mu H p):eY P J U (upd H p o):=by
 have key:∀c u,(∀xs,u≠ .lst xs)->(∀I,u≠ .dK I)->H c=some u->upd H p o c=some u:=λc u h1 h2 e=>by
  rw[eu];· exact e
  intro z;subst z;rcases hp with⟨xs,q⟩|⟨I,q⟩
  . rw[e] at q;exact h1 xs (Option.some.inj q)
  . rw[e] at q;exact h2 I (Option.some.inj q)
 rcases h with e|⟨c,e,f⟩
 . exact .inl (key _ _ (by intro xs z;cases z) (by intro xs z;cases z) e)
 . exact .inr ⟨c,key _ _ (by intro xs z;cases z) (by intro xs z;cases z) e,key _ _ (by intro xs z;cases z) (by intro xs z;cases z) f⟩
theorem SB.ft {b P:Addr}{H H':Hp}(s:SB b H H'):fj b P H H':=λc o n e=>s c o (λz=>n (.inl z)) e
theorem fj.at {b P c:Addr}{H H':Hp}{n:Int}{I:Pos}{J:Str}{o:HO}(x:fj b P H H')(U:H b=some (.lst [.int n]))(hT:eY P I J H)(h1:o≠ .lst [.int n])(h2:∀ps,o≠ .gF ps)(e:H c=some o):H' c=some o:=by
 obtain⟨ps,Y⟩:=hT.tab;refine x c o (λz=>?_) e;rcases z with z|z
 . exact gZ e U h1 z
 . exact gZ e Y (h2 ps) z
theorem fj.tu {b P:Addr}{H H':Hp}{n:Int}{I:Pos}{J:Str}(x:fj b P H H')(U:H b=some (.lst [.int n]))(hT:eY P I J H):Tu H H':=λa xs e=>x.at U hT (by intro z;cases z) (by intro ps z;cases z) e
theorem fj.g0 {K:W.Frag}{a b P:Addr}{H H':Hp}{ns:List Int}{n n':Int}{I:Pos}{J:Str}(x:fj b P H H')(g:G0 K H a b ns n)(hT:eY P I J H)(h:H' b=some (.lst [.int n']))(U:n<=n'):G0 K H' a b ns n':=by
 refine⟨?_,g.len,h,by have:=g.pos;omega⟩;rcases g.jm with⟨o,e⟩|e
 . exact .inl ⟨o,x.at g.at_ hT (by intro z;cases z) (by intro ps z;cases z) e⟩
 . exact .inr e
theorem Own.ft {b P:Addr}{H₀ H H':Hp}{v:V}{d:D}{fp:List Addr}{n:Int}{J:Pos}{U:Str}(h:Own H v d fp)(x:fj b P H H')(Y:H b=some (.lst [.int n]))(hT:eY P J U H)(I:∃o,H₀ b=some o)(fr:∀c∈fp,H₀ c=none):Own H' v d fp:=by
 refine h.keep (x.tu Y hT) d λc hc o e=>x c o (λz=>?_) e;rcases z with z|z
 . obtain⟨o',e'⟩:=I;have:=fr c hc;rw[z,e'] at this;cases this
 . obtain⟨ps,hP⟩:=hT.tab;rcases Own.alive d h c hc with⟨xs,q⟩|⟨xs,q⟩ <;> rw[z,hP] at q <;> cases q
def lQ:Sp:=λvs H Q _=>∃p r b key by_ fs kvs m fp,vs=[.ref p,.ref r]/\H p=some (.tup [.str "rows",.str key,.str by_,.ref b])/\H r=some (.dK kvs)/\eO H kvs m fp/\fH fs m/\fs.pl key/\(by_=""\/fs.pl by_)/\
 ∀q,H q=none->Q (.ref q) (upd H q (.tup ((rankOf key by_ m).map kV)))
noncomputable def rB (st:Stmt):Pos:=match(g_ st).getLast? with
 |some (.Return (some (.Call _ _ [⟨_,.Lambda _ _ _ I,_⟩] _)) _)=>I
 |_=>⟨0,0,0,0⟩
noncomputable abbrev gU:Pos:=rB (top 36)
noncomputable abbrev gW:Str:=("_law_rows":Str)++".<locals>."++"<lambda>"
def k_ (K:W.Frag) (P:Addr) (N:Nat):Sp:=λvs H Q _=>∃a b ns n I k,∃room:Nat,vs=[.ref a,.ref b,I,.int room]/\G0 K H a b ns n/\eY P gU gW H/\KA H I k/\k.W/\room<8/\mu k room<=N/\n+kc k room<=1000000000000/\
 ∀(v:V) (H':Hp) (fp:List Addr),fj b P H H'->H' b=some (.lst [.int (val ns k room n).2])->eY P gU gW H'->Own H' v (val ns k room n).1 fp->fp.Nodup->(∀c∈fp,H c=none)->Q v H'
def BB (K:W.Frag) (P:Addr) (N:Nat):Sp:=λvs H Q _=>∃a b ns n I key by_ fs,∃room:Nat,vs=[.ref a,.ref b,I,.int room]/\G0 K H a b ns n/\eY P gU gW H/\KA H I (.rows key by_ fs)/\(Kd.rows key by_ fs).W/\room<8/\mu (.rows key by_ fs) room<=N+1/\n+(Kd.rows key by_ fs).cB<=1000000000000/\
 ∀(v:V) (H':Hp) (fp:List Addr),fj b P H H'->H' b=some (.lst [.int (val ns (.rows key by_ fs) room n).2])->eY P gU gW H'->Own H' v (val ns (.rows key by_ fs) room n).1 fp->fp.Nodup->(∀c∈fp,H c=none)->Q v H'
theorem HG:fG Xd Xd (eX (top 35)):=fW
theorem BC (T:Tb mg)(I:Dn K mg "_law_rank" k6 (top 35) J U):eE P w K mg base eI (1) J U k6 (lQ):=by
 refine I.F.ok HG λvs H Q E h=>?_;obtain⟨p,r,b,key,by_,fs,kvs,m,fp,rfl,hp,hR,hO,hF,hk,aa,q⟩:=h;refine⟨rfl,λac A outer s nd hr Y=>?_⟩
 refine⟨_,(en (eR (eP fi (eK (pv 0) b_) fg (eM _)) (eG (eJ (gc (a_ (h9 Y (pv 1) (eK (pv 0) b_) (λ_ _=>rfl)) c_)))) eS)
  (eG (eJ (gc (a_ (h9 Y (pv 1) (eK (pv 0) b_) (λ_ _=>rfl)) (a_ (h9 Y (pv 1) (eK (pv 0) b_) (λ_ _=>rfl)) c_)))))),?_⟩
 ac_rfl
 have gk:gf H r (.str key) (some (kV (keyOf m key))):=by have:=gf.k (k:=Sum.inr key) hR;rw[hO.key hF hk] at this;exact this
 refine(Zr rfl ⟨p,_,_,Zr rfl ⟨rfl,d_.of hp,rfl,rfl,Zr rfl (fJ (λc=>?_) (λc=>?_))⟩⟩)
 . have c':by_="":=by
    have:=of_decide_eq_true c;injection this
   refine(Zr rfl (Zr rfl ⟨p,_,_,Zr rfl ⟨rfl,d_.of hp,rfl,r,Zr rfl ⟨gk,g6,λt ht=>?_⟩⟩⟩));have:=q t ht;unfold rankOf at this;rw[if_pos c'] at this;exact this
 . have c':¬by_="":=λz=>c (decide_eq_true (show V.str by_=V.str "" by rw[z]));have ab:fs.pl by_:=aa.resolve_left c';have gb:gf H r (.str by_) (some (kV (keyOf m by_))):=by have:=gf.k (k:=Sum.inr by_) hR;rw[hO.key hF ab] at this;exact this
   refine(Zr rfl (Zr rfl ⟨p,_,_,Zr rfl ⟨rfl,d_.of hp,rfl,r,Zr rfl ⟨gb,Zr rfl (Zr rfl ⟨p,_,_,Zr rfl ⟨rfl,d_.of hp,rfl,r,Zr rfl ⟨gk,gn,λt ht=>?_⟩⟩⟩)⟩⟩⟩));have:=q t ht;unfold rankOf at this;rw[if_neg c'] at this;exact this
theorem HH:fG ["kind","row","key","by"] ["kind","row"] (eX (top 14)):=fW
theorem BD (T:Tb mg)(I:Dn K mg "rank" mP (top 14) J U):eE P w K mg base eI (1) J U mP (lQ):=by
 refine I.F.ok HH λvs H Q E h=>?_;obtain⟨p,r,b,key,by_,fs,kvs,m,fp,rfl,hp,hR,hO,hF,hk,aa,q⟩:=h;refine⟨rfl,λac A outer s nd hr Y=>?_⟩
 refine⟨_,(en (eW 2 nd (eK (pv 0) b_))
  (en (eW 3 nd (eK (pv 0) b_))
  (en (eR (eP fi (pv 3) fg (eM _)) (eG (eJ (gc (a_ (h9 Y (pv 1) (pv 2) (λ_ _=>rfl)) c_)))) eS)
  (eG (eJ (gc (a_ (h9 Y (pv 1) (pv 3) (λ_ _=>rfl)) (a_ (h9 Y (pv 1) (pv 2) (λ_ _=>rfl)) c_)))))))),?_⟩
 ac_rfl
 have gk:gf H r (.str key) (some (kV (keyOf m key))):=by have:=gf.k (k:=Sum.inr key) hR;rw[hO.key hF hk] at this;exact this
 refine(Zr rfl ⟨p,_,_,Zr rfl ⟨rfl,d_.of hp,rfl,?_⟩⟩);refine(Zr rfl ⟨p,_,_,Zr rfl ⟨rfl,d_.of hp,rfl,?_⟩⟩);refine(Zr rfl ⟨rfl,Zr rfl (fJ (λc=>?_) (λc=>?_))⟩)
 . have c':by_="":=by
    have:=of_decide_eq_true c;injection this
   refine(Zr rfl (Zr rfl ⟨r,Zr rfl ⟨gk,g6,λt ht=>?_⟩⟩));have:=q t ht;unfold rankOf at this;rw[if_pos c'] at this;exact this
 . have c':¬by_="":=λz=>c (decide_eq_true (show V.str by_=V.str "" by rw[z]));have ab:fs.pl by_:=aa.resolve_left c';have gb:gf H r (.str by_) (some (kV (keyOf m by_))):=by have:=gf.k (k:=Sum.inr by_) hR;rw[hO.key hF ab] at this;exact this
   refine(Zr rfl (Zr rfl ⟨r,Zr rfl ⟨gb,Zr rfl (Zr rfl ⟨r,Zr rfl ⟨gk,gn,λt ht=>?_⟩⟩)⟩⟩));have:=q t ht;unfold rankOf at this;rw[if_neg c'] at this;exact this
noncomputable def σV (a b pk:Addr) (room:Nat) (I ps:Addr) (x y:Option V):St:=[some (.ref a),some (.ref b),some (.ref pk),some (.int room),some (.ref I),some (.ref ps),x,y]
theorem uD {α I:Type}{F:α->I->Prop}{a:α}{b:I}:∀{as:List α}{bs:List I},Paired F as bs->F a b->Paired F (as++[a]) (bs++[b])
 |_,_,.nil,h=>.cons h .nil
 |_,_,.cons x r,h=>.cons x (uD r h)
theorem rD {J:List (Key × V)}{I:List Ds}{key:Str}(h:J.map (·.1)=I.map λr=>keyOf r key)(k:Key):(gJ J k).isSome=jA key I k:=by
 rw[<-o4];unfold jA;have e:∀(l:List Ds),(l.any λr=>decide (keyOf r key=k))=((l.map λr=>keyOf r key).any λx=>decide (x=k)):=λl=>by rw[Q2g];rfl
 rw[e,<-h,Q2g];rfl
theorem eU.ft {b P:Addr}{H₀ H H':Hp}{n:Int}{Y:Pos}{ql:Str}(x:fj b P H H')(J:H b=some (.lst [.int n]))(hT:eY P Y ql H)(I:∃o,H₀ b=some o):
 ∀{vs:List V} {rs:List Ds} {fl:List (List Addr)},eU H vs rs fl->(∀c∈fl.flatten,H₀ c=none)->eU H' vs rs fl
 |_,_,_,.nil,_=>.nil
 |_,_,_,.cons h r,U=>.cons (h.ft x J hT I λc hc=>U c (Q0v _ hc)) (eU.ft x J hT I r λc hc=>U c (Q08 _ hc))
theorem eU.keep {H H':Hp}(t:Tu H H'):∀{vs:List V}{rs:List Ds}{fl:List (List Addr)},eU H vs rs fl->(∀c∈fl.flatten,∀o,H c=some o->H' c=some o)->eU H' vs rs fl
 |_,_,_,.nil,_=>.nil
 |_,_,_,.cons h r,k=>.cons (h.keep t _ λc hc=>k c (Q0v _ hc)) (eU.keep t r λc hc=>k c (Q08 _ hc))
theorem eU.mu {H:Hp}{vs:List V}{rs:List Ds}{fl:List (List Addr)}(h:eU H vs rs fl):∀c∈fl.flatten,Mu H c:=eQ.alive _ h.own
theorem BE:fG Xa XM (eX (top 36)):=fW
theorem HI {Pt c:Addr}(N:Nat)(T:Tb mg)(ai:Dn K mg "_law_rows" hZ (top 36) aj Y)(bb:Y.code=.ref c)(bA:W.CodeHd base c Pt)(bB:BM mg base)(ak:Dn K mg "_law_next" fo (top 27) al am)(an:eE P w K mg base eI (1) al am fo (lM K))(J:Dn K mg "_law_rank" k6 (top 35) ao ap)(aq:eE P w K mg base eI (1) ao ap k6 (lQ))(ac:Dn K mg "_law_value" hZ (top 37) ae af)(ag:eE P w K mg base eI (2 * N+5) ae af hZ (k_ K Pt N)):
 eE P w K mg base eI (2 * N+6) aj Y hZ (BB K Pt N):=by
 refine ai.F.qO bb BE (λvs H Q E h=>?_) (λA outer s H vs Q E hr h=>?_)
 . obtain⟨a,b,ns,n,kv,key,by_,fs,room,rfl,_⟩:=h;rfl
 obtain⟨a,b,ns,n,kv,key,by_,fs,room,rfl,g,hT,hk,hW,b3,bC,hn,q⟩:=h;have nd:=BE.nd;have hu:=tK hr;unfold KA at hk;obtain⟨pk,pb,xs,rfl,aY,bD,bE⟩:=hk;have b4:=hW;unfold Kd.W at hW;obtain⟨bF,bG,aZ,aF,be⟩:=hW
 refine⟨_,(en (eW 4 nd (fY c_))
  (en (eW 5 nd o8)
  (en (ie PassesOwn.never rfl (kE rfl T.kW (a_ (eB fm (eN an hr ak (a_ (pv 0) (a_ (pv 1) c_))) (eB hX (pv 3) b_)) c_)) (fQ (i:=6) nd rfl gq) (en (eW 7 nd (eN ag hr ac (a_ (pv 0) (a_ (pv 1) (a_ (gc (a_ fg (a_ (eK (pv 2) b_) c_))) (a_ (eB gm (pv 3) b_) c_))))))
  (eG (eR (qg (An hu (h9 hu (pv 7) (eK (pv 2) b_) (λ_ _=>rfl)) (pv 5)) (by with_unfolding_all rfl)) (en (mB hu (pv 5) (h9 hu (pv 7) (eK (pv 2) b_) (λ_ _=>rfl)) ip rfl)
  (eG (kx (lE PySem.F.plainAttrs_list PySem.F.slot_list_append PySem.F.type_list_append mz (pv 4) (a_ (pv 7) c_))))) eS))))
  (eG (eJ (qN (x:="_law_row") (N':=["","","_law_kind_here","","","","",""]) rfl T.pE boot_sorted hr rfl rfl bA bB (kT.of (N:=Xa) (sc:=eX (top 36)) rfl rfl rfl rfl rfl (by decide +kernel)) rfl (λ_ _ _ _ _=>rfl) (pv 4) (λ_ _ _ _ _=>(nA aq (fV.deeper (k:=1) (fV.in1 (k:=2) (fV.in1 (k:=3) (hr.mono (by omega)))) _) rfl J.m J.F.kp J.b .nil nG (a_ (pv 3) (a_ (pv 0) c_)))))))))),?_⟩
 ac_rfl
 have bH:(Kd.rows key by_ fs).cB=8 * fs.cB+1:=rfl;rw[bH] at hn;have hb:=g.at_;obtain⟨b5,hP⟩:=hT.tab;refine⟨nU,λpr aL=>?_⟩;intro ps az
 have aG:H ps=none:=by
  by_cases e:ps=pr
  . rw[e,eF] at az;cases az
  . rwa [eu e] at az
 have a1:ps≠pr:=λe=>by rw[e,eF] at az;cases az
 have s0:Same H (upd (upd H pr (.lst [])) ps (.dK [])):=(Same.new aL).trans (Same.new az);have hT0:=hT.same s0;have g0:G0 K (upd (upd H pr (.lst [])) ps (.dK [])) a b ns n:=⟨(SB.of s0).jm hb g.jm,g.len,s0 _ _ hb,g.pos⟩;refine(Zr rfl (Zr rfl ⟨a,b,ns,n,rfl,g0,by omega,λH1 s1 h1=>?_⟩));refine(Zr rfl ⟨_,Zr rfl ⟨rfl,_,Zr rfl ⟨rfl,by omega,?_⟩⟩⟩);have b6:=Q0g (nx ns (n+1)) (show((room:Int)+1)≠0 by omega);have b7:=Q0h (nx ns (n+1)) (show(0:Int)<(room:Int)+1 by omega);have a2:b≠pr:=eL hb aL;have a3:b≠ps:=eL hb aG;have jY:Pt≠pr:=eL hP aL;have bI:Pt≠ps:=eL hP aG;have bJ:H1 pr=some (.lst []):=s1 pr _ (Ne.symm a2) (by rw[eu (Ne.symm a1)];exact eF);have bK:H1 ps=some (.dK []):=s1 ps _ (Ne.symm a3) eF;have bL:eY Pt gU gW H1:=hT0.sb (s0 _ _ hb) s1;have k1:fj b Pt H H1:=λc o nc e=>s1 c o (λz=>nc (.inl z)) (s0 c o e);have cnt:=λm=>nQ ns fs (room / 2) m (by omega)
 refine(Zr rfl ⟨by omega,by omega,kF (n:=Int.toNat (nx ns (n+1) % ((room:Int)+1))) (λi σ H'=>∃x y vs fl sk,σ=σV a b pk room pr ps x y/\fj b Pt H H'/\H' b=some (.lst [.int (f9 (fc ns fs (room / 2)) key i [] (n+1)).2])/\eY Pt gU gW H'/\
  H' pr=some (.lst vs)/\H' ps=some (.dK sk)/\eU H' vs (f9 (fc ns fs (room / 2)) key i [] (n+1)).1 fl/\fl.flatten.Nodup/\(∀c∈fl.flatten,H c=none/\c≠pr/\c≠ps)/\sk.map (·.1)=((f9 (fc ns fs (room / 2)) key i [] (n+1)).1.map λr=>keyOf r key)/\vs.length<=i) ?_ ?_ ?_⟩)
 . exact⟨_,_,[],[],[],rfl,k1,h1,bL,bJ,bK,.nil,Q0w,λc hc=>absurd hc (by simp),rfl,Q00 _⟩
 . intro i σ H' hi zq;obtain⟨x,y,vs,fl,sk,rfl,kp,aC,aA,aM,a4,aa,aP,au,aD,bM⟩:=zq;have b8:i<8:=by omega
   obtain⟨c1,c2⟩:=qV (key:=key) cnt i [] (n+1);have c3:i * fs.cB<=7 * fs.cB:=Q0z _ (by omega);have aE:Tu H H':=kp.tu hb hT;refine(Zr rfl (Zr rfl (Zr rfl ⟨pk,_,_,Zr rfl ⟨rfl,d_.of (aE _ _ aY),rfl,gn,λt ht=>?_⟩⟩)));have st:Same H' (upd H' t (.tup [.str "record",.ref pb])):=Same.new ht;have e2:((room / 2:Nat):Int)=(room:Int) / 2:=by omega
   have bN:KA (upd H' t (.tup [.str "record",.ref pb])) (.ref t) (.eZ fs):=by
    unfold KA;exact⟨t,pb,xs,rfl,eF,st _ _ (aE _ _ bD),FA.mono (aE.trans (Tu.of st)) fs bE⟩
   have b9:=g.pos;refine(Zr rfl ⟨_,Zr rfl ⟨rfl,⟨by decide,by decide⟩,a,b,ns,(f9 (fc ns fs (room / 2)) key i [] (n+1)).2,.ref t,.eZ fs,room / 2,(by rw[e2];rfl),fj.g0 (kp.trans (Kp.of st)) g hT (st _ _ aC) (by omega),aA.same st,bN,(by unfold Kd.W;exact⟨bF,bG,aZ⟩),by omega,(by simp only[mu,Kd.dep] at bC ⊢;omega),(by simp only[kc,Kd.cB];omega),?_⟩⟩);intro v H2 fp ft aB bf aw bt aV;have ev:val ns (.eZ fs) (room / 2) (f9 (fc ns fs (room / 2)) key i [] (n+1)).2=(.dct (fc ns fs (room / 2) (f9 (fc ns fs (room / 2)) key i [] (n+1)).2).1,(fc ns fs (room / 2) (f9 (fc ns fs (room / 2)) key i [] (n+1)).2).2):=by simp only[val]
   rw[ev] at aB aw;have bu:=lJ ns fs aZ (room / 2) (f9 (fc ns fs (room / 2)) key i [] (n+1)).2 (by omega);have succ:=uy (g:=fc ns fs (room / 2)) (key:=key) i [] (n+1);generalize f9 (fc ns fs (room / 2)) key (i+1) [] (n+1)=ca at succ ⊢;generalize f9 (fc ns fs (room / 2)) key i [] (n+1)=I at *;generalize fc ns fs (room / 2) I.2=ab at *;have ar:fj b Pt H' H2:=(Kp.of st).trans ft;have bO:∃o,H b=some o:=⟨_,hb⟩;have bg:H2 pr=some (.lst vs):=ar pr _ (λz=>z.elim (Ne.symm a2) (Ne.symm jY)) aM;have aQ:H2 ps=some (.dK sk):=ar ps _ (λz=>z.elim (Ne.symm a3) (Ne.symm bI)) a4;have U:eU H2 vs I.1 fl:=eU.ft ar aC aA bO aa λc hc=>(au c hc).1;have bc:=aw;unfold Own at aw;obtain⟨rr,kvs,fq,rfl,a5,cb,a6⟩:=aw;have ax:H2 pk=some (.tup [.str "rows",.str key,.str by_,.ref pb]):=fj.at (kp.trans ar) hb hT (by intro z;cases z) (by intro ps z;cases z) aY;have gk:gf H2 rr (.str key) (some (kV (keyOf ab.1 key))):=by have:=gf.k (k:=Sum.inr key) a5;rw[a6.key bu aF] at this;exact this
   have gs:gf H2 ps (kV (keyOf ab.1 key)) (gJ sk (keyOf ab.1 key)):=gf.k aQ;have sv:=rD aD (keyOf ab.1 key);have aI:fj b Pt H H2:=kp.trans ar;refine(Zr rfl (Zr rfl ⟨pk,_,_,Zr rfl ⟨rfl,d_.of ax,rfl,rr,Zr rfl ⟨gk,Zr rfl ⟨ps,Zr rfl ⟨gs,Zr rfl ?_⟩⟩⟩⟩⟩))
   cases ec:jA key I.1 (keyOf ab.1 key) with
   |true=>
    rw[ec] at sv;rw[ec,if_pos rfl] at succ;rw[sv];subst succ;exact fk ⟨_,_,vs,fl,sk,rfl,aI,aB,bf,bg,aQ,U,aP,au,aD,by omega⟩
   |false=>
    rw[ec] at sv;rw[ec,if_neg (by simp)] at succ;rw[sv];subst succ;refine fv ?_
    have bP:gJ sk (keyOf ab.1 key)=none:=by
     cases z:gJ sk (keyOf ab.1 key) with
     |none=>rfl
     |some o=>rw[z] at sv;cases sv
    have bv:sk.length<sizeLine:=by
     have e1:sk.length=(I.1.map λr=>keyOf r key).length:=by rw[<-aD,Q03]
     rw[Q03] at e1;have cd:=(A3.len U).1;exact gz (by omega)
    refine(Zr rfl (Zr rfl (Zr rfl ⟨pk,_,_,Zr rfl ⟨rfl,d_.of ax,rfl,rr,Zr rfl ⟨gk,ps,Zr rfl ⟨jx.k aQ bv,?_⟩⟩⟩⟩)));rw[pB bP];have bh:Mu H2 ps:=.inr ⟨_,aQ⟩;have bQ:Tu H2 (upd H2 ps (.dK (sk++[(keyOf ab.1 key,.bl true)]))):=Tu.wr λys z=>bh.uf ys z;have a7:upd H2 ps (.dK (sk++[(keyOf ab.1 key,.bl true)])) pr=some (.lst vs):=by rw[eu (Ne.symm a1)];exact bg
    refine(Zr rfl ⟨.inl ⟨rfl,_,eA.of a7⟩,Zr rfl ⟨pr,_,Zr rfl ⟨rfl,a7,gz (by omega),?_⟩⟩⟩);have bi:Mu (upd H2 ps (.dK (sk++[(keyOf ab.1 key,.bl true)]))) pr:=.inl ⟨_,a7⟩;have bj:Tu H2 (upd (upd H2 ps (.dK (sk++[(keyOf ab.1 key,.bl true)]))) pr (.lst (vs++[.ref rr]))):=bQ.trans (Tu.wr λys z=>bi.uf ys z)
    have aH:∀c∈fp,H c=none/\c≠pr/\c≠ps:=λc hc=>by
     have z:=aV c hc;have z':H' c=none:=st.free z;have nb:c≠b:=λe=>by rw[e,aC] at z';cases z'
     obtain⟨bm,a8⟩:=aA.tab;have nP:c≠Pt:=λe=>by rw[e,a8] at z';cases z'
     refine⟨kp.pC (λe=>e.elim nb nP) z',λe=>?_,λe=>?_⟩
     . rw[e,aM] at z';cases z'
     . rw[e,a4] at z';cases z'
    have ah:∀c,c≠pr->c≠ps->upd (upd H2 ps (.dK (sk++[(keyOf ab.1 key,.bl true)]))) pr (.lst (vs++[.ref rr])) c=H2 c:=λc n1 n2=>by rw[eu n1,eu n2]
    refine⟨_,_,vs++[.ref rr],fl++[fp],Zr rfl ⟨λc o nc e=>?_,by rw[ah b a2 a3];exact aB,(bf.wr bh).wr bi,eF,by rw[eu a1];exact eF,?_,?_,?_,?_,by rw[Q05];show vs.length+1<=i+1;omega⟩⟩
    . rw[ah c (eL e aL) (eL e aG)];exact aI c o nc e
    . refine A3.snoc ?_ (eU.keep bj U λc hc o e=>by rw[ah c (au c hc).2.1 (au c hc).2.2];exact e);exact bc.keep bj _ λc hc o e=>by rw[ah c (aH c hc).2.1 (aH c hc).2.2];exact e
    . rw[Q1o];refine List.nodup_append.mpr ⟨aP,by simpa using bt,λc hc d hd=>?_⟩;have bR:d∈fp:=by simpa using hd
      intro e;subst e;obtain⟨o,eo⟩:=(eU.mu aa c hc).ex;have:=st.free (aV c bR);rw[eo] at this;cases this
    . intro c hc;rw[Q1o] at hc;rcases List.mem_append.mp hc with z|z
      . exact au c z
      . exact aH c (by simpa using z)
    . rw[Q0i,Q0i,aD];rfl
 . intro σ H' zq;obtain⟨x,y,vs,fl,sk,rfl,kp,aC,aA,aM,a4,aa,aP,au,aD,bM⟩:=zq;have bS:val ns (.rows key by_ fs) room n=(.lst (gh (gp key by_ (f9 (fc ns fs (room / 2)) key (nx ns (n+1) % ((room:Int)+1)).toNat [] (n+1)).1)),(f9 (fc ns fs (room / 2)) key (nx ns (n+1) % ((room:Int)+1)).toNat [] (n+1)).2):=by simp only[val]
   rw[bS] at q;have aJ:∀m∈(f9 (fc ns fs (room / 2)) key (nx ns (n+1) % ((room:Int)+1)).toNat [] (n+1)).1,fH fs m:=nN (R:=fH fs) (λn=>lJ ns fs aZ (room / 2) n (by omega)) _ _ _ (λr hr=>absurd hr (by simp));have bT:=qS (g:=fc ns fs (room / 2)) (key:=key) (nx ns (n+1) % ((room:Int)+1)).toNat [] (n+1) Q0w;generalize f9 (fc ns fs (room / 2)) key (nx ns (n+1) % ((room:Int)+1)).toNat [] (n+1)=I at *;obtain⟨aW,bw⟩:=A3.len aa;refine(Zr rfl ⟨pr,vs,rfl,eA.of aM,by omega,aA,λc' H2 a9 mono=>?_⟩);have aE:Tu H H':=kp.tu hb hT
   have np:∀cc o,(∀ps,o≠ .gF ps)->H' cc=some o->H2 cc=some o:=λcc o ho e=>by
    obtain⟨bm,a8⟩:=aA.tab;exact mono cc o (gZ e a8 (ho bm)) e
   have bn:Tu H' H2:=λcc ys e=>np cc _ (by intro ps z;cases z) e
   have U:eU H2 vs I.1 fl:=eU.keep bn aa λcc hc o e=>np cc o (by
    intro ps z;rcases eU.mu aa cc hc with⟨_,q⟩|⟨_,q⟩ <;> rw[e] at q <;> rw[z] at q <;> cases q) e
   have ax:H2 pk=some (.tup [.str "rows",.str key,.str by_,.ref pb]):=bn _ _ (aE _ _ aY);refine⟨λks H3=>Same H2 H3/\ks.length<=vs.length/\mI H3 ks ((I.1.map (rankOf key by_)).take ks.length),⟨Same.refl _,Q04 _,.nil⟩,λks H3 hw=>a9.mono λcc o _ e=>hw.1 _ _ e,?_,?_⟩
   . rintro ks H3 yv ⟨s3,bU,aT⟩ hy;have bo:ks.length<vs.length:=(List.getElem?_eq_some_iff.mp hy).1;have aX:=A3.at (a0:=V.non) (b0:=Ds.nil) (c0:=[]) U ks.length bo;have ey:vs.getD ks.length .non=yv:=by rw[Q0d,hy];rfl
     rw[ey] at aX
     have bx:I.1.getD ks.length .nil∈I.1:=by
      rw[Q0d,Q02 (by omega)];exact Q0u _
     have aK:=Own.same s3 aX;unfold Own at aK;obtain⟨rr,kvs,fq,rfl,a5,_,a6⟩:=aK;refine(Zr rfl (Zr rfl ⟨pk,rr,pb,key,by_,fs,kvs,_,fq,rfl,s3 _ _ ax,a5,a6,aJ _ bx,aF,be,λt ht=>⟨s3.trans (Same.new ht),by rw[Q05];exact bo,?_⟩⟩))
     have et:(I.1.map (rankOf key by_)).take (ks++[V.ref t]).length=(I.1.map (rankOf key by_)).take ks.length++[rankOf key by_ (I.1.getD ks.length .nil)]:=by
      rw[Q05];show List.take (ks.length+1) _=_;rw[Q0x,Q0r,Q0d,Q02 (by omega)];rfl
     rw[et];refine uD (Paired.oH aT λk kl z=>?_) ⟨t,rfl,eF⟩;obtain⟨pp,e,hh⟩:=z;exact⟨pp,e,by rw[eu (eL hh ht)];exact hh⟩
   . rintro ks H3 ⟨s3,bU,aT⟩ bz
     have bV:(I.1.map (rankOf key by_)).take ks.length=I.1.map (rankOf key by_):=by
      rw[bz,aW,Q1e (by rw[Q03];exact Q00 _)]
     rw[bV] at aT;refine⟨_,aT,⟨if by_="" then [j8 (fs.get key)] else [j8 (fs.get by_),j8 (fs.get key)],by split <;> simp,λkl bW=>?_⟩,λp hp hs D hD=>?_⟩
     . obtain⟨m,hm,rfl⟩:=List.mem_map.mp bW;exact qQ (aJ m hm) aF be
     have ba:∀i∈p,i<vs.length:=λi hi=>by
      have:=hp.mem_iff.mp hi;simpa using this
     have bX:p.Perm (List.range I.1.length):=by rw[<-aW];exact hp
     have hz:(p.map λi=>I.1.getD i .nil)=gp key by_ I.1:=by
      refine pz (qX _ bX) ?_ bT;rw[Q2a] at hs ⊢;refine List.Pairwise.imp_of_mem (λ{i j} hi hj h=>?_) hs;have bY:=ba i hi;have bZ:=ba j hj
      have ge:∀i,i<vs.length->(I.1.map (rankOf key by_)).getD i []=rankOf key by_ (I.1.getD i .nil):=λi hi=>by
       rw[Q0d,Q0d,Q0r,Q02 (by omega)];rfl
      rw[ge i bY,ge j bZ] at h;exact h
     have ay:eU H3 vs I.1 fl:=eU.keep (Tu.of s3) U λcc _ o e=>s3 cc o e;have sD:Same H3 (upd H3 D (.lst (p.map λi=>vs.getD i .non))):=Same.new hD;have aU:eU (upd H3 D (.lst (p.map λi=>vs.getD i .non))) vs I.1 fl:=eU.keep (Tu.of sD) ay λcc _ o e=>sD cc o e;have bd:=A3.pick (a0:=V.non) (b0:=Ds.nil) (c0:=[]) aU p ba;have b1:(p.map λi=>fl.getD i []).Perm fl:=qX _ (by rw[<-bw];exact hp);have av:=Bg b1;have aB:H2 b=some (.lst [.int I.2]):=np b _ (by intro ps z;cases z) aC;have bp:D≠b:=λe=>by rw[e,s3 _ _ aB] at hD;cases hD
     have bq:D≠Pt:=λe=>by rw[e,s3 _ _ a9.1] at hD;cases hD
     have br:=s3.free hD
     have b2:H' D=none:=by
      cases e:H' D with
      |none=>rfl
      |some o=>rw[mono D o bq e] at br;cases br
     refine q (.ref D) _ (D::(p.map λi=>fl.getD i []).flatten) (λcc o nc e=>?_) (by rw[eu (Ne.symm bp)];exact s3 _ _ aB) (.inr ⟨c',a9.mono λcc o _ e=>sD _ _ (s3 _ _ e)⟩) ?_ ?_ ?_
     . have e1:=kp cc o nc e;exact sD _ _ (s3 _ _ (mono cc o (λz=>nc (.inr z)) e1))
     . unfold Own;exact⟨D,_,Zr rfl ⟨eF,rfl,by rw[<-hz];exact eU.own bd⟩⟩
     . refine List.nodup_cons.mpr ⟨λhm=>?_,av.nodup_iff.mpr aP⟩;obtain⟨o,eo⟩:=(eU.mu ay D (av.mem_iff.mp hm)).ex;rw[hD] at eo;cases eo
     . intro cc hc;rcases List.mem_cons.mp hc with z|z
       . rw[z];exact kp.pC (λe=>e.elim bp bq) b2
       . exact(au cc (av.mem_iff.mp z)).1
theorem HJ (k:Kd)(room:Nat):16<=mu k room:=by
 have:=k.j6
 cases k <;> simp only[mu,Kd.dep] at * <;> omega
noncomputable def σU (a b:Addr) (I:V) (room:Nat) (J U Y x4 x5:Option V):St:=[some (.ref a),some (.ref b),some I,some (.int room),J,U,Y,x4,x5]
theorem eO.ft {b P:Addr}{H₀ H H':Hp}{v:List (Key × V)}{d:Ds}{fp:List Addr}{n:Int}{J:Pos}{U:Str}(h:eO H v d fp)(x:fj b P H H')(Y:H b=some (.lst [.int n]))(hT:eY P J U H)(I:∃o,H₀ b=some o)(fr:∀c∈fp,H₀ c=none):eO H' v d fp:=by
 refine h.keep (fj.tu x Y hT) d λc hc o e=>x c o (λz=>?_) e;rcases z with z|z
 . obtain⟨o',e'⟩:=I;have:=fr c hc;rw[z,e'] at this;cases this
 . obtain⟨ps,hP⟩:=hT.tab;rcases eO.alive d h c hc with⟨xs,q⟩|⟨xs,q⟩ <;> rw[z,hP] at q <;> cases q
theorem eQ.ft {b P:Addr}{H₀ H H':Hp}{v:List V}{d:Ds}{fp:List Addr}{n:Int}{J:Pos}{U:Str}(h:eQ H v d fp)(x:fj b P H H')(Y:H b=some (.lst [.int n]))(hT:eY P J U H)(I:∃o,H₀ b=some o)(fr:∀c∈fp,H₀ c=none):eQ H' v d fp:=by
 refine h.keep (fj.tu x Y hT) d λc hc o e=>x c o (λz=>?_) e;rcases z with z|z
 . obtain⟨o',e'⟩:=I;have:=fr c hc;rw[z,e'] at this;cases this
 . obtain⟨ps,hP⟩:=hT.tab;rcases eQ.alive d h c hc with⟨xs,q⟩|⟨xs,q⟩ <;> rw[z,hP] at q <;> cases q
theorem fj.fresh {b P c:Addr}{H H':Hp}{n:Int}{I:Pos}{J:Str}(x:fj b P H H')(U:H' b=some (.lst [.int n]))(hT:eY P I J H')(h:H' c=none):H c=none:=by
 obtain⟨ps,Y⟩:=hT.tab;exact x.pC (λe=>e.elim (λz=>by rw[z,U] at h;cases h) λz=>by rw[z,Y] at h;cases h) h
theorem BF:fG XT XM (eX (top 37)):=fW
theorem HK {Pt:Addr}(T:Tb mg)(I:Dn K mg "_law_value" hZ (top 37) J U):eE P w K mg base eI (2 * 0+5) J U hZ (k_ K Pt 0):=by
 refine I.F.ok BF λvs H Q E h=>?_;obtain⟨a,b,ns,n,kv,k,room,rfl,g,hT,hk,hW,aa,Y,_⟩:=h;refine⟨rfl,λab A outer s nd hr hu=>?_⟩;exact absurd Y (by have:=HJ k room;omega)
theorem BG {G:Prop}(h:∀g:Prop,(G->g)->g):G:=h G id
theorem HL {Pt:Addr}(N:Nat)(T:Tb mg)(I:Dn K mg "_law_value" hZ (top 37) ab ac)(U:eE P w K mg base eI (2 * N+5) ab ac hZ (k_ K Pt N))(ap:Dn K mg "_law_rows" hZ (top 36) aq ar)(au:eE P w K mg base eI (2 * N+6) aq ar hZ (BB K Pt N))(ae:Dn K mg "_law_next" fo (top 27) av aw)(af:eE P w K mg base eI (1) av aw fo (lM K))(al:Dn K mg "_law_number" fo (top 28) am an)(ao:eE P w K mg base eI (2) am an fo (Bo K))(ax:Dn K mg "_law_word" fo (top 29) ay az)(aA:eE P w K mg base eI (2) ay az fo (Bp K)):
 eE P w K mg base eI (2 * (N+1)+5) ab ac hZ (k_ K Pt (N+1)):=by
 refine I.F.ok BF λvs H Q E h=>?_;obtain⟨a,b,ns,n,kv,k,room,rfl,g,hT,hk,hW,aa,a5,hn,q⟩:=h;refine⟨rfl,λbD A outer s nd hr hu=>?_⟩
 refine⟨_,(en (eR (eP fi (eK (pv 2) b_) fg (eM _)) (eG (eJ (eN ao hr al (a_ (pv 0) (a_ (pv 1) c_))))) eS)
  (en (eR (eP fi (eK (pv 2) b_) fg (eM _)) (eG (eJ (eN aA hr ax (a_ (pv 0) (a_ (pv 1) c_))))) eS)
  (en (eR (eP fi (eK (pv 2) b_) fg (eM _)) (en (eW 4 nd o8)
  (en (ie PassesOwn.never rfl (j2 (eK (pv 2) b_)) (i7 rfl (gQ (fQ (i:=5) nd rfl gq) (gQ (fQ (i:=6) nd rfl gq) i6))) (eG (mB hu (pv 4) (pv 5) (eN U hr I (a_ (pv 0) (a_ (pv 1) (a_ (pv 6) (a_ (pv 3) c_))))) rfl)))
  (eG (eJ (pv 4))))) eS)
  (en (eR (eP fi (eK (pv 2) b_) fg (eM _)) (eG (eJ (eN au hr ap (a_ (pv 0) (a_ (pv 1) (a_ (pv 2) (a_ (pv 3) c_))))))) eS)
  (en (eR (eP fi (eK (pv 2) b_) fg (eM _)) (en (eW 7 nd (eN U hr I (a_ (pv 0) (a_ (pv 1) (a_ (eK (pv 2) b_) (a_ (eB gm (pv 3) b_) c_))))))
  (en (eW 8 nd (eB fm (eN af hr ae (a_ (pv 0) (a_ (pv 1) c_))) (eB hX (pv 3) b_)))
  (eG (eJ (gc (a_ (pv 7) (a_ (lF (g:=(gX 0)) (tt:=kM) (te:=(jw _ _ _ (gy (fF 1) (gy (fF 2) (gy (fF 3) (gy (gI _ (fF 4) (tC (.int 2))) iu)))))) (own:=["_law_k"]) rfl (jb (N:=XT) (sc:=eX (top 37))) (kE rfl T.kW (a_ (pv 8) c_)) (λ_ _ _ _ _=>(fQ (i:=0) (show(["_law_k","_law_script","_law_at","_law_kind_here","_law_room","_law_made","_law_name","_law_inner","_law_top","_law_many"]:List Str).Nodup by decide +kernel) rfl (Or.inl rfl) (.inr rfl))) (λ_ _ _ _ _=>mC) (λ_ _ _ _ _=>(eN U hr I (a_ (pv 1) (a_ (pv 2) (a_ (pv 3) (a_ (eB gm (pv 4) b_) c_))))))) c_))))))) eS)
  (en (qr (eK (eK (pv 2) b_) (eB fm (eN af hr ae (a_ (pv 0) (a_ (pv 1) c_))) (fA gO (by rfl) T.gB PySem.boot_len (a_ (eK (pv 2) b_) c_)))) (i7 rfl (gQ (fQ (i:=5) nd rfl gq) (gQ (fQ (i:=6) nd rfl gq) i6))))
  (eG (eJ (gc (a_ (pv 5) (a_ (eN U hr I (a_ (pv 0) (a_ (pv 1) (a_ (pv 6) (a_ (pv 3) c_))))) c_))))))))))),?_⟩
 ac_rfl
 have hb:=g.at_;have bE:=g.pos;have aU:∃o,H b=some o:=⟨_,hb⟩;obtain⟨bF,hP⟩:=hT.tab;have e2:((room / 2:Nat):Int)=(room:Int) / 2:=by omega
 refine BG λzg hz=>?_
 cases k with
 |num=>
  unfold KA at hk;obtain⟨c,rfl,hc⟩:=hk;simp only[kc,Kd.cB] at hn;refine hz ?_;refine ik rfl hc rfl (by decide +kernel) ?_;refine(Zr rfl (Zr rfl ⟨a,b,ns,n,rfl,g,by omega,λH1 s1 h1=>?_⟩));have ev:val ns .num room n=(.int (num ns (n+1)),n+1):=by simp only[val]
  rw[ev] at q;exact q _ H1 [] (SB.ft s1) h1 (hT.sb hb s1) (by unfold Own;exact⟨rfl,rfl⟩) Q0w λc hc=>absurd hc (by simp)
 |fE=>
  unfold KA at hk;obtain⟨c,rfl,hc⟩:=hk;simp only[kc,Kd.cB] at hn;refine hz ?_;refine fU rfl hc rfl (by decide +kernel) ?_;refine ik rfl hc rfl (by decide +kernel) ?_;refine(Zr rfl (Zr rfl ⟨a,b,ns,n,rfl,g,by omega,λH1 s1 h1=>?_⟩));have ev:val ns .fE room n=(.str (fE ns (n+1)),n+1):=by simp only[val]
  rw[ev] at q;exact q _ H1 [] (SB.ft s1) h1 (hT.sb hb s1) (by unfold Own;exact⟨rfl,rfl⟩) Q0w λc hc=>absurd hc (by simp)
 |eZ fs=>
  unfold KA at hk;obtain⟨pk,pb,xs,rfl,Y,aD,aE⟩:=hk;unfold Kd.W at hW;obtain⟨a6,bg,aV⟩:=hW;refine hz ?_;refine fU rfl Y rfl (by decide +kernel) ?_;refine fU rfl Y rfl (by decide +kernel) ?_;refine ik rfl Y rfl (by decide +kernel) ?_;intro p hp;have a7:b≠p:=eL hb hp;have bh:Pt≠p:=eL hP hp;have s0:Same H (upd H p (.dK [])):=Same.new hp;have bi:val ns (.eZ fs) room n=(.dct (fc ns fs room n).1,(fc ns fs room n).2):=by simp only[val]
  rw[bi] at q;simp only[kc,Kd.cB] at hn
  refine(Zr rfl ⟨pk,_,_,Zr rfl ⟨rfl,d_.of (s0 _ _ Y),rfl,pb,rfl,⟨_,d_.of (s0 _ _ aD)⟩,mi (xs:=xs) (λi σ H'=>∃x2 x3 x4 x5 kvs fq,σ=σU a b (.ref pk) room (some (.ref p)) x2 x3 x4 x5/\fj b Pt H H'/\H' b=some (.lst [.int (fc ns (fs.take i) room n).2])/\eY Pt gU gW H'/\
   H' p=some (.dK kvs)/\eO H' kvs (fc ns (fs.take i) room n).1 fq/\fq.Nodup/\∀c∈fq,H c=none/\c≠p) ?_ ?_ ?_ ?_⟩⟩)
  . rw[Fs.take_zero];refine⟨_,_,_,_,[],[],rfl,Kp.of s0,by simp only[fc];exact s0 _ _ hb,hT.same s0,eF,?_,Q0w,λc hc=>absurd hc (by simp)⟩;simp only[fc];unfold eO;exact⟨rfl,rfl⟩
  . intro i σ H' _ zq;obtain⟨x2,x3,x4,x5,kvs,fq,rfl,kp,_⟩:=zq;exact d_.of (fj.tu kp hb hT _ _ aD)
  . intro i v σ H' hv zq;obtain⟨x2,x3,x4,x5,kvs,fq,rfl,kp,ag,ah,aJ,hO,aF,ai⟩:=zq;have a8:=fj.tu kp hb hT;obtain⟨c,u,nm,k,rfl,aj,hc,hk⟩:=FA.get fs aE hv;have cn:=nQ ns (fs.take i) room n aa;have cb:=Fs.BA aj;refine⟨c,Zr rfl ⟨d_.of (a8 _ _ hc),rfl,_,Zr rfl ⟨_,Zr rfl ⟨rfl,?_⟩⟩⟩⟩;refine(Zr rfl (Zr rfl (Zr rfl (Zr rfl ⟨a,b,ns,(fc ns (fs.take i) room n).2,u,k,room,rfl,fj.g0 kp g hT ag cn.1,ah,KA.mono a8 k hk,Fs.kU aV aj,aa,?_,by have:=uB k room;omega,?_⟩))))
    . have:mu k room<mu (.eZ fs) room:=uz (by have:=Fs.lG aj;simp only[Kd.dep];omega) aa;omega
    intro v2 H2 fp ft aG aH aB aC ak;have a9:H2 p=some (.dK kvs):=ft p _ (λz=>z.elim (Ne.symm a7) (Ne.symm bh)) aJ;have bj:=eO.ft hO ft ag ah aU λc hc=>(ai c hc).1;have bm:nm ∉ (fc ns (fs.take i) room n).1.names:=by rw[rA];exact Fs.HF a6 aj
    have bn:kvs.length<sizeLine:=by
     rw[eO.len hO,rA];have:(fs.take i).names.length<=fs.names.length:=by rw[Fs.uC,Q0l];omega
     exact gz (by omega)
    refine(Zr rfl (Zr rfl ⟨p,Zr rfl ⟨jx.k (k:=Sum.inr nm) a9 bn,?_⟩⟩));rw[pB (eO.Bf hO bm)];have ba:Mu H2 p:=.inr ⟨_,a9⟩;have bb:Tu H2 (upd H2 p (.dK (kvs++[(Sum.inr nm,v2)]))):=Tu.wr λys z=>ba.uf ys z
    have aP:∀c∈fp,H c=none/\c≠p:=λc hc=>by
     have z:=ak c hc;exact⟨fj.fresh kp ag ah z,λe=>by rw[e,aJ] at z;cases z⟩
    have sn:=Bw ns nm k room (fs.take i) n;rw[Fs.take_succ aj,sn];refine⟨_,_,_,_,_,fq++fp,rfl,λc o nc e=>?_,by rw[eu a7];exact aG,aH.wr ba,eF,?_,?_,?_⟩
    . rw[eu (eL e hp)];exact ft c o nc (kp c o nc e)
    . exact eO.snoc (aB.keep bb _ λc hc o e=>by rw[eu (aP c hc).2];exact e) _ (bj.keep bb _ λc hc o e=>by rw[eu (ai c hc).2];exact e)
    . refine List.nodup_append.mpr ⟨aF,aC,λc hc d hd=>?_⟩;intro e;subst e;obtain⟨o,eo⟩:=(eO.alive _ hO c hc).ex;rw[ak c hd] at eo;cases eo
    . intro c hc;rcases List.mem_append.mp hc with z|z
      . exact ai c z
      . exact aP c z
  . intro σ H' zq;obtain⟨x2,x3,x4,x5,kvs,fq,rfl,kp,ag,ah,aJ,hO,aF,ai⟩:=zq;rw[FA.len fs aE,Fs.take_all] at ag hO;refine(Zr rfl (q (.ref p) H' (p::fq) kp ag ah ?_ ?_ ?_))
    . unfold Own;exact⟨p,kvs,fq,rfl,aJ,rfl,hO⟩
    . exact List.nodup_cons.mpr ⟨λhm=>(ai p hm).2 rfl,aF⟩
    . intro c hc;rcases List.mem_cons.mp hc with z|z
      . rw[z];exact hp
      . exact(ai c z).1
 |rows key by_ fs=>
  have aW:=hk;unfold KA at hk;obtain⟨pk,pb,xs,rfl,Y,aD,aE⟩:=hk;simp only[kc] at hn;refine hz ?_;refine fU rfl Y rfl (by decide +kernel) ?_;refine fU rfl Y rfl (by decide +kernel) ?_;refine fU rfl Y rfl (by decide +kernel) ?_;refine ik rfl Y rfl (by decide +kernel) ?_;exact(Zr rfl (Zr rfl (Zr rfl (Zr rfl ⟨a,b,ns,n,_,key,by_,fs,room,rfl,g,hT,aW,hW,aa,a5,hn,q⟩))))
 |tree k=>
  have aW:=hk;unfold KA at hk;obtain⟨pk,u,rfl,Y,bo⟩:=hk;unfold Kd.W at hW;refine hz ?_;refine fU rfl Y rfl (by decide +kernel) ?_;refine fU rfl Y rfl (by decide +kernel) ?_;refine fU rfl Y rfl (by decide +kernel) ?_;refine fU rfl Y rfl (by decide +kernel) ?_;refine ik rfl Y rfl (by decide +kernel) ?_;have ev:=HA ns k room n aa;rw[ev] at q;simp only[kc,Kd.cB] at hn;have bG:k.cB+1<=(k.cB+1) * gr room:=Q39 _ (uA room).1
  have m1:mu k (room / 2)<=N:=by
   have:mu k (room / 2)<mu (.tree k) room:=uz (by simp only[Kd.dep];omega) (by omega);omega
  refine(Zr rfl (Zr rfl (Zr rfl ⟨pk,_,_,Zr rfl ⟨rfl,d_.of Y,rfl,Zr rfl ⟨_,Zr rfl ⟨rfl,⟨by decide,by decide⟩,a,b,ns,n,u,k,room / 2,(by rw[e2];rfl),g,hT,bo,hW,by omega,m1,by have:=uB k (room / 2);have:k.cB+1<=(k.cB+1) * gr room:=Q39 _ (uA room).1;omega,?_⟩⟩⟩⟩)));intro vt Ht aK aX aL bc bp bq aY;have ct:=lK ns k (room / 2) n (by omega);generalize bH:val ns k (room / 2) n=J at *;refine(Zr rfl (Zr rfl ⟨a,b,ns,J.2,rfl,fj.g0 aX g hT aL ct.1,by omega,λH1 s1 h1=>?_⟩));have g1:G0 K H1 a b ns (J.2+1):=(fj.g0 aX g hT aL ct.1).go s1 h1 (by omega);have aZ:=bc.sb aL s1;have k1:fj b Pt H H1:=aX.trans (SB.ft s1);have aQ:Own H1 vt J.1 aK:=bp.ft (SB.ft s1) aL bc aU aY;refine(Zr rfl ⟨_,Zr rfl ⟨rfl,_,Zr rfl ⟨rfl,by omega,?_⟩⟩⟩);have br:=Q0g (nx ns (J.2+1)) (show((room:Int)+1)≠0 by omega);have bt:=Q0h (nx ns (J.2+1)) (show(0:Int)<(room:Int)+1 by omega);have bu:=λm=>HE ns k (room / 2) m (by omega);have be:=λi=>ue (g:=val ns (.tree k) (room / 2)) (N:=(k.cB+1) * gr (room / 2)) bu i (J.2+1)
  refine(Zr rfl (Zr rfl (Zr rfl ⟨by omega,by omega,λi m ys H'=>m=(nx ns (J.2+1) % ((room:Int)+1)).toNat - i/\i<=(nx ns (J.2+1) % ((room:Int)+1)).toNat/\ys.length=i/\∃fq,fj b Pt H1 H'/\H' b=some (.lst [.int (times (val ns (.tree k) (room / 2)) i (J.2+1)).2])/\eY Pt gU gW H'/\
   eQ H' ys (times (val ns (.tree k) (room / 2)) i (J.2+1)).1 fq/\fq.Nodup/\∀c∈fq,H1 c=none,⟨(nx ns (J.2+1) % ((room:Int)+1)).toNat,rfl,Q04 _,rfl,[],Kp.refl _ _,h1,aZ,?_,Q0w,λc hc=>absurd hc (by simp)⟩,?_⟩)))
  . simp only[times];unfold eQ;exact⟨rfl,rfl⟩
  intro i m ys H' zq;obtain⟨rfl,bC,bv,fq,kp,ag,ah,hO,aF,ai⟩:=zq;by_cases hi:i<(nx ns (J.2+1) % ((room:Int)+1)).toNat
  . refine .inr ⟨hi,gz (by omega),λx bw y=>?_⟩;obtain⟨rfl,rfl⟩:=y;refine⟨rfl,yes (fv ?_)⟩;have bx:1<=room:=by omega
    have bI:=be i
    have bz:(times (val ns (.tree k) (room / 2)) i (J.2+1)).2+((k.cB+1) * gr (room / 2):Nat)<=1000000000000:=by
     have a1:=Q38 (k.cB+1) (HD bx aa);have a2:(k.cB+1) * (1+room * gr (room / 2))=(k.cB+1)+room * ((k.cB+1) * gr (room / 2)):=by rw[Nat.mul_add,Nat.mul_one,Q34]
     have a3:(i+1) * ((k.cB+1) * gr (room / 2))<=room * ((k.cB+1) * gr (room / 2)):=Q0z _ (by omega);have a4:(i+1) * ((k.cB+1) * gr (room / 2))=i * ((k.cB+1) * gr (room / 2))+(k.cB+1) * gr (room / 2):=Q1m _ _;omega
    have kA:fj b Pt H bw:=k1.trans kp;refine(Zr rfl (Zr rfl (Zr rfl (Zr rfl ⟨_,Zr rfl ⟨rfl,⟨by decide,by decide⟩,a,b,ns,(times (val ns (.tree k) (room / 2)) i (J.2+1)).2,.ref pk,.tree k,room / 2,(by rw[e2];rfl),fj.g0 kA g hT ag (by omega),ah,KA.mono (fj.tu kA hb hT) _ aW,(by unfold Kd.W;exact hW),by omega,(by simp only[mu] at a5 ⊢;omega),bz,?_⟩⟩))));intro v2 H2 fp ft aG aH aB aC ak;have sn:=Bx (val ns (.tree k) (room / 2)) i (J.2+1);refine⟨(nx ns (J.2+1) % ((room:Int)+1)).toNat - (i+1),by omega,rfl,hi,by rw[Q05,bv];rfl,fq++fp,kp.trans ft,by rw[sn];exact aG,aH,?_,?_,?_⟩
    . rw[sn];exact eQ.snoc aB _ (eQ.ft hO ft ag ah ⟨_,h1⟩ ai)
    . refine List.nodup_append.mpr ⟨aF,aC,λc hc d hd=>?_⟩;intro e;subst e;obtain⟨o,eo⟩:=(eQ.alive _ hO c hc).ex;rw[ak c hd] at eo;cases eo
    . intro c hc;rcases List.mem_append.mp hc with z|z
      . exact ai c z
      . exact fj.fresh kp ag ah (ak c z)
  . have ei:i=(nx ns (J.2+1) % ((room:Int)+1)).toNat:=by omega
    subst ei;refine .inl ⟨Q00 _,λpl aM=>⟨gn,λt ht=>?_⟩⟩;have sl:Same H' (upd H' pl (.lst ys)):=Same.new aM;have st:Same (upd H' pl (.lst ys)) (upd (upd H' pl (.lst ys)) t (.tup [vt,.ref pl])):=Same.new ht;have sa:=sl.trans st;have aT:Own H' vt J.1 aK:=aQ.ft kp h1 aZ aU aY;have kA:fj b Pt H H':=k1.trans kp;refine q (.ref t) _ (aK++(pl::fq)) (kA.trans (Kp.of sa)) (sa _ _ ag) (ah.same sa) ?_ ?_ ?_
    . unfold Own;refine⟨t,Zr rfl ⟨eF,?_⟩⟩;unfold eQ;refine⟨vt,[.ref pl],aK,pl::fq,rfl,rfl,Own.same sa aT,?_⟩;unfold eQ;refine⟨.ref pl,[],pl::fq,[],rfl,by simp,?_,by unfold eQ;exact⟨rfl,rfl⟩⟩;unfold Own;exact⟨pl,ys,fq,rfl,st _ _ eF,rfl,eQ.same sa hO⟩
    . refine List.nodup_append.mpr ⟨bq,List.nodup_cons.mpr ⟨λhm=>?_,aF⟩,λc hc d hd=>?_⟩
      . obtain⟨o,eo⟩:=(eQ.alive _ hO pl hm).ex;rw[aM] at eo;cases eo
      . intro e;subst e;rcases List.mem_cons.mp hd with z|z
        . obtain⟨o,eo⟩:=(Own.alive _ aT c hc).ex;rw[z,aM] at eo;cases eo
        . obtain⟨o,eo⟩:=(Own.alive _ aQ c hc).ex;rw[ai c z] at eo;cases eo
    . intro c hc;rcases List.mem_append.mp hc with z|z
      . exact aY c z
      . rcases List.mem_cons.mp z with y|y
        . rw[y];exact fj.fresh kA ag ah aM
        . exact fj.fresh k1 h1 aZ (ai c y)
 |gA fs=>
  unfold KA at hk;obtain⟨pk,pb,xs,rfl,Y,aD,aE⟩:=hk;unfold Kd.W at hW;obtain⟨a6,bg,bJ,aV⟩:=hW;refine hz ?_;refine fU rfl Y rfl (by decide +kernel) ?_;refine fU rfl Y rfl (by decide +kernel) ?_;refine fU rfl Y rfl (by decide +kernel) ?_;refine fU rfl Y rfl (by decide +kernel) ?_;refine fU rfl Y rfl (by decide +kernel) ?_;simp only[kc,Kd.cB] at hn;refine(Zr rfl ⟨pk,_,_,Zr rfl ⟨rfl,d_.of Y,rfl,Zr rfl (Zr rfl ⟨a,b,ns,n,rfl,g,by omega,λH1 s1 h1=>?_⟩)⟩⟩);have aI:=s1.tu hb;have bd:(xs.length:Int)=(fs.names.length:Int):=by rw[FA.len fs aE]
  have br:=Q0g (nx ns (n+1)) (show((fs.names.length:Int))≠0 by omega);have bt:=Q0h (nx ns (n+1)) (show(0:Int)<(fs.names.length:Int) by omega);obtain⟨nm,k,aj⟩:=Fs.t_ (fs:=fs) (i:=(nx ns (n+1) % (fs.names.length:Int)).toNat) (by omega);obtain⟨c,u,bA,hc,hk⟩:=FA.at aE aj
  have bB:gv xs (nx ns (n+1) % ((xs.length:Nat):Int))=some (.ref c):=by
   have e:nx ns (n+1) % ((xs.length:Nat):Int)=(((nx ns (n+1) % (fs.names.length:Int)).toNat:Nat):Int):=by rw[bd];omega
   rw[e];exact gY bA
  refine(Zr rfl ⟨pk,_,_,Zr rfl ⟨rfl,d_.of (aI _ _ Y),rfl,pb,Zr rfl ⟨.inr (d_.of (aI _ _ aD)),_,Zr rfl ⟨rfl,by rw[bd];omega,pb,_,_,Zr rfl ⟨rfl,d_.of (aI _ _ aD),bB,?_⟩⟩⟩⟩⟩);refine⟨c,Zr rfl ⟨d_.of (aI _ _ hc),rfl,_,Zr rfl ⟨_,Zr rfl ⟨rfl,?_⟩⟩⟩⟩
  have ev:val ns (.gA fs) room n=(pairD (.str nm) (val ns k room (n+1)).1,(val ns k room (n+1)).2):=by
   show h_ ns fs (nx ns (n+1) % (fs.names.length:Int)).toNat room (n+1)=_;exact By ns fs _ room (n+1) nm k aj
  rw[ev] at q;have cb:=Fs.Bz aj;refine(Zr rfl (Zr rfl (Zr rfl (Zr rfl (Zr rfl ⟨a,b,ns,n+1,u,k,room,rfl,g.go s1 h1 (by omega),hT.sb hb s1,KA.mono aI k hk,Fs.kU aV aj,aa,?_,by have:=uB k room;omega,?_⟩)))))
  . have:mu k room<mu (.gA fs) room:=uz (by have:=Fs.lG aj;simp only[Kd.dep];omega) aa;omega
  intro v2 H2 fp ft aG aH aB aC ak;have bf:fj b Pt H H2:=(SB.ft s1).trans ft;refine⟨gn,λt ht=>?_⟩;have st:Same H2 (upd H2 t (.tup [.str nm,v2])):=Same.new ht;refine q (.ref t) _ fp (bf.trans (Kp.of st)) (st _ _ aG) (aH.same st) ?_ aC λc hc=>fj.fresh (SB.ft s1) h1 (hT.sb hb s1) (ak c hc);unfold Own;refine⟨t,Zr rfl ⟨eF,?_⟩⟩;unfold eQ;refine⟨.str nm,[v2],[],fp,rfl,rfl,by unfold Own;exact⟨rfl,rfl⟩,?_⟩;unfold eQ;exact⟨v2,[],fp,[],rfl,by simp,Own.same st aB,by unfold eQ;exact⟨rfl,rfl⟩⟩
theorem uE {Pt c:Addr}{af:Addr}{ag:FuncData}(T:Tb mg)(J:Dn K mg "_law_value" hZ (top 37) ac ae)(Y:Dn K mg "_law_rows" hZ (top 36) al ah)(ai:ah.code=.ref c)(aq:W.CodeHd base c Pt)(ar:BM mg base)(I:Dn K mg "_law_next" fo (top 27) am an)(U:Dn K mg "_law_number" fo (top 28) aj ak)(aa:Dn K mg "_law_word" fo (top 29) ao ap)(ab:Dn K mg "_law_rank" k6 (top 35) af ag):∀N:Nat,eE P w K mg base eI (2 * N+5) ac ae hZ (k_ K Pt N)
 |0=>HK T J
 |N+1=>by
  have ih:=uE T J Y ai aq ar I U aa ab N;have Nx:=mV (P:=P) (w:=w) (base:=base) T I;have R:=HI N T Y ai aq ar I Nx ab (BC T ab) J ih;exact HL N T J ih Y R I Nx U (Hm T U I Nx) aa (Ho T aa I Nx)
mutual
def D.Sm:D->Prop
 | .int _=>True
 | .str _=>True
 | .non=>True
 | .boo _=>True
 | .tup xs=>xs.len<=100/\xs.Sm
 | .lst xs=>xs.len<=100/\xs.Sm
 | .dct m=>m.len<=100/\m.Sm
def Ds.Sm:Ds->Prop
 | .nil=>True
 | .cons _ d r=>d.Sm/\r.Sm
end
theorem Ds.uF:∀{xs:Ds}{i:Nat}{d:D},xs.Sm->xs.at i=some d->d.Sm
 | .nil,_,_,_,h=>by cases h
 | .cons _ d r,0,_,w,h=>by unfold Ds.Sm at w;cases h;exact w.1
 | .cons _ d r,i+1,_,w,h=>by unfold Ds.Sm at w;exact Ds.uF (xs:=r) (i:=i) w.2 h
theorem Ds.rE:∀{xs:Ds}{x:Str}{d:D},xs.Sm->xs.get x=some d->d.Sm
 | .nil,_,_,_,h=>by cases h
 | .cons y e r,x,d,w,h=>by
   unfold Ds.Sm at w;have h:(if x=y then some e else r.get x)=some d:=h;by_cases c:x=y
   . rw[if_pos c] at h;cases h;exact w.1
   . rw[if_neg c] at h;exact Ds.rE w.2 h
theorem mW:∀(m:Ds),m.names.length=m.len
 | .nil=>rfl
 | .cons _ _ r=>by show r.names.length+1=r.len+1;rw[mW r]
theorem pO:∀l:List Ds,(gh l).len=l.length
 |[]=>rfl
 |m::r=>by show(gh r).len+1=r.length+1;rw[pO r]
theorem rF:∀{l:List Ds},(∀m∈l,(D.dct m).Sm)->(gh l).Sm
 |[],_=>by unfold gh Ds.Sm;trivial
 |m::r,h=>by
  unfold gh Ds.Sm;exact⟨h m Q06,rF λx I=>h x (Q0b _ I)⟩
theorem uG:∀{l:List Ds},(gh l).Sm->∀m∈l,(D.dct m).Sm
 |[],_,m,I=>absurd I (by simp)
 |x::r,h,m,I=>by
  unfold gh Ds.Sm at h;rcases List.mem_cons.mp I with e|e
  . rw[e];exact h.1
  . exact uG h.2 m e
theorem uH:∀{l:List Ds},∀m∈l,m.dep+1<=(gh l).dep
 |[],m,I=>absurd I (by simp)
 |x::r,m,I=>by
  simp only[gh,Ds.dep,D.dep];rcases List.mem_cons.mp I with e|e
  . rw[e];omega
  . have:=uH (l:=r) m e;omega
theorem BH (g:Int->D × Int):∀(m:Nat) (n:Int),(times g m n).1.len=m
 |0,_=>rfl
 |m+1,n=>by show(times g m (g n).2).1.len+1=m+1;rw[BH g m]
theorem BI {g:Int->D × Int}(I:∀n,(g n).1.Sm):∀(m:Nat) (n:Int),(times g m n).1.Sm
 |0,_=>by unfold times Ds.Sm;trivial
 |m+1,n=>by
  unfold times Ds.Sm;exact⟨I n,BI I m _⟩
theorem BJ {a b:D}(h1:a.Sm)(h2:b.Sm):(pairD a b).Sm:=by
 unfold D.Sm;exact⟨by show 2<=100;decide,by unfold Ds.Sm;exact⟨h1,by unfold Ds.Sm;exact⟨h2,by unfold Ds.Sm;trivial⟩⟩⟩
theorem BK {ns:List Int}{f:Nat->Int->D × Int}(I:∀room n,room<8->(f room n).1.Sm):∀(fu room:Nat) (n:Int),room<8->(gP ns f fu room n).1.Sm
 |0,_,_,_=>by unfold gP D.Sm;trivial
 |fu+1,room,n,h=>by
  unfold gP;refine BJ (I _ _ (by omega)) ?_;unfold D.Sm;refine⟨?_,BI (λn=>BK I fu (room / 2) n (by omega)) _ _⟩;rw[BH];have:=mod_le (a:=nx ns ((f (room / 2) n).2+1)) h;omega
theorem uI {g:Int->Ds × Int}{key:Str}:∀(m:Nat) (I:List Ds) (n:Int),(f9 g key m I n).1.length<=I.length+m
 |0,I,n=>by simp[f9]
 |m+1,I,n=>by
  unfold f9;split
  . have:=uI (g:=g) (key:=key) m I (g n).2;omega
  . have:=uI (g:=g) (key:=key) m (I++[(g n).1]) (g n).2;rw[Q05] at this;have e:[(g n).1].length=1:=rfl;omega
mutual
theorem uJ (ns:List Int):∀(k:Kd),k.W->∀(room:Nat) (n:Int),room<8->(val ns k room n).1.Sm
 | .num,_,_,_,_=>by unfold val D.Sm;trivial
 | .fE,_,_,_,_=>by unfold val D.Sm;trivial
 | .eZ fs,w,room,n,h=>by
   unfold Kd.W at w;unfold val;exact rG ns fs w.2.2 room n h w.2.1
 | .rows key by_ fs,w,room,n,h=>by
   unfold Kd.W at w;unfold val D.Sm;refine⟨?_,rF λm I=>?_⟩
   . rw[pO,(iK key by_ _).length_eq];have:=uI (g:=fc ns fs (room / 2)) (key:=key) (nx ns (n+1) % ((room:Int)+1)).toNat [] (n+1);have e:=mod_le (a:=nx ns (n+1)) h;have U:([]:List Ds).length=0:=rfl;omega
   . exact nN (R:=λm=>(D.dct m).Sm) (λn=>rG ns fs w.2.2.1 (room / 2) n (by omega) w.2.1) _ _ _ (λr J=>absurd J (by simp)) m ((iK key by_ _).mem_iff.mp I)
 | .tree k,w,room,n,h=>by
   unfold Kd.W at w;unfold val;exact BK (λroom n h=>uJ ns k w room n h) 4 room n h
 | .gA fs,w,room,n,h=>by
   unfold Kd.W at w;unfold val;exact BL ns fs w.2.2.2 _ room _ h
theorem rG (ns:List Int):∀(fs:Fs),fs.W->∀(room:Nat) (n:Int),room<8->fs.names.length<=12->(D.dct (fc ns fs room n).1).Sm
 | .nil,_,_,_,_,_=>by
   unfold fc D.Sm;exact⟨by show 0<=100;omega,by unfold Ds.Sm;trivial⟩
 | .cons x k r,w,room,n,h,hl=>by
   unfold Fs.W at w;have hl:r.names.length+1<=12:=hl;have a:=uJ ns k w.1 room n h;have b:=rG ns r w.2.2 room (val ns k room n).2 h (by omega);unfold D.Sm at b;unfold fc D.Sm;refine⟨?_,by unfold Ds.Sm;exact⟨a,b.2⟩⟩;show(fc ns r room (val ns k room n).2).1.len+1<=100;rw[<-mW,rA];omega
theorem BL (ns:List Int):∀(fs:Fs),fs.W->∀(i room:Nat) (n:Int),room<8->(h_ ns fs i room n).1.Sm
 | .nil,_,_,_,_,_=>by unfold h_ D.Sm;trivial
 | .cons x k r,w,0,room,n,h=>by
   unfold Fs.W at w;unfold h_;exact BJ (by unfold D.Sm;trivial) (uJ ns k w.1 room n h)
 | .cons x k r,w,i+1,room,n,h=>by
   unfold Fs.W at w;unfold h_;exact BL ns r w.2.2 i room n h
end
theorem iG.at {P:D->Prop}:∀{xs:Ds}{i:Nat}{d:D},iG P xs->xs.at i=some d->Tree P d
 | .nil,_,_,_,h=>by cases h
 | .cons _ d r,0,_,w,h=>by unfold iG at w;cases h;exact w.1
 | .cons _ d r,i+1,_,w,h=>by unfold iG at w;exact iG.at (xs:=r) (i:=i) w.2 h
theorem Own.pair {H:Hp}{v:V}{x y:Str}{a b:D}{fp:List Addr}(h:Own H v (.tup (.cons x a (.cons y b .nil))) fp):∃c v1 I f1 J,v=.ref c/\H c=some (.tup [v1,I])/\fp=f1++J/\Own H v1 a f1/\Own H I b J:=by
 unfold Own at h;obtain⟨c,vs,rfl,hc,h⟩:=h;unfold eQ at h;obtain⟨v1,q,f1,J,rfl,rfl,U,h⟩:=h;unfold eQ at h;obtain⟨I,q2,g,f3,rfl,rfl,Y,h⟩:=h;unfold eQ at h;obtain⟨rfl,rfl⟩:=h;exact⟨c,v1,I,f1,g,rfl,hc,by simp,U,Y⟩
theorem BN:∀{l:List Ds}{i:Nat}{d:D},(gh l).at i=some d->∃m∈l,d=.dct m
 |[],_,_,h=>by cases h
 |m::r,0,_,h=>by cases h;exact⟨m,Q06,rfl⟩
 |m::r,i+1,d,h=>by
  obtain⟨I,h1,h2⟩:=BN (l:=r) (i:=i) h;exact⟨I,Q0b _ h1,h2⟩
noncomputable def jC:List Str->Kd->Option Kd
 |[],k=>some k
 |x::r,.eZ fs=>(fs.get x).bind (jC r)
 |_::_,_=>none
noncomputable def iA:List Str->D->Option D
 |[],d=>some d
 |x::r,.dct m=>(m.get x).bind (iA r)
 |_::_,_=>none
theorem uK {x:Str}{r:List Str}{k J:Kd}(h:jC (x::r) k=some J):∃fs I,k=.eZ fs/\fs.get x=some I/\jC r I=some J:=by
 cases k with
 |eZ fs=>
  have h:(fs.get x).bind (jC r)=some J:=h
  cases e:fs.get x with
  |none=>rw[e] at h;cases h
  |some I=>rw[e] at h;exact⟨fs,I,rfl,e,h⟩
 |_=>cases h
theorem BO {x:Str}{r:List Str}{d e:D}(h:iA (x::r) d=some e):∃m d',d=.dct m/\m.get x=some d'/\iA r d'=some e:=by
 cases d with
 |dct m=>
  have h:(m.get x).bind (iA r)=some e:=h
  cases c:m.get x with
  |none=>rw[c] at h;cases h
  |some d'=>rw[c] at h;exact⟨m,d',rfl,c,h⟩
 |_=>cases h
theorem rH:∀{ps:List Str}{k I:Kd}{d:D},eV k d->jC ps k=some I->∃e,iA ps d=some e/\eV I e
 |[],k,I,d,f,h=>by cases h;exact⟨d,rfl,f⟩
 |x::r,k,I,d,f,h=>by
  obtain⟨fs,k',rfl,h1,h2⟩:=uK h;unfold eV at f;obtain⟨m,rfl,f⟩:=f;obtain⟨d',J,U⟩:=f.get h1;obtain⟨e,Y,e2⟩:=rH U h2;refine⟨e,?_,e2⟩;show(m.get x).bind (iA r)=some e;rw[J];exact Y
theorem BP (ns:List Int):∀(fs:Fs) {x:Str}{k:Kd}(room:Nat) (n:Int),fs.get x=some k->∃n',(fc ns fs room n).1.get x=some (val ns k room n').1
 | .nil,_,_,_,_,h=>by cases h
 | .cons y q r,x,k,room,n,h=>by
   have h:(if x=y then some q else r.get x)=some k:=h;have I:fc ns (.cons y q r) room n=(.cons y (val ns q room n).1 (fc ns r room (val ns q room n).2).1,(fc ns r room (val ns q room n).2).2):=by simp only[fc]
   rw[I];by_cases e:x=y
   . rw[if_pos e] at h
     cases h;exact⟨n,by show(if x=y then some _ else _)=_;rw[if_pos e]⟩
   . rw[if_neg e] at h;obtain⟨n',g⟩:=BP ns r room (val ns q room n).2 h;exact⟨n',by show(if x=y then some _ else _)=_;rw[if_neg e];exact g⟩
theorem BQ (ns:List Int):∀{ps:List Str}{k I:Kd}(room:Nat) (n:Int),jC ps k=some I->∃n',iA ps (val ns k room n).1=some (val ns I room n').1
 |[],k,I,room,n,h=>by cases h;exact⟨n,rfl⟩
 |x::r,k,I,room,n,h=>by
  obtain⟨fs,Y,rfl,h1,h2⟩:=uK h;obtain⟨J,g⟩:=BP ns fs room n h1;obtain⟨n',g'⟩:=BQ ns room J h2;refine⟨n',?_⟩;have U:(val ns (.eZ fs) room n).1=.dct (fc ns fs room n).1:=by simp only[val]
  rw[U];show((fc ns fs room n).1.get x).bind (iA r)=_;rw[g];exact g'
inductive Lk where
 |nY (z:Int)
 |nZ (z:Int)
 |n9 (z:Str)
 |n_ (z:Str)
 |is (x:Str)
 |some_
noncomputable def Lk.tup (I:Addr):Lk->List V
 | .nY z=>[.str "less",.ref I,.int z]
 | .nZ z=>[.str "same",.ref I,.int z]
 | .n9 z=>[.str "less",.ref I,.str z]
 | .n_ z=>[.str "same",.ref I,.str z]
 | .is x=>[.str "is",.ref I,.str x]
 | .some_=>[.str "some",.ref I]
def Lk.ok:Lk->Kd->Prop
 | .nY _,k=>k=.num
 | .nZ _,k=>k=.num
 | .n9 _,k=>k=.fE
 | .n_ _,k=>k=.fE
 | .is x,k=>∃fs,k=.gA fs/\(fs.get x).isSome=true
 | .some_,k=>(∃key by_ fs,k=.rows key by_ fs)\/∃q,k=.tree q
noncomputable def Lk.b:Lk->D->Bool
 | .nY y,.int z=>decide (z<y)
 | .nZ y,.int z=>decide (V.int z=V.int y)
 | .n9 y,.str z=>decide (z.cps.toList<y.cps.toList)
 | .n_ y,.str z=>decide (V.str z=V.str y)
 | .is x,.tup (.cons _ (.str y) _)=>decide (V.str y=V.str x)
 | .some_,.lst xs=>decide ((0:Int)<(xs.len:Int))
 | .some_,.tup (.cons _ _ (.cons _ (.lst xs) _))=>decide ((0:Int)<(xs.len:Int))
 |_,_=>false
def rJ (d:D):Prop:=∀s,d=.str s->s.length<=100
inductive Lo where
 |leaf (ps:List Str) (lk:Lk)
 |not (x:Lo)
 |and (x y:Lo)
 |or (x y:Lo)
def fM (H:Hp):V->Lo->Prop
 |v,.leaf ps U=>∃l J,v=.ref l/\H l=some (.tup (Lk.tup J U))/\H J=some (.tup (ps.map V.str))
 |v,.not x=>∃l u,v=.ref l/\H l=some (.tup [.str "not",u])/\fM H u x
 |v,.and x y=>∃l u I,v=.ref l/\H l=some (.tup [.str "and",u,I])/\fM H u x/\fM H I y
 |v,.or x y=>∃l u I,v=.ref l/\H l=some (.tup [.str "or",u,I])/\fM H u x/\fM H I y
def Lo.ok (k:Kd):Lo->Prop
 | .leaf ps J=>∃I,jC ps k=some I/\J.ok I
 | .not x=>x.ok k
 | .and x y=>x.ok k/\y.ok k
 | .or x y=>x.ok k/\y.ok k
noncomputable def Lo.b (d:D):Lo->Bool
 | .leaf ps I=>match iA ps d with
   |some e=>I.b e
   |none=>false
 | .not x=> !x.b d
 | .and x y=>x.b d && y.b d
 | .or x y=>x.b d || y.b d
noncomputable def Lo.dp:Lo->Nat
 | .leaf _ _=>0
 | .not x=>x.dp+1
 | .and x y=>max x.dp y.dp+1
 | .or x y=>max x.dp y.dp+1
theorem fM.mono {H H':Hp}(t:Tu H H'):∀{v:V}(L:Lo),fM H v L->fM H' v L
 |v,.leaf ps Y,h=>by
  unfold fM at h ⊢;obtain⟨l,U,e,h1,h2⟩:=h;exact⟨l,U,e,t _ _ h1,t _ _ h2⟩
 |v,.not x,h=>by
  unfold fM at h ⊢;obtain⟨l,u,e,h1,h2⟩:=h;exact⟨l,u,e,t _ _ h1,fM.mono t x h2⟩
 |v,.and x y,h=>by
  unfold fM at h ⊢;obtain⟨l,u,I,e,h1,h2,J⟩:=h;exact⟨l,u,I,e,t _ _ h1,fM.mono t x h2,fM.mono t y J⟩
 |v,.or x y,h=>by
  unfold fM at h ⊢;obtain⟨l,u,I,e,h1,h2,J⟩:=h;exact⟨l,u,I,e,t _ _ h1,fM.mono t x h2,fM.mono t y J⟩
mutual
noncomputable def Kd.lf:Kd->Nat
 | .eZ fs=>fs.lf
 |_=>1
noncomputable def Fs.lf:Fs->Nat
 | .nil=>0
 | .cons _ k r=>k.lf+r.lf
end
mutual
theorem Kd.pP:∀(k:Kd) (d:Nat),k.W->k.dep<=d+1->k.lf<=12 ^ d
 | .num,d,_,_=>by show 1<=12 ^ d;exact Q1p _ _ (by decide)
 | .fE,d,_,_=>by show 1<=12 ^ d;exact Q1p _ _ (by decide)
 | .rows _ _ _,d,_,_=>by show 1<=12 ^ d;exact Q1p _ _ (by decide)
 | .tree _,d,_,_=>by show 1<=12 ^ d;exact Q1p _ _ (by decide)
 | .gA _,d,_,_=>by show 1<=12 ^ d;exact Q1p _ _ (by decide)
 | .eZ fs,0,_,h=>by
   simp only[Kd.dep] at h
   cases fs with
   |nil=>simp[Kd.lf,Fs.lf]
   |cons x k r=>have:=k.j6;simp only[Fs.dep] at h;omega
 | .eZ fs,d+1,w,h=>by
   unfold Kd.W at w;simp only[Kd.dep] at h;have h1:=Fs.pP fs d w.2.2 (by omega);have e:fs.names.length * 12 ^ d<=12 * 12 ^ d:=Q0z _ w.2.1;show fs.lf<=12 ^ (d+1);rw[Q2e,Nat.mul_comm];omega
theorem Fs.pP:∀(fs:Fs) (d:Nat),fs.W->fs.dep<=d+1->fs.lf<=fs.names.length * 12 ^ d
 | .nil,d,_,_=>by simp[Fs.lf,Fs.names]
 | .cons x k r,d,w,h=>by
   unfold Fs.W at w;simp only[Fs.dep] at h;have h1:=Kd.pP k d w.1 (by omega);have h2:=Fs.pP r d w.2.2 (by omega)
   have e:(Fs.cons x k r).names.length * 12 ^ d=r.names.length * 12 ^ d+12 ^ d:=by
    show(r.names.length+1) * 12 ^ d=_;rw[Nat.add_mul];simp
   rw[e];show k.lf+r.lf<=_;omega
end
noncomputable def Fs.jo:Fs->Nat->Nat
 | .nil,_=>0
 | .cons _ _ _,0=>0
 | .cons _ k r,i+1=>k.lf+r.jo i
theorem Fs.BR:∀{fs:Fs}{i:Nat}{x:Str}{k:Kd},fs.at i=some (x,k)->fs.jo (i+1)=fs.jo i+k.lf
 | .nil,_,_,_,h=>by cases h
 | .cons y q r,0,x,k,h=>by
   have e:some (y,q)=some (x,k):=h
   cases e;show q.lf+r.jo 0=0+q.lf
   cases r <;> simp[Fs.jo]
 | .cons y q r,i+1,x,k,h=>by
   have:=Fs.BR (fs:=r) (i:=i) h;show q.lf+r.jo (i+1)=q.lf+r.jo i+k.lf;omega
theorem Fs.BS:∀(fs:Fs) (i:Nat),fs.jo i<=fs.lf
 | .nil,_=>Q00 _
 | .cons _ _ _,0=>Q04 _
 | .cons _ k r,i+1=>by
   have:=Fs.BS r i;show k.lf+r.jo i<=k.lf+r.lf;omega
theorem Fs.BU:∀fs:Fs,fs.jo fs.names.length=fs.lf
 | .nil=>rfl
 | .cons x k r=>by
   show k.lf+r.jo r.names.length=k.lf+r.lf;rw[Fs.BU r]
theorem Fs.BV {x:Str}{k:Kd}(hp:j7 k):∀{fs:Fs},fs.get x=some k->1<=fs.lf
 | .nil,h=>by cases h
 | .cons y q r,h=>by
   have h:(if x=y then some q else r.get x)=some k:=h;show 1<=q.lf+r.lf;by_cases e:x=y
   . rw[if_pos e] at h
     cases h
     have:1<=k.lf:=by
      cases k with
      |num=>exact Q00 1
      |fE=>exact Q00 1
      |_=>exact hp.elim
     omega
   . rw[if_neg e] at h;have:=Fs.BV hp h;omega
end Pb
namespace L2
open Spec PyProof.Rows
theorem BW {X:Cx}:gH X (compareOp .Lt) (λx y H Q=>(∃i j,x=.int i/\y=.int j/\Q (.bl (decide (i<j))) H)\/∃i j,x=.str i/\y=.str j/\Q (.bl (decide (i.cps.toList<j.cps.toList))) H):=by
 intro pins s σ H x y v u Q I J U h;rcases h with h|h
 . exact oR pins s σ H x y v u Q I J U h
 . exact E3 pins s σ H x y v u Q I J U h
end L2
namespace Pb
open L2
def pQ:Sp:=λvs H Q _=>∃J v ps d fp e,vs=[.ref J,v]/\H J=some (.tup (ps.map V.str))/\Own H v d fp/\iA ps d=some e/\∀U I,Own H U e I->Q U H
def BX:Sp:=λvs H Q _=>∃l v U I J e fp,vs=[.ref l,v]/\H l=some (.tup (Lk.tup U I))/\I.ok J/\Own H v e fp/\eV J e/\Q (.bl (I.b e)) H
variable {P:Program}{w:World}{K:W.Frag}{mg:Str->Option Value}{base:Heap}
theorem HM:fG ["_law_path","_law_value_here","_law_name"] Xk (eX (top 40)):=fW
theorem BZ (T:Tb mg)(I:Dn K mg "_law_along" mQ (top 40) J U):eE P w K mg base eI (1) J U mQ (pQ):=by
 refine I.F.ok HM λvs H Q E h=>?_;obtain⟨pp,v,ps,d,fp,e,rfl,ab,hO,hA,q⟩:=h;refine⟨rfl,λaf A outer s nd hr hu=>?_⟩
 refine⟨_,(en (ie PassesOwn.never rfl (j2 (pv 0)) (fQ (i:=2) nd rfl gq) (eG (eW 1 nd (h9 hu (pv 1) (pv 2) (λ_ _=>rfl)))))
  (eG (eJ (pv 1)))),?_⟩
 ac_rfl
 refine(Zr rfl ⟨pp,rfl,⟨_,d_.of ab⟩,mi (xs:=ps.map V.str) (λi σ H'=>H'=H/\∃z v' d' f',σ=[some (.ref pp),some v',z]/\Own H v' d' f'/\iA (ps.drop i) d'=some e) ⟨rfl,_,_,_,Zr rfl ⟨hO,hA⟩⟩ ?_ ?_ ?_⟩)
 . rintro i σ H' _ ⟨rfl,_⟩;exact d_.of ab
 . intro i x σ H' hx zq;obtain⟨rfl,z,v',d',f',rfl,aa,Y⟩:=zq;rw[Q0r] at hx;obtain⟨y,hy,rfl⟩:=Option.map_eq_some_iff.mp hx;obtain⟨hi,rfl⟩:=List.getElem?_eq_some_iff.mp hy;rw[Q3a hi] at Y;obtain⟨m,d2,rfl,h1,h2⟩:=BO Y;unfold Own at aa;obtain⟨rr,kvs,fq,rfl,ac,rfl,ae⟩:=aa;obtain⟨v2,f2,g1,g2,_⟩:=eO.val m ae h1
   have gk:gf H' rr (.str ps[i]) (some v2):=by
    have:=gf.k (k:=Sum.inr ps[i]) ac;rw[g1] at this;exact this
   exact(Zr rfl (Zr rfl ⟨rr,Zr rfl ⟨gk,rfl,_,_,_,Zr rfl ⟨g2,h2⟩⟩⟩))
 . intro σ H' zq;obtain⟨rfl,z,v',d',f',rfl,aa,Y⟩:=zq;rw[Q03,Q3b] at Y
   cases Y;exact(Zr rfl (q _ _ aa))
theorem HN:fG ["path","value","there","name"] ["path","value"] (eX (top 22)):=fW
theorem HP (T:Tb mg)(I:Dn K mg "value_along" pG (top 22) J U):eE P w K mg base eI (1) J U pG (pQ):=by
 refine I.F.ok HN λvs H Q E h=>?_;obtain⟨pp,v,ps,d,fp,e,rfl,ab,hO,hA,q⟩:=h;refine⟨rfl,λaf A outer s nd hr hu=>?_⟩
 refine⟨_,(en (eW 2 nd (pv 1))
  (en (ie PassesOwn.never rfl (j2 (pv 0)) (fQ (i:=3) nd rfl gq) (eG (eW 2 nd (h9 hu (pv 2) (pv 3) (λ_ _=>rfl)))))
  (eG (eJ (pv 2))))),?_⟩
 ac_rfl
 refine(Zr rfl ?_);refine(Zr rfl ⟨pp,rfl,⟨_,d_.of ab⟩,mi (xs:=ps.map V.str) (λi σ H'=>H'=H/\∃y z v' d' f',σ=[some (.ref pp),y,some v',z]/\Own H v' d' f'/\iA (ps.drop i) d'=some e) ⟨rfl,_,_,_,_,Zr rfl ⟨hO,hA⟩⟩ ?_ ?_ ?_⟩)
 . rintro i σ H' _ ⟨rfl,_⟩;exact d_.of ab
 . intro i x σ H' hx zq;obtain⟨rfl,y0,z,v',d',f',rfl,aa,Y⟩:=zq;rw[Q0r] at hx;obtain⟨y,hy,rfl⟩:=Option.map_eq_some_iff.mp hx;obtain⟨hi,rfl⟩:=List.getElem?_eq_some_iff.mp hy;rw[Q3a hi] at Y;obtain⟨m,d2,rfl,h1,h2⟩:=BO Y;unfold Own at aa;obtain⟨rr,kvs,fq,rfl,ac,rfl,ae⟩:=aa;obtain⟨v2,f2,g1,g2,_⟩:=eO.val m ae h1
   have gk:gf H' rr (.str ps[i]) (some v2):=by
    have:=gf.k (k:=Sum.inr ps[i]) ac;rw[g1] at this;exact this
   exact(Zr rfl (Zr rfl ⟨rr,Zr rfl ⟨gk,rfl,_,_,_,_,Zr rfl ⟨g2,h2⟩⟩⟩))
 . intro σ H' zq;obtain⟨rfl,y0,z,v',d',f',rfl,aa,Y⟩:=zq;rw[Q03,Q3b] at Y
   cases Y;exact(Zr rfl (q _ _ aa))
theorem HQ:fG ["look","there","form","arms_or_rows"] ["look","there"] (eX (top 23)):=fW
theorem HS (T:Tb mg)(I:Dn K mg "holds_of" pH (top 23) J U):eE P w K mg base eI (1) J U pH (BX):=by
 refine I.F.ok HQ λvs H Q E h=>?_;obtain⟨l,v,pp,lk,kl,e,fp,rfl,hl,aa,Y,hF,q⟩:=h;refine⟨rfl,λae A outer s nd hr hu=>?_⟩
 refine⟨_,(en (eW 2 nd (eK (pv 0) b_))
  (en (eR (eP fi (pv 2) fg (eM _)) (eG (eJ (iO BW (pv 1) (eK (pv 0) b_) (eM _)))) eS)
  (en (eR (eP fi (pv 2) fg (eM _)) (eG (eJ (iO fi (pv 1) (eK (pv 0) b_) (eM _)))) eS)
  (en (eR (eP fi (pv 2) fg (eM _)) (eG (eJ (iO fi (eK (pv 1) b_) (eK (pv 0) b_) (eM _)))) eS)
  (en (eW 3 nd (sL (gN (fA iy (by rfl) T.iz boot_isinstance (a_ (pv 1) (a_ (iq (v:=.ty "list") rfl T.mM boot_list rfl) c_)))) (pv 1) (eK (pv 1) b_)))
  (eG (eJ (iO jP (fA gO (by rfl) T.gB PySem.boot_len (a_ (pv 3) c_)) b_ (eM _))))))))),?_⟩
 ac_rfl
 have lt:∀{a b:Str},(if decide (V.str a=V.str b)=true then True else False)=if a=b then True else False:=λ{a b}=>by simp
 cases lk with
 |nY y=>
  cases aa;unfold eV at hF;obtain⟨z,rfl⟩:=hF;unfold Own at Y;obtain⟨rfl,_⟩:=Y;refine(Zr rfl ⟨l,_,_,Zr rfl ⟨rfl,d_.of hl,rfl,?_⟩⟩);refine jj rfl (by decide +kernel) ?_;exact(Zr rfl (Zr rfl ⟨l,_,_,Zr rfl ⟨rfl,d_.of hl,rfl,.inl ⟨_,Zr rfl ⟨rfl,q⟩⟩⟩⟩))
 |n9 y=>
  cases aa;unfold eV at hF;obtain⟨z,rfl⟩:=hF;unfold Own at Y;obtain⟨rfl,_⟩:=Y;refine(Zr rfl ⟨l,_,_,Zr rfl ⟨rfl,d_.of hl,rfl,?_⟩⟩);refine jj rfl (by decide +kernel) ?_;exact(Zr rfl (Zr rfl ⟨l,_,_,Zr rfl ⟨rfl,d_.of hl,rfl,.inr ⟨_,Zr rfl ⟨rfl,q⟩⟩⟩⟩))
 |nZ y=>
  cases aa;unfold eV at hF;obtain⟨z,rfl⟩:=hF;unfold Own at Y;obtain⟨rfl,_⟩:=Y;refine(Zr rfl ⟨l,_,_,Zr rfl ⟨rfl,d_.of hl,rfl,?_⟩⟩);refine gR rfl (by decide +kernel) ?_;refine jj rfl (by decide +kernel) ?_;exact(Zr rfl (Zr rfl ⟨l,_,_,Zr rfl ⟨rfl,d_.of hl,rfl,rfl,q⟩⟩))
 |n_ y=>
  cases aa;unfold eV at hF;obtain⟨z,rfl⟩:=hF;unfold Own at Y;obtain⟨rfl,_⟩:=Y;refine(Zr rfl ⟨l,_,_,Zr rfl ⟨rfl,d_.of hl,rfl,?_⟩⟩);refine gR rfl (by decide +kernel) ?_;refine jj rfl (by decide +kernel) ?_;exact(Zr rfl (Zr rfl ⟨l,_,_,Zr rfl ⟨rfl,d_.of hl,rfl,rfl,q⟩⟩))
 |is x=>
  obtain⟨fs,rfl,_⟩:=aa;unfold eV at hF;obtain⟨y,u,rfl,_⟩:=hF;unfold pairD Own at Y;obtain⟨t,vs,rfl,ht,hL⟩:=Y;unfold eQ at hL;obtain⟨v1,r1,f1,f2,rfl,_,g1,g2⟩:=hL;unfold Own at g1;obtain⟨rfl,_⟩:=g1;refine(Zr rfl ⟨l,_,_,Zr rfl ⟨rfl,d_.of hl,rfl,?_⟩⟩);refine gR rfl (by decide +kernel) ?_;refine gR rfl (by decide +kernel) ?_;refine jj rfl (by decide +kernel) ?_;exact(Zr rfl ⟨t,_,_,Zr rfl ⟨rfl,d_.of ht,gY (j:=0) rfl,Zr rfl ⟨l,_,_,Zr rfl ⟨rfl,d_.of hl,rfl,rfl,q⟩⟩⟩⟩)
 |some_=>
  refine(Zr rfl ⟨l,_,_,Zr rfl ⟨rfl,d_.of hl,rfl,?_⟩⟩);refine gR rfl (by decide +kernel) ?_;refine gR rfl (by decide +kernel) ?_;refine gR rfl (by decide +kernel) ?_;rcases aa with⟨key,by_,fs,rfl⟩|⟨qq,rfl⟩
  . unfold eV at hF;obtain⟨rs,rfl,_⟩:=hF;unfold Own at Y;obtain⟨t,vs,fq,rfl,ht,_,hL⟩:=Y;have ab:=eQ.len _ hL;refine(Zr rfl ⟨_,_,_,true,rfl,.lst ht,rfl,true,rfl,fv (Zr rfl ?_)⟩);refine(Zr rfl ⟨t,Zr rfl ⟨.inl (eA.of ht),_,Zr rfl ⟨rfl,?_⟩⟩⟩);rw[ab];exact q
  . unfold eV at hF;obtain⟨x1,x2,t0,as,rfl,_,_⟩:=hF.shape;unfold Own at Y;obtain⟨t,vs,rfl,ht,hL⟩:=Y;unfold eQ at hL;obtain⟨v1,r1,f1,f2,rfl,_,g1,g2⟩:=hL;unfold eQ at g2;obtain⟨v2,r2,f3,f4,rfl,_,g3,g4⟩:=g2;unfold Own at g3;obtain⟨t2,af,fq,rfl,lg,_,ac⟩:=g3;have ab:=eQ.len _ ac;refine(Zr rfl ⟨_,_,_,false,rfl,.tup ht,rfl,false,rfl,fk (Zr rfl ⟨t,_,_,Zr rfl ⟨rfl,d_.of ht,gY (j:=1) rfl,?_⟩⟩)⟩);refine(Zr rfl ⟨t2,Zr rfl ⟨.inl (eA.of lg),_,Zr rfl ⟨rfl,?_⟩⟩⟩);rw[ab];exact q
theorem Lk.B0 (I:Addr)(J:Lk):(Lk.tup I J)[1]? =some (.ref I):=by cases J <;> rfl
theorem Lk.B1 (J:Addr)(I:Lk):∃nm,(Lk.tup J I)[0]? =some (.str nm)/\decide (V.str nm=V.str "not")=false/\decide (V.str nm=V.str "and")=false/\decide (V.str nm=V.str "or")=false:=by
 cases I <;> exact(Zr rfl ⟨by decide +kernel,by decide +kernel,by decide +kernel⟩)
def j_ (n:Nat):Sp:=λvs H Q _=>∃lv v L k d fp,vs=[lv,v]/\fM H lv L/\L.ok k/\Own H v d fp/\eV k d/\L.dp<n/\Q (.bl (L.b d)) H
theorem rK:∀vs H Q E,¬j_ 0 vs H Q E:=λvs H Q E h=>by
 obtain⟨_,_,L,_,_,_,_,_,_,_,_,I,_⟩:=h;omega
theorem B2 {ps:List Str}{I:Lk}{d e:D}(h:iA ps d=some e):Lo.b d (.leaf ps I)=I.b e:=by
 show(match iA ps d with|some e=>I.b e|none=>false)=_;rw[h]
theorem HU:fG ["look","value","form"] ["look","value"] (eX (top 21)):=fW
theorem HV (n:Nat)(T:Tb mg)(I:Dn K mg "holds" mR (top 21) ac ae)(J:eE P w K mg base eI (n+2) ac ae mR (j_ n))(U:Dn K mg "value_along" pG (top 22) Y aa)(ab:eE P w K mg base eI (1) Y aa pG (pQ))(af:Dn K mg "holds_of" pH (top 23) ag ah)(ai:eE P w K mg base eI (1) ag ah pH (BX)):eE P w K mg base eI ((n+1)+2) ac ae mR (j_ (n+1)):=by
 refine I.F.ok HU λvs H Q E h=>?_;obtain⟨lv,v,L,k,d,fp,rfl,hL,aj,hO,hF,al,q⟩:=h;refine⟨rfl,λau A outer s nd hr hu=>?_⟩
 refine⟨_,(en (eW 2 nd (eK (pv 0) b_))
  (en (eR (eP fi (pv 2) fg (eM _)) (eG (eJ (qj (eN J hr I (a_ (eK (pv 0) b_) (a_ (pv 1) c_)))))) eS)
  (en (eR (eP fi (pv 2) fg (eM _)) (eG (eJ (lB (eN J hr I (a_ (eK (pv 0) b_) (a_ (pv 1) c_))) (ku (eN J hr I (a_ (eK (pv 0) b_) (a_ (pv 1) c_))))))) eS)
  (en (eR (eP fi (pv 2) fg (eM _)) (eG (eJ (zC (eN J hr I (a_ (eK (pv 0) b_) (a_ (pv 1) c_))) (ku (eN J hr I (a_ (eK (pv 0) b_) (a_ (pv 1) c_))))))) eS)
  (eG (eJ (eN ai hr af (a_ (pv 0) (a_ (eN ab hr U (a_ (eK (pv 0) b_) (a_ (pv 1) c_))) c_))))))))),?_⟩
 ac_rfl
 cases L with
 |leaf ps lk=>
  unfold fM at hL;obtain⟨l,pp,rfl,hl,am⟩:=hL;obtain⟨kl,an,ao⟩:=aj;obtain⟨e,hA,ap⟩:=rH hF an;rw[B2 hA] at q;obtain⟨nm,n0,n1,n2,n3⟩:=Lk.B1 pp lk;refine(Zr rfl ⟨l,_,_,Zr rfl ⟨rfl,d_.of hl,gY (j:=0) n0,?_⟩⟩);refine gR rfl n1 ?_;refine gR rfl n2 ?_;refine gR rfl n3 ?_;exact(Zr rfl (Zr rfl ⟨l,_,_,Zr rfl ⟨rfl,d_.of hl,gY (j:=1) (Lk.B0 pp lk),Zr rfl ⟨pp,v,ps,d,fp,e,rfl,am,hO,hA,λv' aq ar=>⟨l,v',pp,lk,kl,e,aq,rfl,hl,ao,ar,ap,q⟩⟩⟩⟩))
 |not x=>
  unfold fM at hL;obtain⟨l,u,rfl,hl,hx⟩:=hL;simp only[Lo.dp] at al;refine(Zr rfl ⟨l,_,_,Zr rfl ⟨rfl,d_.of hl,rfl,?_⟩⟩);refine jj rfl (by decide +kernel) ?_;exact(Zr rfl ⟨l,_,_,Zr rfl ⟨rfl,d_.of hl,rfl,Zr rfl ⟨u,v,x,k,d,fp,rfl,hx,aj,hO,hF,by omega,Zr rfl q⟩⟩⟩)
 |and x y=>
  unfold fM at hL;obtain⟨l,u,u',rfl,hl,hx,hy⟩:=hL;simp only[Lo.dp] at al;refine(Zr rfl ⟨l,_,_,Zr rfl ⟨rfl,d_.of hl,rfl,?_⟩⟩);refine gR rfl (by decide +kernel) ?_;refine jj rfl (by decide +kernel) ?_;refine(Zr rfl ⟨l,_,_,Zr rfl ⟨rfl,d_.of hl,rfl,Zr rfl ⟨u,v,x,k,d,fp,rfl,hx,aj.1,hO,hF,by omega,Zr rfl ?_⟩⟩⟩);have q:Q (.bl (x.b d && y.b d)) H:=q
  cases ak:x.b d with
  |true=>
   rw[ak] at q;exact fv (Zr rfl ⟨l,_,_,Zr rfl ⟨rfl,d_.of hl,rfl,Zr rfl ⟨u',v,y,k,d,fp,rfl,hy,aj.2,hO,hF,by omega,q⟩⟩⟩)
  |false=>
   rw[ak] at q;exact fk q
 |or x y=>
  unfold fM at hL;obtain⟨l,u,u',rfl,hl,hx,hy⟩:=hL;simp only[Lo.dp] at al;refine(Zr rfl ⟨l,_,_,Zr rfl ⟨rfl,d_.of hl,rfl,?_⟩⟩);refine gR rfl (by decide +kernel) ?_;refine gR rfl (by decide +kernel) ?_;refine jj rfl (by decide +kernel) ?_;refine(Zr rfl ⟨l,_,_,Zr rfl ⟨rfl,d_.of hl,rfl,Zr rfl ⟨u,v,x,k,d,fp,rfl,hx,aj.1,hO,hF,by omega,Zr rfl ?_⟩⟩⟩);have q:Q (.bl (x.b d || y.b d)) H:=q
  cases ak:x.b d with
  |true=>
   rw[ak] at q;exact fv q
  |false=>
   rw[ak] at q;exact fk (Zr rfl ⟨l,_,_,Zr rfl ⟨rfl,d_.of hl,rfl,Zr rfl ⟨u',v,y,k,d,fp,rfl,hy,aj.2,hO,hF,by omega,q⟩⟩⟩)
theorem B3 (T:Tb mg)(U:Dn K mg "holds" mR (top 21) Y aa)(I:Dn K mg "value_along" pG (top 22) ab ac)(J:Dn K mg "holds_of" pH (top 23) ae af):∀n:Nat,eE P w K mg base eI (n+2) Y aa mR (j_ n)
 |0=>⟨λvs H Q E h=>absurd h (rK vs H Q E),λA outer s H args us vs Q E _ _ _ _ h=>absurd h (rK vs H Q E)⟩
 |n+1=>HV n T U (B3 T U I J n) I (HP T I) J (HS T J)
theorem HW:fG ["_law_look_here","_law_value_here","_law_there"] Xg (eX (top 45)):=fW
theorem HX (n:Nat)(T:Tb mg)(I:Dn K mg "_law_true" k7 (top 45) U Y)(J:eE P w K mg base eI (n+2) U Y k7 (j_ n))(aa:Dn K mg "_law_along" mQ (top 40) ab ac)(ae:eE P w K mg base eI (1) ab ac mQ (pQ)):eE P w K mg base eI ((n+1)+2) U Y k7 (j_ (n+1)):=by
 refine I.F.ok HW λvs H Q E h=>?_;obtain⟨lv,v,L,k,d,fp,rfl,hL,af,ag,ah,al,q⟩:=h;refine⟨rfl,λap A outer s nd hr hu=>?_⟩
 refine⟨_,(en (eR (eP fi (eK (pv 0) b_) fg (eM _)) (eG (eJ (qj (eN J hr I (a_ (eK (pv 0) b_) (a_ (pv 1) c_)))))) eS)
  (en (eR (eP fi (eK (pv 0) b_) fg (eM _)) (eG (eJ (lB (eN J hr I (a_ (eK (pv 0) b_) (a_ (pv 1) c_))) (ku (eN J hr I (a_ (eK (pv 0) b_) (a_ (pv 1) c_))))))) eS)
  (en (eR (eP fi (eK (pv 0) b_) fg (eM _)) (eG (eJ (zC (eN J hr I (a_ (eK (pv 0) b_) (a_ (pv 1) c_))) (ku (eN J hr I (a_ (eK (pv 0) b_) (a_ (pv 1) c_))))))) eS)
  (en (eW 2 nd (eN ae hr aa (a_ (eK (pv 0) b_) (a_ (pv 1) c_))))
  (en (eR (eP fi (eK (pv 0) b_) fg (eM _)) (eG (eJ (iO BW (pv 2) (eK (pv 0) b_) (eM _)))) eS)
  (en (eR (eP fi (eK (pv 0) b_) fg (eM _)) (eG (eJ (iO fi (pv 2) (eK (pv 0) b_) (eM _)))) eS)
  (en (eR (eP fi (eK (pv 0) b_) fg (eM _)) (eG (eJ (iO fi (eK (pv 2) b_) (eK (pv 0) b_) (eM _)))) eS)
  (en (eR (gN (fA iy (by rfl) T.iz boot_isinstance (a_ (pv 2) (a_ (iq (v:=.ty "tuple") rfl T.pF boot_tuple rfl) c_)))) (eG (eJ (iO jP (fA gO (by rfl) T.gB PySem.boot_len (a_ (eK (pv 2) b_) c_)) b_ (eM _)))) eS)
  (eG (eJ (iO jP (fA gO (by rfl) T.gB PySem.boot_len (a_ (pv 2) c_)) b_ (eM _)))))))))))),?_⟩
 ac_rfl
 cases L with
 |leaf ps lk=>
  unfold fM at hL;obtain⟨l,pp,rfl,hl,am⟩:=hL;obtain⟨kl,an,ai⟩:=af;obtain⟨e,hA,hF⟩:=rH ah an;rw[B2 hA] at q;obtain⟨nm,n0,n1,n2,n3⟩:=Lk.B1 pp lk;refine fU rfl hl n0 n1 ?_;refine fU rfl hl n0 n2 ?_;refine fU rfl hl n0 n3 ?_;refine(Zr rfl ⟨l,_,_,Zr rfl ⟨rfl,d_.of hl,gY (j:=1) (Lk.B0 pp lk),Zr rfl ⟨pp,v,ps,d,fp,e,rfl,am,ag,hA,λv' aq hO=>?_⟩⟩⟩)
  cases lk with
  |nY y=>
   cases ai;unfold eV at hF;obtain⟨z,rfl⟩:=hF;unfold Own at hO;obtain⟨rfl,_⟩:=hO;refine ik rfl hl rfl (by decide +kernel) ?_;exact(Zr rfl (Zr rfl ⟨l,_,_,Zr rfl ⟨rfl,d_.of hl,rfl,.inl ⟨_,Zr rfl ⟨rfl,q⟩⟩⟩⟩))
  |n9 y=>
   cases ai;unfold eV at hF;obtain⟨z,rfl⟩:=hF;unfold Own at hO;obtain⟨rfl,_⟩:=hO;refine ik rfl hl rfl (by decide +kernel) ?_;exact(Zr rfl (Zr rfl ⟨l,_,_,Zr rfl ⟨rfl,d_.of hl,rfl,.inr ⟨_,Zr rfl ⟨rfl,q⟩⟩⟩⟩))
  |nZ y=>
   cases ai;unfold eV at hF;obtain⟨z,rfl⟩:=hF;unfold Own at hO;obtain⟨rfl,_⟩:=hO;refine fU rfl hl rfl (by decide +kernel) ?_;refine ik rfl hl rfl (by decide +kernel) ?_;exact(Zr rfl (Zr rfl ⟨l,_,_,Zr rfl ⟨rfl,d_.of hl,rfl,rfl,q⟩⟩))
  |n_ y=>
   cases ai;unfold eV at hF;obtain⟨z,rfl⟩:=hF;unfold Own at hO;obtain⟨rfl,_⟩:=hO;refine fU rfl hl rfl (by decide +kernel) ?_;refine ik rfl hl rfl (by decide +kernel) ?_;exact(Zr rfl (Zr rfl ⟨l,_,_,Zr rfl ⟨rfl,d_.of hl,rfl,rfl,q⟩⟩))
  |is x=>
   obtain⟨fs,rfl,_⟩:=ai;unfold eV at hF;obtain⟨y,u,rfl,_⟩:=hF;unfold pairD Own at hO;obtain⟨t,vs,rfl,ht,hL⟩:=hO;unfold eQ at hL;obtain⟨v1,r1,f1,f2,rfl,_,g1,g2⟩:=hL;unfold Own at g1;obtain⟨rfl,_⟩:=g1;refine fU rfl hl rfl (by decide +kernel) ?_;refine fU rfl hl rfl (by decide +kernel) ?_;refine ik rfl hl rfl (by decide +kernel) ?_;exact(Zr rfl ⟨t,_,_,Zr rfl ⟨rfl,d_.of ht,gY (j:=0) rfl,Zr rfl ⟨l,_,_,Zr rfl ⟨rfl,d_.of hl,rfl,rfl,q⟩⟩⟩⟩)
  |some_=>
   refine fU rfl hl rfl (by decide +kernel) ?_;refine fU rfl hl rfl (by decide +kernel) ?_;refine fU rfl hl rfl (by decide +kernel) ?_;rcases ai with⟨key,by_,fs,rfl⟩|⟨qq,rfl⟩
   . unfold eV at hF;obtain⟨rs,rfl,_⟩:=hF;unfold Own at hO;obtain⟨t,vs,fq,rfl,ht,_,hL⟩:=hO;have ak:=eQ.len _ hL;refine(Zr rfl ⟨_,_,_,false,rfl,.lst ht,rfl,false,rfl,fk ?_⟩);refine(Zr rfl ⟨t,Zr rfl ⟨.inl (eA.of ht),_,Zr rfl ⟨rfl,?_⟩⟩⟩);rw[ak];exact q
   . unfold eV at hF;obtain⟨x1,x2,t0,as,rfl,_,_⟩:=hF.shape;unfold Own at hO;obtain⟨t,vs,rfl,ht,hL⟩:=hO;unfold eQ at hL;obtain⟨v1,r1,f1,f2,rfl,_,g1,g2⟩:=hL;unfold eQ at g2;obtain⟨v2,r2,f3,f4,rfl,_,g3,g4⟩:=g2;unfold Own at g3;obtain⟨t2,ar,fq,rfl,lg,_,ao⟩:=g3;have ak:=eQ.len _ ao;refine(Zr rfl ⟨_,_,_,true,rfl,.tup ht,rfl,true,rfl,fv ?_⟩);refine(Zr rfl ⟨t,_,_,Zr rfl ⟨rfl,d_.of ht,gY (j:=1) rfl,t2,Zr rfl ⟨.inl (eA.of lg),_,Zr rfl ⟨rfl,?_⟩⟩⟩⟩);rw[ak];exact q
 |not x=>
  unfold fM at hL;obtain⟨l,u,rfl,hl,hx⟩:=hL;simp only[Lo.dp] at al;refine ik rfl hl rfl (by decide +kernel) ?_;exact(Zr rfl ⟨l,_,_,Zr rfl ⟨rfl,d_.of hl,rfl,Zr rfl ⟨u,v,x,k,d,fp,rfl,hx,af,ag,ah,by omega,Zr rfl q⟩⟩⟩)
 |and x y=>
  unfold fM at hL;obtain⟨l,u,u',rfl,hl,hx,hy⟩:=hL;simp only[Lo.dp] at al;refine fU rfl hl rfl (by decide +kernel) ?_;refine ik rfl hl rfl (by decide +kernel) ?_;refine(Zr rfl ⟨l,_,_,Zr rfl ⟨rfl,d_.of hl,rfl,Zr rfl ⟨u,v,x,k,d,fp,rfl,hx,af.1,ag,ah,by omega,Zr rfl ?_⟩⟩⟩);have q:Q (.bl (x.b d && y.b d)) H:=q
  cases aj:x.b d with
  |true=>
   rw[aj] at q;exact fv (Zr rfl ⟨l,_,_,Zr rfl ⟨rfl,d_.of hl,rfl,Zr rfl ⟨u',v,y,k,d,fp,rfl,hy,af.2,ag,ah,by omega,q⟩⟩⟩)
  |false=>
   rw[aj] at q;exact fk q
 |or x y=>
  unfold fM at hL;obtain⟨l,u,u',rfl,hl,hx,hy⟩:=hL;simp only[Lo.dp] at al;refine fU rfl hl rfl (by decide +kernel) ?_;refine fU rfl hl rfl (by decide +kernel) ?_;refine ik rfl hl rfl (by decide +kernel) ?_;refine(Zr rfl ⟨l,_,_,Zr rfl ⟨rfl,d_.of hl,rfl,Zr rfl ⟨u,v,x,k,d,fp,rfl,hx,af.1,ag,ah,by omega,Zr rfl ?_⟩⟩⟩);have q:Q (.bl (x.b d || y.b d)) H:=q
  cases aj:x.b d with
  |true=>
   rw[aj] at q;exact fv q
  |false=>
   rw[aj] at q;exact fk (Zr rfl ⟨l,_,_,Zr rfl ⟨rfl,d_.of hl,rfl,Zr rfl ⟨u',v,y,k,d,fp,rfl,hy,af.2,ag,ah,by omega,q⟩⟩⟩)
theorem B4 (T:Tb mg)(J:Dn K mg "_law_true" k7 (top 45) U Y)(I:Dn K mg "_law_along" mQ (top 40) aa ab):∀n:Nat,eE P w K mg base eI (n+2) U Y k7 (j_ n)
 |0=>⟨λvs H Q E h=>absurd h (rK vs H Q E),λA outer s H args us vs Q E _ _ _ _ h=>absurd h (rK vs H Q E)⟩
 |n+1=>HX n T J (B4 T J I n) I (BZ T I)
theorem HY {α:Type}{l:List α}(h:l≠[]):∃c,gv l (-1)=some c:=by
 have hl:0<l.length:=List.length_pos_iff.mpr h;unfold gv jQ;rw[if_neg (by omega),if_pos (by omega)];have e:((-1:Int)+(l.length:Int)).toNat=l.length - 1:=by omega
 refine⟨l[l.length - 1]'(by omega),?_⟩;show l[((-1:Int)+(l.length:Int)).toNat]? =_;rw[e];exact Q02 (by omega)
def B5 (K:W.Frag) (Pt:Addr):Sp:=λvs H Q _=>∃a b ns n I k v e,vs=[.ref a,.ref b,I,v]/\G0 K H a b ns n/\eY Pt gU gW H/\KA H I k/\j7 k/\Own H v e []/\eV k e/\rJ e/\n+2<=1000000000000/\
 ∀J U (n':Int) H',fj b Pt H H'->H' b=some (.lst [.int n'])->n<=n'->n'<=n+2->eY Pt gU gW H'->Own H' J U []->eV k U->Q J H'
def B6 (K:W.Frag) (Pt:Addr):Sp:=λvs H Q _=>∃a b ns n pl J U I v ps d fp e,vs=[.ref a,.ref b,.ref pl,v]/\G0 K H a b ns n/\eY Pt gU gW H/\H pl=some (.tup [.ref J,U])/\H J=some (.tup (ps.map V.str))/\KA H U I/\I.W/\(∀fs,I≠ .eZ fs)/\Own H v d fp/\(∀c∈fp,c≠b)/\iA ps d=some e/\eV I e/\rJ e/\n+3<=1000000000000/\
 ∀l Y (n':Int) H',fj b Pt H H'->H' b=some (.lst [.int n'])->n<=n'->n'<=n+3->eY Pt gU gW H'->H' l=some (.tup (Lk.tup J Y))->Y.ok I->Q (.ref l) H'
theorem HZ:fG ["_law_script","_law_at","_law_kind_here","_law_there","_law_m"] XW (eX (top 42)):=fW
theorem H_ {Pt:Addr}(T:Tb mg)(I:Dn K mg "_law_thing" q_ (top 42) J U)(ae:Dn K mg "_law_next" fo (top 27) af ag)(ah:eE P w K mg base eI (1) af ag fo (jn K))(Y:Dn K mg "_law_value" hZ (top 37) aa ab)(ac:eE P w K mg base eI (2 * 20+5) aa ab hZ (k_ K Pt 20)):eE P w K mg base eI (46) J U q_ (B5 K Pt):=by
 refine I.F.ok HZ λvs H Q E h=>?_;obtain⟨a,b,ns,n,kv,k,v,e,rfl,g,hT,hk,hp,hO,hF,hS,hn,q⟩:=h;refine⟨rfl,λay A outer s nd hr hu=>?_⟩
 refine⟨_,(en (eW 4 nd (eN ah hr ae (a_ (pv 0) (a_ (pv 1) c_))))
  (en (eR (eP fi (eB fm (pv 4) b_) b_ (eM _)) (eG (eJ (eN ac hr Y (a_ (pv 0) (a_ (pv 1) (a_ (pv 2) (a_ b_ c_))))))) eS)
  (en (eR (eP fi (eK (pv 2) b_) fg (eM _)) (eG (eJ (eB jv (eB hX (pv 3) (eB fm (eB gm (pv 4) b_) b_)) b_))) eS)
  (en (eR (PW.pt (ic (eP fi (eB fm (eB gm (pv 4) b_) b_) b_ (eM _)) (ib (eP jP (fA Af (by rfl) T.gB PySem.boot_len (a_ (pv 3) c_)) b_ (eM _))))) (eG (eJ (pv 3))) eS)
  (en (eR (eP fi (eB fm (eB gm (pv 4) b_) b_) b_ (eM _)) (eG (eJ (eB mq (pv 3) fg))) eS)
  (en (eR (PW.pt (ic (eP fi (eB fm (eB gm (pv 4) b_) b_) b_ (eM _)) (ib (eP fi (pv 3) fg (eM _))))) (eG (eJ (iS qE (pv 3) iQ (iR (qu qy b_))))) eS)
  (eG (eJ (eB mq (iS qE (pv 3) iQ (iR (qu qy b_))) (gK (fY (a_ fg (a_ fg c_))) (oU E4 (by rfl) T.uk boot_int (a_ (iO fi (kI nB (pv 3) (qu qy b_) (λ_ _=>rfl)) fg (eM _)) c_)))))))))))),?_⟩
 ac_rfl
 refine(Zr rfl (Zr rfl ⟨a,b,ns,n,rfl,g,by omega,λr H1 r0 r1 s1 h1=>?_⟩));have hb:=g.at_;have g1:=g.go s1 h1 (by omega);have am:=hT.sb hb s1;have ak:=KA.mono (s1.tu hb) k hk;have hW:k.W:=by cases k <;> first|exact hp.elim|(unfold Kd.W;trivial)
 have ao:mu k 0<=20:=by cases k <;> first|exact hp.elim|(simp only[mu,Kd.dep];omega)
 have az:kc k 0=1:=by cases k <;> first|exact hp.elim|simp only[kc,Kd.cB]
 refine(Zr rfl ⟨_,Zr rfl ⟨rfl,(by show(0:Int)<_;decide),rfl,Zr rfl (fJ (λc=>?_) (λc=>?_))⟩⟩)
 . refine(Zr rfl (Zr rfl (Zr rfl ⟨a,b,ns,n+1,kv,k,0,rfl,g1,am,ak,hW,by decide,ao,by omega,λv' H2 fp ft ap aq aj aA aB=>?_⟩)));have hc:=lK ns k 0 (n+1) (by decide);have aC:k.cB=1:=by cases k <;> first|exact hp.elim|simp only[Kd.cB]
   have ar:fp=[]:=by
    have hf:=mL ns k hW 0 (n+1) (by decide)
    cases k with
    |num=>unfold eV at hf;obtain⟨z,e'⟩:=hf;rw[e'] at aj;unfold Own at aj;exact aj.2
    |fE=>unfold eV at hf;obtain⟨z,e'⟩:=hf;rw[e'] at aj;unfold Own at aj;exact aj.2
    |_=>exact hp.elim
   subst ar;exact q v' _ _ H2 ((SB.ft s1).trans ft) ap (by omega) (by omega) aq aj (mL ns k hW 0 (n+1) (by decide))
 . have fin:∀(v':V) (e':D),Own H1 v' e' []->eV k e'->Q v' H1:=λv' e' ho hf=>q v' e' (n+1) H1 (SB.ft s1) h1 (by omega) (by omega) am ho hf
   cases k with
   |num=>
    unfold KA at ak;obtain⟨cc,rfl,an⟩:=ak;unfold eV at hF;obtain⟨z,rfl⟩:=hF;unfold Own at hO;obtain⟨rfl,_⟩:=hO;refine ik rfl an rfl (by decide +kernel) ?_;refine(Zr rfl (Zr rfl ⟨_,Zr rfl ⟨rfl,⟨by decide,by decide⟩,_,Zr rfl ⟨rfl,(by show(0:Int)<_;decide),_,Zr rfl ⟨rfl,_,Zr rfl ⟨rfl,?_⟩⟩⟩⟩⟩));exact fin _ (.int _) (by unfold Own;exact⟨rfl,rfl⟩) (by unfold eV;exact⟨_,rfl⟩)
   |fE=>
    unfold KA at ak;obtain⟨cc,rfl,an⟩:=ak;unfold eV at hF;obtain⟨z,rfl⟩:=hF;unfold Own at hO;obtain⟨rfl,_⟩:=hO;have hz:z.length<=100:=hS z rfl;have al:z.length<=sizeLine:=Q0k (gz (by omega));have ai:∀s:Str,Q (.str s) H1:=λs=>fin _ (.str s) (by unfold Own;exact⟨rfl,rfl⟩) (by unfold eV;exact⟨_,rfl⟩);refine fU rfl an rfl (by decide +kernel) ?_;refine(Zr rfl ⟨_,Zr rfl ⟨rfl,⟨by decide,by decide⟩,_,Zr rfl ⟨rfl,(by show(0:Int)<_;decide),rfl,Zr rfl (fJ (λc1=>?_) (λc1=>?_))⟩⟩⟩)
    . exact(Zr rfl (ai _))
    refine(Zr rfl (Zr rfl ⟨al,_,Zr rfl ⟨rfl,Zr rfl (fJ (λc2=>?_) (λc2=>?_))⟩⟩))
    . exact(Zr rfl (ai _))
    refine(Zr rfl ⟨_,Zr rfl ⟨rfl,⟨by decide,by decide⟩,_,Zr rfl ⟨rfl,(by show(0:Int)<_;decide),rfl,Zr rfl (fJ (λc3=>?_) (λc3=>?_))⟩⟩⟩)
    . exact(Zr rfl ⟨_,Zr rfl ⟨rfl,Q0k (gz (by show z.length+1<=1000;omega)),ai _⟩⟩)
    refine(Zr rfl ⟨_,Zr rfl ⟨rfl,⟨by decide,by decide⟩,_,Zr rfl ⟨rfl,(by show(0:Int)<_;decide),rfl,Zr rfl (fJ (λc4=>?_) (λc4=>?_))⟩⟩⟩)
    . exact(Zr rfl (Zr rfl (Zr rfl (Zr rfl ⟨al,ai _⟩))))
    refine(Zr rfl ⟨rfl,Zr rfl (fJ (λc5=>?_) (λc5=>?_))⟩)
    . exact(Zr rfl (Zr rfl (Zr rfl (Zr rfl ⟨al,ai _⟩))))
    have au:z.cps.toList≠[]:=λw=>c5 (decide_eq_true (by
     have:z="":=by
      have e1:z.cps=#[]:=by rw[<-Array.toList_eq_nil_iff];exact w
      cases z;cases e1;rfl
     rw[this]))
    obtain⟨ch,av⟩:=HY au
    have aw:∀bb:Bool,∃s:Str,gv [V.str "a",V.str "B"] (if bb then 1 else 0)=some (.str s)/\s.length=1:=λbb=>by
     cases bb
     . exact⟨"a",rfl,rfl⟩
     . exact⟨"B",rfl,rfl⟩
    obtain⟨s,hs,ax⟩:=aw (decide (V.str ⟨#[ch]⟩=V.str "a"));refine(Zr rfl (Zr rfl (Zr rfl (Zr rfl ⟨al,gn,λp hp=>?_⟩))));have st:Same H1 (upd H1 p (.lst [.str "a",.str "B"])):=Same.new hp;refine(Zr rfl (Zr rfl ⟨_,_,ch,rfl,rfl,al,av,rfl,.inr (Zr rfl ⟨p,_,_,Zr rfl ⟨rfl,eA.of eF,hs,_,Zr rfl ⟨rfl,?_,?_⟩⟩⟩)⟩))
    . have:=Txt.slice_le z none (some (-1));exact Q0k (gz (by rw[ax];omega))
    . exact q _ (.str _) (n+1) _ ((SB.ft s1).trans (Kp.of st)) (st _ _ h1) (by omega) (by omega) (am.same st) (by unfold Own;exact⟨rfl,rfl⟩) (by unfold eV;exact⟨_,rfl⟩)
   |_=>exact hp.elim
theorem Ia:fG ["_law_script","_law_at","_law_place","_law_value_here","_law_path","_law_kind_here","_law_m","_law_thing_here"] XU (eX (top 43)):=fW
theorem Ib {Pt:Addr}(T:Tb mg)(Y:Dn K mg "_law_simple" ra (top 43) aa ab)(al:Dn K mg "_law_next" fo (top 27) am an)(ao:eE P w K mg base eI (1) am an fo (jn K))(ac:Dn K mg "_law_thing" q_ (top 42) ae af)(ag:eE P w K mg base eI (46) ae af q_ (B5 K Pt))(ah:Dn K mg "_law_along" mQ (top 40) ai aj)(ak:eE P w K mg base eI (1) ai aj mQ (pQ)):eE P w K mg base eI (47) aa ab ra (B6 K Pt):=by
 refine Y.F.ok Ia λvs H Q E h=>?_;obtain⟨a,b,ns,n,pl,pp,kv,kl,v,ps,d,fp,e,rfl,g,hT,aH,aI,hk,hW,aJ,hO,aK,hA,hF,hS,hn,q⟩:=h;refine⟨rfl,λaT A outer s nd hr hu=>?_⟩
 refine⟨_,(en (qr (pv 2) (i7 rfl (gQ (fQ (i:=4) nd rfl gq) (gQ (fQ (i:=5) nd rfl gq) i6))))
  (en (eW 6 nd (eN ao hr al (a_ (pv 0) (a_ (pv 1) c_))))
  (en (eR (eP fi (eK (pv 5) b_) fg (eM _)) (eG (eJ (gc (a_ fg (a_ (pv 4) (a_ (eK (eK (eK (pv 5) b_) (eB fm (pv 6) (fA gO (by rfl) T.gB PySem.boot_len (a_ (eK (pv 5) b_) c_)))) b_) c_)))))) eS)
  (en (eR (PW.pt (ic (eP fi (eK (pv 5) b_) fg (eM _)) (ib (eP fi (eK (pv 5) b_) fg (eM _))))) (eG (eJ (gc (a_ fg (a_ (pv 4) c_))))) eS)
  (en (eW 7 nd (eN ag hr ac (a_ (pv 0) (a_ (pv 1) (a_ (pv 5) (a_ (eN ak hr ah (a_ (pv 4) (a_ (pv 3) c_))) c_))))))
  (eG (eJ (gc (a_ (gK (fY (a_ fg (a_ fg c_))) (eB fm (pv 6) b_)) (a_ (pv 4) (a_ (pv 7) c_))))))))))),?_⟩
 ac_rfl
 have hb:=g.at_;refine(Zr rfl ⟨pl,Zr rfl ⟨d_.of aH,rfl,_,Zr rfl ⟨_,Zr rfl ⟨rfl,?_⟩⟩⟩⟩);refine(Zr rfl (Zr rfl ⟨a,b,ns,n,rfl,g,by omega,λr H1 r0 r1 s1 h1=>?_⟩));have g1:=g.go s1 h1 (by omega);have aw:=hT.sb hb s1;have ay:=s1.tu hb;have U:=KA.mono ay kl hk;have aC:Own H1 v d fp:=hO.keep ay d λc hc o e=>s1 c o (aK c hc) e;have ax:=ay _ _ aI
 have some_:∀t,H1 t=none->(Lk.some_).ok kl->Q (.ref t) (upd H1 t (.tup [.str "some",.ref pp])):=λt ht aL=>by
  have st:Same H1 (upd H1 t (.tup [.str "some",.ref pp])):=Same.new ht;exact q t .some_ (n+1) _ ((SB.ft s1).trans (Kp.of st)) (st _ _ h1) (by omega) (by omega) (aw.same st) eF aL
 cases kl with
 |eZ fs=>exact absurd rfl (aJ fs)
 |gA fs=>
  unfold KA at U;obtain⟨pk,pb,xs,rfl,I,az,aA⟩:=U;unfold Kd.W at hW;obtain⟨aM,aU,aV,aW⟩:=hW;refine ik rfl I rfl (by decide +kernel) ?_;have aD:(xs.length:Int)=(fs.names.length:Int):=by rw[FA.len fs aA]
  have aE:=Q0g r (show((fs.names.length:Int))≠0 by omega);have aF:=Q0h r (show(0:Int)<(fs.names.length:Int) by omega);obtain⟨nm,k,aG⟩:=Fs.t_ (fs:=fs) (i:=(r % (fs.names.length:Int)).toNat) (by omega);obtain⟨c,u,aP,hc,aX⟩:=FA.at aA aG
  have J:gv xs (r % ((xs.length:Nat):Int))=some (.ref c):=by
   have e:r % ((xs.length:Nat):Int)=(((r % (fs.names.length:Int)).toNat:Nat):Int):=by rw[aD];omega
   rw[e];exact gY aP
  refine(Zr rfl (Zr rfl ⟨pk,_,_,Zr rfl ⟨rfl,d_.of I,rfl,Zr rfl (Zr rfl ⟨pk,_,_,Zr rfl ⟨rfl,d_.of I,rfl,pb,Zr rfl ⟨.inr (d_.of az),_,Zr rfl ⟨rfl,by rw[aD];omega,pb,_,_,Zr rfl ⟨rfl,d_.of az,J,c,_,_,Zr rfl ⟨rfl,d_.of hc,rfl,mO,λt ht=>?_⟩⟩⟩⟩⟩⟩)⟩⟩));have st:Same H1 (upd H1 t (.tup [.str "is",.ref pp,.str nm])):=Same.new ht;exact q t (.is nm) (n+1) _ ((SB.ft s1).trans (Kp.of st)) (st _ _ h1) (by omega) (by omega) (aw.same st) eF ⟨fs,rfl,by rw[Fs.jU aM aG];rfl⟩
 |rows key by_ fs=>
  unfold KA at U;obtain⟨pk,pb,xs,rfl,I,az,aA⟩:=U;refine fU rfl I rfl (by decide +kernel) ?_;refine(Zr rfl ⟨pk,_,_,Zr rfl ⟨rfl,d_.of I,rfl,rfl,Zr rfl ?_⟩⟩);rw[show decide (V.str "rows"=V.str "rows")=true by decide +kernel];exact fv (Zr rfl ⟨gn,λt ht=>some_ t ht (.inl ⟨_,_,_,rfl⟩)⟩)
 |tree k=>
  unfold KA at U;obtain⟨pk,u,rfl,I,aY⟩:=U;refine fU rfl I rfl (by decide +kernel) ?_;refine(Zr rfl ⟨pk,_,_,Zr rfl ⟨rfl,d_.of I,rfl,rfl,Zr rfl ?_⟩⟩);rw[show decide (V.str "tree"=V.str "rows")=false by decide +kernel];refine fk (Zr rfl ⟨pk,_,_,Zr rfl ⟨rfl,d_.of I,rfl,rfl,Zr rfl ?_⟩⟩);rw[show decide (V.str "tree"=V.str "tree")=true by decide +kernel];exact fv (Zr rfl ⟨gn,λt ht=>some_ t ht (.inr ⟨_,rfl⟩)⟩)
 |num=>
  have av:=U;unfold KA at U;obtain⟨pk,rfl,I⟩:=U;refine fU rfl I rfl (by decide +kernel) ?_;refine(Zr rfl ⟨pk,_,_,Zr rfl ⟨rfl,d_.of I,rfl,rfl,Zr rfl ?_⟩⟩);rw[show decide (V.str "number"=V.str "rows")=false by decide +kernel];refine fk (Zr rfl ⟨pk,_,_,Zr rfl ⟨rfl,d_.of I,rfl,rfl,Zr rfl ?_⟩⟩);rw[show decide (V.str "number"=V.str "tree")=false by decide +kernel];refine fk ?_;refine(Zr rfl (Zr rfl (Zr rfl (Zr rfl (Zr rfl ⟨pp,v,ps,d,fp,e,rfl,ax,aC,hA,λv1 aQ ap=>?_⟩)))))
  have aB:Own H1 v1 e []:=by
   unfold eV at hF;obtain⟨z,rfl⟩:=hF;unfold Own at ap ⊢;exact⟨ap.1,rfl⟩
  refine⟨a,b,ns,n+1,.ref pk,.num,v1,e,rfl,g1,aw,av,trivial,aB,hF,hS,by omega,λv' e' n' H2 ft aq w1 w2 ar au lh=>?_⟩;unfold eV at lh;obtain⟨z,rfl⟩:=lh;unfold Own at au;obtain⟨rfl,_⟩:=au;refine⟨gn,λp hp=>?_⟩;have sp:Same H2 (upd H2 p (.lst [.str "less",.str "same"])):=Same.new hp;have aE:=Q0g r (show(2:Int)≠0 by decide);have aF:=Q0h r (show(0:Int)<2 by decide)
  have J:gv [V.str "less",V.str "same"] (r % 2)=some (.str "less")\/gv [V.str "less",V.str "same"] (r % 2)=some (.str "same"):=by
   have:r % 2=0\/r % 2=1:=by omega
   rcases this with e|e <;> rw[e]
   . exact .inl rfl
   . exact .inr rfl
  rcases J with J|J
  . refine(Zr rfl ⟨_,Zr rfl ⟨rfl,(by show(0:Int)<_;decide),p,_,_,Zr rfl ⟨rfl,eA.of eF,J,Zr rfl (Zr rfl ⟨mO,λt ht=>?_⟩)⟩⟩⟩);have st:=sp.trans (Same.new (o:=.tup [.str "less",.ref pp,.int z]) ht);exact q t (.nY z) n' _ (((SB.ft s1).trans ft).trans (Kp.of st)) (st _ _ aq) (by omega) (by omega) (ar.same st) eF rfl
  . refine(Zr rfl ⟨_,Zr rfl ⟨rfl,(by show(0:Int)<_;decide),p,_,_,Zr rfl ⟨rfl,eA.of eF,J,Zr rfl (Zr rfl ⟨mO,λt ht=>?_⟩)⟩⟩⟩);have st:=sp.trans (Same.new (o:=.tup [.str "same",.ref pp,.int z]) ht);exact q t (.nZ z) n' _ (((SB.ft s1).trans ft).trans (Kp.of st)) (st _ _ aq) (by omega) (by omega) (ar.same st) eF rfl
 |fE=>
  have av:=U;unfold KA at U;obtain⟨pk,rfl,I⟩:=U;refine fU rfl I rfl (by decide +kernel) ?_;refine(Zr rfl ⟨pk,_,_,Zr rfl ⟨rfl,d_.of I,rfl,rfl,Zr rfl ?_⟩⟩);rw[show decide (V.str "word"=V.str "rows")=false by decide +kernel];refine fk (Zr rfl ⟨pk,_,_,Zr rfl ⟨rfl,d_.of I,rfl,rfl,Zr rfl ?_⟩⟩);rw[show decide (V.str "word"=V.str "tree")=false by decide +kernel];refine fk ?_;refine(Zr rfl (Zr rfl (Zr rfl (Zr rfl (Zr rfl ⟨pp,v,ps,d,fp,e,rfl,ax,aC,hA,λv1 aQ ap=>?_⟩)))))
  have aB:Own H1 v1 e []:=by
   unfold eV at hF;obtain⟨z,rfl⟩:=hF;unfold Own at ap ⊢;exact⟨ap.1,rfl⟩
  refine⟨a,b,ns,n+1,.ref pk,.fE,v1,e,rfl,g1,aw,av,trivial,aB,hF,hS,by omega,λv' e' n' H2 ft aq w1 w2 ar au lh=>?_⟩;unfold eV at lh;obtain⟨z,rfl⟩:=lh;unfold Own at au;obtain⟨rfl,_⟩:=au;refine⟨gn,λp hp=>?_⟩;have sp:Same H2 (upd H2 p (.lst [.str "less",.str "same"])):=Same.new hp;have aE:=Q0g r (show(2:Int)≠0 by decide);have aF:=Q0h r (show(0:Int)<2 by decide)
  have J:gv [V.str "less",V.str "same"] (r % 2)=some (.str "less")\/gv [V.str "less",V.str "same"] (r % 2)=some (.str "same"):=by
   have:r % 2=0\/r % 2=1:=by omega
   rcases this with e|e <;> rw[e]
   . exact .inl rfl
   . exact .inr rfl
  rcases J with J|J
  . refine(Zr rfl ⟨_,Zr rfl ⟨rfl,(by show(0:Int)<_;decide),p,_,_,Zr rfl ⟨rfl,eA.of eF,J,Zr rfl (Zr rfl ⟨mO,λt ht=>?_⟩)⟩⟩⟩);have st:=sp.trans (Same.new (o:=.tup [.str "less",.ref pp,.str z]) ht);exact q t (.n9 z) n' _ (((SB.ft s1).trans ft).trans (Kp.of st)) (st _ _ aq) (by omega) (by omega) (ar.same st) eF rfl
  . refine(Zr rfl ⟨_,Zr rfl ⟨rfl,(by show(0:Int)<_;decide),p,_,_,Zr rfl ⟨rfl,eA.of eF,J,Zr rfl (Zr rfl ⟨mO,λt ht=>?_⟩)⟩⟩⟩);have st:=sp.trans (Same.new (o:=.tup [.str "same",.ref pp,.str z]) ht);exact q t (.n_ z) n' _ (((SB.ft s1).trans ft).trans (Kp.of st)) (st _ _ aq) (by omega) (by omega) (ar.same st) eF rfl
end Pb
namespace L2
open Spec PyProof.Rows
theorem Ic {prog:Program}{w:World}{A:Around}{E:Value->Shared->Prop}{s:Shared}{t b:Addr}{vs ws:List Value}{Q:Value->Shared->Prop}(ht:IsTup s.heap t vs.toArray)(hb:IsTup s.heap b ws.toArray)(hv:vs=[])(h0:Q (.ref b) s):wpAny (model prog w) A (binaryOp .Add (.ref t) (.ref b)) Q E s:=by
 obtain⟨⟨cls,dd,data,sl⟩,ho,hc,n,hd⟩:=id ht;obtain⟨⟨ab,Y,data2,aa⟩,I,J,n2,U⟩:=id hb;simp only at hc hd J U;subst hc hd J U
 exact concat_meets ⟨_,ho,rfl⟩ ⟨_,I,rfl⟩ noFill_tuple_add seq_tuple_add PySem.F.slot_tuple_add PySem.F.entry_tuple_add (PySem.F.args_tuple_add_2 _ _)
  (tuple_addW0 t b vs.toArray ws.toArray n n2 dd Y sl aa (by simp[hv])) ⟨ho,I,h0⟩
def Ie (K:W.Frag):R2:=λx y H Q=>∃a b xs ys,x=.ref a/\y=.ref b/\d_ K H a xs/\d_ K H b ys/\ys≠[]/\xs.length+ys.length<=sizeLine/\
 (xs=[]->Q (.ref b) H)/\(xs≠[]->∀p,H p=none->Q (.ref p) (upd H p (.tup (xs++ys))))
theorem Ig {X:Cx}:gH X (binaryOp .Add) (Ie X.K):=by
 intro pins s σ H x y v u Q I U Y h;obtain⟨a,b,xs,ys,rfl,rfl,ha,hb,hy,hz,q1,q2⟩:=h;by_cases J:xs=[]
 . cases U
   cases Y;obtain⟨ab,r1,p1,_⟩:=I.tuple ha;obtain⟨aa,r2,p2,_⟩:=I.tuple hb;exact Ic p1 p2 (r1.qA.mpr J) ⟨.ref b,H,I,rfl,q1 J⟩
 . exact Ft pins s σ H _ _ v u Q I U Y ⟨a,b,xs,ys,rfl,rfl,ha,hb,J,hz,λz=>absurd z hy,λ_=>q2 J⟩
end L2
namespace Pb
open L2
noncomputable def cl:Nat->Nat
 |0=>1
 |d+1=>2 * cl d+1
def pR (K:W.Frag) (d:Nat):Sp:=λvs H Q _=>∃a b ns n pl f7 k,vs=[.ref a,.ref b,.ref pl,.int d]/\G0 K H a b ns n/\H pl=some (.lst f7)/\pl≠b/\1<=f7.length/\f7.length<=10/\(∀u∈f7,∃L:Lo,fM H u L/\L.ok k/\L.dp<=0)/\n+cl d<=1000000000000/\
 ∀(v:V) (L:Lo) (n':Int) (H':Hp),SB b H H'->H' b=some (.lst [.int n'])->n<=n'->n'<=n+cl d->fM H' v L->L.ok k->L.dp<=d->Q v H'
def jD (H:Hp) (k:Kd) (gE:List Str) (v:V):Prop:=∃t U Y ps J I,v=.ref t/\H t=some (.tup [.ref U,Y])/\H U=some (.tup (ps.map V.str))/\KA H Y J/\J.W/\(∀fs,J≠ .eZ fs)/\ps=gE++I/\jC I k=some J
theorem jD.mono {H H':Hp}{k:Kd}{gE:List Str}{v:V}(t:Tu H H')(h:jD H k gE v):jD H' k gE v:=by
 obtain⟨U,Y,kv,ps,J,I,e,h1,h2,h3,h4⟩:=h;exact⟨U,Y,kv,ps,J,I,e,t _ _ h1,t _ _ h2,KA.mono t J h3,h4⟩
def pS (n:Nat):Sp:=λvs H Q _=>∃J U gE k,vs=[J,.ref U]/\KA H J k/\k.W/\k.dep<=n/\n<=5/\gE.length+n<=10/\H U=some (.tup (gE.map V.str))/\
 ∀(l:Addr) (I:List V) (H':Hp),Same H H'->H l=none->H' l=some (.lst I)->I.length=k.lf->(∀v∈I,jD H' k gE v)->Q (.ref l) H'
variable {P:Program}{w:World}{K:W.Frag}{mg:Str->Option Value}{base:Heap}
theorem B7:fG ["_law_script","_law_at","_law_leaves","_law_deep","_law_m","_law_one"] Xc (eX (top 44)):=fW
theorem Ih (T:Tb mg)(I:Dn K mg "_law_look" k8 (top 44) J U)(Y:Dn K mg "_law_next" fo (top 27) aa ab)(ac:eE P w K mg base eI (1) aa ab fo (jn K)):eE P w K mg base eI (0+2) J U k8 (pR K 0):=by
 refine I.F.ok B7 λvs H Q E h=>?_;obtain⟨a,b,ns,n,pl,f7,k,rfl,g,ag,af,ak,al,ah,hn,q⟩:=h;refine⟨rfl,λam A outer s nd hr hu=>?_⟩;have ai:(cl 0:Int)=1:=rfl;rw[ai] at hn q
 refine⟨_,(en (eW 4 nd (eN ac hr Y (a_ (pv 0) (a_ (pv 1) c_))))
  (en (eR (PW.pt (ic (eP fi (pv 3) b_ (eM _)) (ib (eP fi (eB fm (pv 4) b_) b_ (eM _))))) (eG (eJ (gK (pv 2) (eB fm (eB gm (pv 4) b_) (fA gO (by rfl) T.gB PySem.boot_len (a_ (pv 2) c_)))))) eS)
  (en (eW 5 nd Ax)
  (en (eR (eP fi (eB fm (pv 4) b_) b_ (eM _)) (eG (eJ (gc (a_ fg (a_ (pv 5) c_))))) eS)
  (eG (eJ (gc (a_ (gK (fY (a_ fg (a_ fg c_))) (eB fm (eB gm (pv 4) b_) b_)) (a_ (pv 5) (a_ Ax c_)))))))))),?_⟩
 ac_rfl
 refine(Zr rfl (Zr rfl ⟨a,b,ns,n,rfl,g,by omega,λr H1 r0 r1 s1 h1=>?_⟩));refine(Zr rfl ⟨rfl,Zr rfl ?_⟩);rw[decide_eq_true (show V.int ((0:Nat):Int)=V.int 0 from rfl)];refine fv ?_;have ae:=s1 pl _ af ag;have w0:=Q0g (r / 5) (show((f7.length:Nat):Int)≠0 by omega);have w1:=Q0h (r / 5) (show(0:Int)<((f7.length:Nat):Int) by omega);obtain⟨j,hj⟩:∃j:Nat,r / 5 % ((f7.length:Nat):Int)=(j:Int):=⟨(r / 5 % ((f7.length:Nat):Int)).toNat,by omega⟩;have aj:j<f7.length:=by omega
 refine(Zr rfl (Zr rfl ⟨_,Zr rfl ⟨rfl,⟨by decide,by decide⟩,Zr rfl ⟨pl,Zr rfl ⟨.inl (eA.of ae),_,Zr rfl ⟨rfl,(by show(0:Int)<_;omega),pl,_,_,f7[j],rfl,rfl,eA.of ae,(by rw[hj];exact gY (Q02 aj)),?_⟩⟩⟩⟩⟩));obtain⟨L,g1,g2,g3⟩:=ah f7[j] (Q0u _);exact q _ L (n+1) H1 s1 h1 (by omega) (by omega) (fM.mono (s1.tu g.at_) L g1) g2 g3
theorem Ii (d:Nat)(T:Tb mg)(I:Dn K mg "_law_look" k8 (top 44) J U)(Y:eE P w K mg base eI (d+2) J U k8 (pR K d))(aa:Dn K mg "_law_next" fo (top 27) ab ac)(ae:eE P w K mg base eI (1) ab ac fo (jn K)):eE P w K mg base eI ((d+1)+2) J U k8 (pR K (d+1)):=by
 refine I.F.ok B7 λvs H Q E h=>?_;obtain⟨a,b,ns,n,pl,f7,k,rfl,g,au,af,aj,ak,an,hn,q⟩:=h;refine⟨rfl,λaA A outer s nd hr hu=>?_⟩
 have av:(cl (d+1):Int)=2 * cl d+1:=by
  have:cl (d+1)=2 * cl d+1:=rfl;omega
 rw[av] at hn q
 refine⟨_,(en (eW 4 nd (eN ae hr aa (a_ (pv 0) (a_ (pv 1) c_))))
  (en (eR (PW.pt (ic (eP fi (pv 3) b_ (eM _)) (ib (eP fi (eB fm (pv 4) b_) b_ (eM _))))) (eG (eJ (gK (pv 2) (eB fm (eB gm (pv 4) b_) (fA gO (by rfl) T.gB PySem.boot_len (a_ (pv 2) c_)))))) eS)
  (en (eW 5 nd (eN Y hr I (a_ (pv 0) (a_ (pv 1) (a_ (pv 2) (a_ (eB jv (pv 3) b_) c_))))))
  (en (eR (eP fi (eB fm (pv 4) b_) b_ (eM _)) (eG (eJ (gc (a_ fg (a_ (pv 5) c_))))) eS)
  (eG (eJ (gc (a_ (gK (fY (a_ fg (a_ fg c_))) (eB fm (eB gm (pv 4) b_) b_)) (a_ (pv 5) (a_ (eN Y hr I (a_ (pv 0) (a_ (pv 1) (a_ (pv 2) (a_ (eB jv (pv 3) b_) c_))))) c_)))))))))),?_⟩
 ac_rfl
 refine(Zr rfl (Zr rfl ⟨a,b,ns,n,rfl,g,by omega,λr H1 r0 r1 s1 h1=>?_⟩));have g1:=g.go s1 h1 (by omega);have ai:=s1 pl _ af au;have aw:=s1.tu g.at_;have e2:(((d+1:Nat):Int)) - 1=(d:Int):=by omega
 refine(Zr rfl ⟨rfl,Zr rfl ?_⟩);rw[decide_eq_false (show ¬V.int (((d+1:Nat):Int))=V.int 0 from λz=>by injection z with z;omega)];refine fk ?_;refine(Zr rfl ⟨_,Zr rfl ⟨rfl,(by show(0:Int)<_;decide),rfl,Zr rfl (fJ (λc=>?_) (λc=>?_))⟩⟩)
 . have w0:=Q0g (r / 5) (show((f7.length:Nat):Int)≠0 by omega);have w1:=Q0h (r / 5) (show(0:Int)<((f7.length:Nat):Int) by omega);obtain⟨j,hj⟩:∃j:Nat,r / 5 % ((f7.length:Nat):Int)=(j:Int):=⟨(r / 5 % ((f7.length:Nat):Int)).toNat,by omega⟩;have ax:j<f7.length:=by omega
   refine(Zr rfl (Zr rfl ⟨_,Zr rfl ⟨rfl,⟨by decide,by decide⟩,Zr rfl ⟨pl,Zr rfl ⟨.inl (eA.of ai),_,Zr rfl ⟨rfl,(by show(0:Int)<_;omega),pl,_,_,f7[j],rfl,rfl,eA.of ai,(by rw[hj];exact gY (Q02 ax)),?_⟩⟩⟩⟩⟩));obtain⟨L,g1,g2,g3⟩:=an f7[j] (Q0u _);exact q _ L (n+1) H1 s1 h1 (by omega) (by omega) (fM.mono (s1.tu g.at_) L g1) g2 (by omega)
 have ao:∀u∈f7,∃L:Lo,fM H1 u L/\L.ok k/\L.dp<=0:=λu hu=>by
  obtain⟨L,x1,x2⟩:=an u hu;exact⟨L,fM.mono aw L x1,x2⟩
 refine(Zr rfl (Zr rfl (Zr rfl (Zr rfl ⟨_,Zr rfl ⟨rfl,a,b,ns,n+1,pl,f7,k,(by show [V.ref a,V.ref b,V.ref pl,V.int (((d+1:Nat):Int) - 1)]=_;rw[e2]),g1,ai,af,aj,ak,ao,by omega,λv L n2 H2 s2 h2 u1 u2 hL al aB=>?_⟩⟩))));have g2:=g1.go s2 h2 u1;have ap:=s2 pl _ af ai;have ay:=s2.tu h1;refine(Zr rfl ⟨_,Zr rfl ⟨rfl,(by show(0:Int)<_;decide),rfl,Zr rfl (fJ (λc1=>?_) (λc1=>?_))⟩⟩)
 . refine(Zr rfl ⟨gn,λt ht=>?_⟩);have st:Same H2 (upd H2 t (.tup [.str "not",v])):=Same.new ht;refine q _ (.not L) n2 _ (s1.trans (s2.trans (SB.of st))) (st _ _ h2) (by omega) (by omega) ?_ al (by simp only[Lo.dp];omega);unfold fM;exact⟨t,v,rfl,eF,fM.mono (Tu.of st) L hL⟩
 have az:∀u∈f7,∃L:Lo,fM H2 u L/\L.ok k/\L.dp<=0:=λu hu=>by
  obtain⟨L,x1,x2⟩:=ao u hu;exact⟨L,fM.mono ay L x1,x2⟩
 have aC:=Q0g (r / 5) (show(2:Int)≠0 by decide);have aD:=Q0h (r / 5) (show(0:Int)<2 by decide);refine⟨gn,λp hp=>?_⟩;have sp:Same H2 (upd H2 p (.lst [.str "and",.str "or"])):=Same.new hp
 have ag:gv [V.str "and",V.str "or"] (r / 5 % 2)=some (.str "and")\/gv [V.str "and",V.str "or"] (r / 5 % 2)=some (.str "or"):=by
  have:r / 5 % 2=0\/r / 5 % 2=1:=by omega
  rcases this with e|e <;> rw[e]
  . exact .inl rfl
  . exact .inr rfl
 have aq:∀u∈f7,∃L:Lo,fM (upd H2 p (.lst [.str "and",.str "or"])) u L/\L.ok k/\L.dp<=0:=λu hu=>by
  obtain⟨L,x1,x2⟩:=az u hu;exact⟨L,fM.mono (Tu.of sp) L x1,x2⟩
 have g3:G0 K (upd H2 p (.lst [.str "and",.str "or"])) a b ns n2:=g2.go (SB.of sp) (sp _ _ h2) (by omega);rcases ag with ag|ag
 . refine(Zr rfl ⟨_,Zr rfl ⟨rfl,⟨by decide,by decide⟩,_,Zr rfl ⟨rfl,(by show(0:Int)<_;decide),p,_,_,Zr rfl ⟨rfl,eA.of eF,ag,Zr rfl (Zr rfl (Zr rfl (Zr rfl (Zr rfl ⟨_,Zr rfl ⟨rfl,a,b,ns,n2,pl,f7,k,(by show [V.ref a,V.ref b,V.ref pl,V.int (((d+1:Nat):Int) - 1)]=_;rw[e2]),g3,sp _ _ ap,af,aj,ak,aq,by omega,λv' L' n3 H3 s3 h3 u3 u4 am ah ar=>⟨mO,λt ht=>?_⟩⟩⟩))))⟩⟩⟩⟩);have st:Same H3 (upd H3 t (.tup [.str "and",v,v'])):=Same.new ht;refine q _ (.and L L') n3 _ (s1.trans (s2.trans ((SB.of sp).trans (s3.trans (SB.of st))))) (st _ _ h3) (by omega) (by omega) ?_ ⟨al,ah⟩ (by simp only[Lo.dp];omega);unfold fM;exact⟨t,v,v',rfl,eF,fM.mono ((Tu.of sp).trans ((s3.tu (sp _ _ h2)).trans (Tu.of st))) L hL,fM.mono (Tu.of st) L' am⟩
 . refine(Zr rfl ⟨_,Zr rfl ⟨rfl,⟨by decide,by decide⟩,_,Zr rfl ⟨rfl,(by show(0:Int)<_;decide),p,_,_,Zr rfl ⟨rfl,eA.of eF,ag,Zr rfl (Zr rfl (Zr rfl (Zr rfl (Zr rfl ⟨_,Zr rfl ⟨rfl,a,b,ns,n2,pl,f7,k,(by show [V.ref a,V.ref b,V.ref pl,V.int (((d+1:Nat):Int) - 1)]=_;rw[e2]),g3,sp _ _ ap,af,aj,ak,aq,by omega,λv' L' n3 H3 s3 h3 u3 u4 am ah ar=>⟨mO,λt ht=>?_⟩⟩⟩))))⟩⟩⟩⟩);have st:Same H3 (upd H3 t (.tup [.str "or",v,v'])):=Same.new ht;refine q _ (.or L L') n3 _ (s1.trans (s2.trans ((SB.of sp).trans (s3.trans (SB.of st))))) (st _ _ h3) (by omega) (by omega) ?_ ⟨al,ah⟩ (by simp only[Lo.dp];omega);unfold fM;exact⟨t,v,v',rfl,eF,fM.mono ((Tu.of sp).trans ((s3.tu (sp _ _ h2)).trans (Tu.of st))) L hL,fM.mono (Tu.of st) L' am⟩
theorem B8 (T:Tb mg)(J:Dn K mg "_law_look" k8 (top 44) U Y)(I:Dn K mg "_law_next" fo (top 27) aa ab):∀d:Nat,eE P w K mg base eI (d+2) U Y k8 (pR K d)
 |0=>Ih T J I (nW (mV T I))
 |d+1=>Ii d T J (B8 T J I d) I (nW (mV T I))
theorem Ij:fG ["_law_kind_here","_law_path","_law_found","_law_name","_law_inner"] Xm (eX (top 41)):=fW
theorem Ik (n:Nat)(T:Tb mg)(J:Dn K mg "_law_places" mS (top 41) U Y)(ab:eE P w K mg base eI (n+1) U Y mS (pS n)):eE P w K mg base eI ((n+1)+1) U Y mS (pS (n+1)):=by
 refine J.F.ok Ij λvs H Q E h=>?_;obtain⟨kv,p0,gE,k,rfl,hk,hW,aA,aG,aH,ap,q⟩:=h;refine⟨rfl,λaI A outer s nd hr hu=>?_⟩
 refine⟨_,(en (eR (eP jO (eK (pv 0) b_) fg (eM _)) (eG (eJ (fY (a_ (gc (a_ (pv 1) (a_ (pv 0) c_))) c_)))) eS)
  (en (eW 2 nd (fY c_))
  (en (ie PassesOwn.never rfl (j2 (eK (pv 0) b_)) (i7 rfl (gQ (fQ (i:=3) nd rfl gq) (gQ (fQ (i:=4) nd rfl gq) i6))) (eG (eW 2 nd (eB ig (pv 2) (eN ab hr J (a_ (pv 4) (a_ (eB Ig (pv 1) (gc (a_ (pv 3) c_))) c_)))))))
  (eG (eJ (pv 2)))))),?_⟩
 ac_rfl
 have one:∀(c:Addr) (xs:List V) (nm:Str),kv=.ref c->H c=some (.tup xs)->xs[0]? =some (.str nm)->nm≠"record"->(∀fs,k≠ .eZ fs)->k.lf=1->∀t,H t=none->∀l,upd H t (.tup [.ref p0,kv]) l=none->Q (.ref l) (upd (upd H t (.tup [.ref p0,kv])) l (.lst [.ref t])):=λc xs nm e hc h0 aJ aB aq t ht l hl=>by
  have s1:Same H (upd H t (.tup [.ref p0,kv])):=Same.new ht;have s2:=s1.trans (Same.new (o:=.lst [.ref t]) hl);refine q l [.ref t] _ s2 (s1.free hl) eF (by rw[aq];rfl) λv hv=>?_;rw[List.mem_singleton.mp hv];exact⟨t,p0,kv,gE,k,[],rfl,Same.new hl _ _ eF,s2 _ _ ap,KA.mono (Tu.of s2) k hk,hW,aB,by simp,rfl⟩
 cases k with
 |eZ fs=>
  have aK:=hk;unfold KA at hk;obtain⟨c,b,xs,rfl,hc,hb,ar⟩:=hk;have au:=hW;unfold Kd.W at au;obtain⟨aC,aL,av⟩:=au;simp only[Kd.dep] at aA
  have aq:fs.lf<=248832:=Q0e (Kd.pP (.eZ fs) n hW (by simp only[Kd.dep];omega)) (by
   have:(12:Nat) ^ n<=12 ^ 5:=Nat.pow_le_pow_right (by decide) (by omega);omega)
  refine(Zr rfl ⟨c,_,_,Zr rfl ⟨rfl,d_.of hc,rfl,rfl,Zr rfl ?_⟩⟩);rw[show decide (V.str "record"=V.str "record")=true by decide +kernel];refine fk ?_;refine⟨nU,λl0 aw=>?_⟩;have s0:Same H (upd H l0 (.lst [])):=Same.new aw;refine(Zr rfl ⟨c,_,_,Zr rfl ⟨rfl,d_.of (s0 _ _ hc),rfl,b,rfl,⟨_,d_.of (s0 _ _ hb)⟩,mi (xs:=xs) (λi σ H'=>∃(x y:Option V) (l:Addr) (aa:List V),σ=[some (.ref c),some (.ref p0),some (.ref l),x,y]/\Same H H'/\H l=none/\H' l=some (.lst aa)/\aa.length=fs.jo i/\∀v∈aa,jD H' (.eZ fs) gE v) ?_ ?_ ?_ ?_⟩⟩)
  . exact⟨_,_,l0,[],rfl,s0,aw,eF,(by cases fs <;> rfl),λv hv=>absurd hv (by simp)⟩
  . intro i σ H' _ zq;obtain⟨x,y,l,aa,rfl,s1,_⟩:=zq;exact d_.of (s1 _ _ hb)
  . intro i v σ H' hv zq;obtain⟨x,y,l,aa,rfl,s1,hl,am,aj,an⟩:=zq;obtain⟨e,u,nm,k',rfl,ah,he,ax⟩:=FA.get fs ar hv;have az:=Fs.jU aC ah;have aM:=Fs.BR ah;have aP:=Fs.BS fs (i+1);refine⟨e,Zr rfl ⟨d_.of (s1 _ _ he),rfl,_,Zr rfl ⟨_,Zr rfl ⟨rfl,?_⟩⟩⟩⟩;refine(Zr rfl (Zr rfl (Zr rfl (Zr rfl ⟨g6,λt1 aD=>?_⟩))));have s2:Same H' (upd H' t1 (.tup [.str nm])):=Same.new aD;have ak:k'.dep<=n:=by have:=Fs.lG ah;omega
    have al:(gE++[nm]).length+n<=10:=by rw[Q05];show gE.length+1+n<=10;omega
    have fin:∀(H2:Hp),Same H' H2->∀(l2:Addr) (I:List V) (H3:Hp),Same H2 H3->H2 l2=none->H3 l2=some (.lst I)->I.length=k'.lf->(∀v∈I,jD H3 k' (gE++[nm]) v)->H3 l=some (.lst aa)/\aa.length+I.length<=sizeLine/\∀l3,H3 l3=none->(Same H (upd H3 l3 (.lst (aa++I)))/\H l3=none/\upd H3 l3 (.lst (aa++I)) l3=some (.lst (aa++I))/\(aa++I).length=fs.jo (i+1)/\∀v∈aa++I,jD (upd H3 l3 (.lst (aa++I))) (.eZ fs) gE v):=λH2 s3 l2 I H3 s4 ai ac ae af=>by
     have sA:=s3.trans s4;refine⟨sA _ _ am,Q0e (by omega) (show 248832<=sizeLine by decide),λl3 ag=>?_⟩;have s5:Same H3 (upd H3 l3 (.lst (aa++I))):=Same.new ag;refine⟨s1.trans (sA.trans s5),s1.free (sA.free ag),eF,by rw[Q05];omega,λv hv=>?_⟩;rcases List.mem_append.mp hv with z|z
     . exact jD.mono (Tu.of (sA.trans s5)) (an v z)
     . obtain⟨t,pp,aE,ps,kl,ay,e1,e2,e3,e4,e5,e6,e7,e8⟩:=jD.mono (Tu.of s5) (af v z);refine⟨t,pp,aE,ps,kl,nm::ay,e1,e2,e3,e4,e5,e6,by rw[e7,Q0q];rfl,?_⟩;show(fs.get nm).bind (jC ay)=some kl;rw[az];exact e8
    refine⟨p0,t1,_,Zr rfl ⟨rfl,d_.of (s2 _ _ (s1 _ _ ap)),d_.of eF,by simp,?_,λhz=>?_,λhz p2 aF=>?_⟩⟩
    . exact Q0k (gz (by rw[Q03];show gE.length+1<=1000;omega))
    . have ez:gE=[]:=List.map_eq_nil_iff.mp hz;have ao:upd H' t1 (.tup [.str nm]) t1=some (.tup ((gE++[nm]).map V.str)):=by rw[ez];exact eF
      refine⟨u,t1,gE++[nm],k',rfl,KA.mono (Tu.of (s1.trans s2)) k' ax,Fs.kU av ah,ak,by omega,al,ao,λl2 I H3 s4 ai ac ae af=>?_⟩;obtain⟨f1,f2,f3⟩:=fin _ s2 l2 I H3 s4 ai ac ae af;refine⟨l,l2,_,Zr rfl ⟨rfl,f1,ac,f2,λl3 ag=>?_⟩⟩;obtain⟨x1,x2,x3,x4,x5⟩:=f3 l3 ag;exact⟨_,_,l3,Zr rfl ⟨x1,x2,x3,x4,x5⟩⟩
    . have s3:Same H' (upd (upd H' t1 (.tup [.str nm])) p2 (.tup (gE.map V.str++[.str nm]))):=s2.trans (Same.new aF);have ao:upd (upd H' t1 (.tup [.str nm])) p2 (.tup (gE.map V.str++[.str nm])) p2=some (.tup ((gE++[nm]).map V.str)):=by rw[Q0i];exact eF
      refine⟨u,p2,gE++[nm],k',rfl,KA.mono (Tu.of (s1.trans s3)) k' ax,Fs.kU av ah,ak,by omega,al,ao,λl2 I H3 s4 ai ac ae af=>?_⟩;obtain⟨f1,f2,f3⟩:=fin _ s3 l2 I H3 s4 ai ac ae af;refine⟨l,l2,_,Zr rfl ⟨rfl,f1,ac,f2,λl3 ag=>?_⟩⟩;obtain⟨x1,x2,x3,x4,x5⟩:=f3 l3 ag;exact⟨_,_,l3,Zr rfl ⟨x1,x2,x3,x4,x5⟩⟩
  . intro σ H' zq;obtain⟨x,y,l,aa,rfl,s1,hl,am,aj,an⟩:=zq;exact(Zr rfl (q l aa H' s1 hl am (aj.trans (by rw[FA.len fs ar];exact Fs.BU fs)) an))
 |num=>
  unfold KA at hk;obtain⟨c,rfl,hc⟩:=hk;refine(Zr rfl ⟨c,_,_,Zr rfl ⟨rfl,d_.of hc,rfl,rfl,Zr rfl ?_⟩⟩);rw[show decide (V.str "number"=V.str "record")=false by decide +kernel];exact fv (Zr rfl (Zr rfl ⟨gn,λt ht=>⟨g6,λl hl=>one c _ _ rfl hc rfl (by decide +kernel) (λfs z=>by cases z) rfl t ht l hl⟩⟩))
 |fE=>
  unfold KA at hk;obtain⟨c,rfl,hc⟩:=hk;refine(Zr rfl ⟨c,_,_,Zr rfl ⟨rfl,d_.of hc,rfl,rfl,Zr rfl ?_⟩⟩);rw[show decide (V.str "word"=V.str "record")=false by decide +kernel];exact fv (Zr rfl (Zr rfl ⟨gn,λt ht=>⟨g6,λl hl=>one c _ _ rfl hc rfl (by decide +kernel) (λfs z=>by cases z) rfl t ht l hl⟩⟩))
 |rows key by_ fs=>
  unfold KA at hk;obtain⟨c,b,xs,rfl,hc,_⟩:=hk;refine(Zr rfl ⟨c,_,_,Zr rfl ⟨rfl,d_.of hc,rfl,rfl,Zr rfl ?_⟩⟩);rw[show decide (V.str "rows"=V.str "record")=false by decide +kernel];exact fv (Zr rfl (Zr rfl ⟨gn,λt ht=>⟨g6,λl hl=>one c _ _ rfl hc rfl (by decide +kernel) (λfs z=>by cases z) rfl t ht l hl⟩⟩))
 |tree k=>
  unfold KA at hk;obtain⟨c,b,rfl,hc,_⟩:=hk;refine(Zr rfl ⟨c,_,_,Zr rfl ⟨rfl,d_.of hc,rfl,rfl,Zr rfl ?_⟩⟩);rw[show decide (V.str "tree"=V.str "record")=false by decide +kernel];exact fv (Zr rfl (Zr rfl ⟨gn,λt ht=>⟨g6,λl hl=>one c _ _ rfl hc rfl (by decide +kernel) (λfs z=>by cases z) rfl t ht l hl⟩⟩))
 |gA fs=>
  unfold KA at hk;obtain⟨c,b,xs,rfl,hc,_⟩:=hk;refine(Zr rfl ⟨c,_,_,Zr rfl ⟨rfl,d_.of hc,rfl,rfl,Zr rfl ?_⟩⟩);rw[show decide (V.str "either"=V.str "record")=false by decide +kernel];exact fv (Zr rfl (Zr rfl ⟨gn,λt ht=>⟨g6,λl hl=>one c _ _ rfl hc rfl (by decide +kernel) (λfs z=>by cases z) rfl t ht l hl⟩⟩))
theorem B9 (T:Tb mg)(I:Dn K mg "_law_places" mS (top 41) J U):∀n:Nat,eE P w K mg base eI (n+1) J U mS (pS n)
 |0=>by
  have Y:∀vs H Q E,¬pS 0 vs H Q E:=λvs H Q E h=>by
   obtain⟨_,_,_,k,_,_,_,hd,_⟩:=h;have:=k.j6;omega
  exact⟨λvs H Q E h=>absurd h (Y vs H Q E),λA outer s H args us vs Q E _ _ _ _ h=>absurd h (Y vs H Q E)⟩
 |n+1=>Ik n T I (B9 T I n)
noncomputable def jg:List D->Ds
 |[]=>.nil
 |d::r=>.cons "" d (jg r)
noncomputable def Ds.upd:Ds->Str->D->Ds
 | .nil,_,_=>.nil
 | .cons y d r,x,e=>.cons y (if y=x then e else d) (r.upd x e)
noncomputable def Ds.del:Ds->Str->Ds
 | .nil,_=>.nil
 | .cons y d r,x=>if y=x then r.del x else .cons y d (r.del x)
inductive gL:Nat->Kd->D->List Key->Prop
 |num {n:Nat} {d:D} (h:∀z,d≠ .int z):gL (n+1) .num d []
 |fE {n:Nat} {d:D} (h:∀x,d≠ .str x):gL (n+1) .fE d []
 |mY {n:Nat} {fs:Fs} {d:D} (h:∀m,d=.dct m->m.names.length≠fs.names.length\/∃x∈fs.names,x ∉ m.names):gL (n+1) (.eZ fs) d []
 |pT {n:Nat} {fs:Fs} {m:Ds} {i:Nat} {x:Str} {k:Kd} {d:D} {p:List Key} (h1:m.names=fs.names) (ha:fs.at i=some (x,k))
   (hj:∀j y q,j<i->fs.at j=some (y,q)->∃e,m.get y=some e/\eV q e/\e.dep<=n/\e.Sm) (hg:m.get x=some d) (hm:gL n k d p):gL (n+1) (.eZ fs) (.dct m) (Sum.inr x::p)
 |rows0 {n:Nat} {key by_:Str} {fs:Fs} {d:D} (h:∀xs,d≠ .lst xs):gL (n+1) (.rows key by_ fs) d []
 |pU {n:Nat} {key by_:Str} {fs:Fs} {xs:Ds} {i:Nat} {e:D} {p:List Key} {rs:List Ds} (hl:xs.len<=100) (hi:i<=rs.length) (hat:∀j,j<i->xs.at j=some (.dct (rs.getD j .nil)))
   (hf:∀m∈rs,fH fs m/\m.dep<=n/\m.Sm) (hs:rs.Pairwise (iV key by_)) (hk:(rs.map λm=>keyOf m key).Nodup) (he:xs.at i=some e) (hm:gL (n+1) (.eZ fs) e p):gL (n+1) (.rows key by_ fs) (.lst xs) (Sum.inl (i:Int)::p)
 |og {n:Nat} {key by_:Str} {fs:Fs} {xs:Ds} {i:Nat} {rs:List Ds} (hl:xs.len<=100) (h0:0<i) (hi:i<rs.length) (hat:∀j,j<=i->xs.at j=some (.dct (rs.getD j .nil)))
   (hf:∀m∈rs,fH fs m/\m.dep<=n/\m.Sm) (hs:(rs.take i).Pairwise (iV key by_)) (hk:((rs.take i).map λm=>keyOf m key).Nodup) (hno:¬iV key by_ (rs.getD (i - 1) .nil) (rs.getD i .nil)):gL (n+1) (.rows key by_ fs) (.lst xs) [Sum.inl (i:Int)]
 |pV {n:Nat} {k:Kd} {d:D} (h:∀xs as,d=.tup xs->xs.len=2->xs.at 1≠some (.lst as)):gL (n+1) (.tree k) d []
 |rL {n:Nat} {k:Kd} {t:D} {as:Ds} {p:List Key} (hm:gL n k t p):gL (n+1) (.tree k) (pairD t (.lst as)) (Sum.inr "knot"::p)
 |rM {n:Nat} {k:Kd} {t e:D} {as:Ds} {i:Nat} {p:List Key} (ht:eV k t/\t.dep<=n/\t.Sm) (hl:as.len<=100) (hj:∀j a,j<i->as.at j=some a->Tree (eV k) a/\a.dep<=n/\a.Sm) (he:as.at i=some e) (hm:gL n (.tree k) e p):
   gL (n+1) (.tree k) (pairD t (.lst as)) (Sum.inl (i:Int)::p)
 |pW {n:Nat} {fs:Fs} {d:D} (h:∀xs,d=.tup xs->xs.len=2->(∃x,xs.at 0=some (.str x)/\x ∉ fs.names)\/(∃z,xs.at 0=some (.int z))\/∃l,xs.at 0=some (.lst l)):gL (n+1) (.gA fs) d []
 |rN {n:Nat} {fs:Fs} {x:Str} {k:Kd} {v:D} {p:List Key} (hg:fs.get x=some k) (hm:gL n k v p):gL (n+1) (.gA fs) (pairD (.str x) v) (Sum.inr x::p)
theorem gL.up {n:Nat}{k:Kd}{d:D}{p:List Key}(h:gL n k d p):gL (n+1) k d p:=by
 induction h with
 |num h=>exact .num h
 |fE h=>exact .fE h
 |mY h=>exact .mY h
 |pT h1 ha U Y _ I=>exact .pT h1 ha (λj y q l e=>let⟨e,a,b,c,d⟩:=U j y q l e;⟨e,a,b,by omega,d⟩) Y I
 |rows0 h=>exact .rows0 h
 |pU hl hi J hf hs hk he _ I=>exact .pU hl hi J (λm hm=>let⟨a,b,c⟩:=hf m hm;⟨a,by omega,c⟩) hs hk he I
 |og hl h0 hi J hf hs hk aa=>exact .og hl h0 hi J (λm hm=>let⟨a,b,c⟩:=hf m hm;⟨a,by omega,c⟩) hs hk aa
 |pV h=>exact .pV h
 |rL _ I=>exact .rL I
 |rM ht hl U he _ I=>exact .rM ⟨ht.1,by omega,ht.2.2⟩ hl (λj a l e=>let⟨x,y,z⟩:=U j a l e;⟨x,by omega,z⟩) he I
 |pW h=>exact .pW h
 |rN Y _ I=>exact .rN Y I
theorem Ds.rO:∀(m:Ds) (x:Str) (e:D),(m.upd x e).names=m.names
 | .nil,_,_=>rfl
 | .cons y d r,x,e=>by
   show y::(r.upd x e).names=_;rw[Ds.rO r x e];rfl
theorem Ds.uL:∀(m:Ds) (x:Str),x ∉ (m.del x).names
 | .nil,_=>by simp[Ds.del,Ds.names]
 | .cons y d r,x=>by
   unfold Ds.del;split
   . exact Ds.uL r x
   . rename_i h;intro z;rcases List.mem_cons.mp (show x∈y::(r.del x).names from z) with e|e
     . exact h e.symm
     . exact Ds.uL r x e
theorem Ds.uM {x z:Str}(h:z≠x)(e:D):∀(m:Ds),(m.upd x e).get z=m.get z
 | .nil=>rfl
 | .cons y d r=>by
   show(if z=y then some (if y=x then e else d) else(r.upd x e).get z)=(if z=y then some d else r.get z);by_cases c:z=y
   . rw[if_pos c,if_pos c,if_neg (λq=>h (c.trans q))]
   . rw[if_neg c,if_neg c,Ds.uM h e r]
theorem Ds.rP {x:Str}(e:D):∀{m:Ds},x∈m.names->(m.upd x e).get x=some e
 | .nil,h=>by simp[Ds.names] at h
 | .cons y d r,h=>by
   show(if x=y then some (if y=x then e else d) else(r.upd x e).get x)=some e;by_cases c:x=y
   . rw[if_pos c,if_pos c.symm]
   . rw[if_neg c];rcases List.mem_cons.mp (show x∈y::r.names from h) with q|q
     . exact absurd q c
     . exact Ds.rP e q
theorem Ds.mZ:∀{xs:Ds}{i:Nat}{d:D},xs.at i=some d->i<xs.len
 | .nil,_,_,h=>by cases h
 | .cons x d r,0,_,_=>by show 0<r.len+1;omega
 | .cons x d r,i+1,_,h=>by
   have:=Ds.mZ (xs:=r) (i:=i) h;show i+1<r.len+1;omega
theorem uN:∀{fs:Fs}{x:Str}{v:D},jV fs x v->∃k,fs.get x=some k/\eV k v
 | .nil,_,_,h=>by unfold jV at h;exact h.elim
 | .cons y k r,x,v,h=>by
   unfold jV at h;rcases h with⟨e,f⟩|⟨e,h⟩
   . exact⟨k,by show(if x=y then some k else r.get x)=_;rw[if_pos e],f⟩
   . obtain⟨I,J,U⟩:=uN h;exact⟨I,by show(if x=y then some k else r.get x)=_;rw[if_neg e];exact J,U⟩
theorem Fs.rQ:∀{fs:Fs}{x:Str}{k:Kd},fs.W->fs.get x=some k->k.W
 | .nil,_,_,_,h=>by cases h
 | .cons y q r,x,k,w,h=>by
   unfold Fs.W at w;have h:(if x=y then some q else r.get x)=some k:=h;by_cases e:x=y
   . rw[if_pos e] at h;cases h;exact w.1
   . rw[if_neg e] at h;exact Fs.rQ w.2.2 h
theorem B_:∀{rs:List Ds}{i:Nat},i<rs.length->(gh rs).at i=some (.dct (rs.getD i .nil))
 |[],_,h=>by simp at h
 |m::r,0,_=>rfl
 |m::r,i+1,h=>by
  show(gh r).at i=_;rw[B_ (by simpa using h)];rfl
theorem iG.all {P:D->Prop}{xs:Ds}(h:iG P xs){i:Nat}{d:D}(e:xs.at i=some d):Tree P d:=iG.at h e
theorem Ds.Ca (x:Str)(e:D):∀m:Ds,(m.upd x e).dep<=max m.dep e.dep
 | .nil=>Q04 _
 | .cons y d r=>by
   have:=Ds.Ca x e r;show max (if y=x then e else d).dep (r.upd x e).dep<=max (max d.dep r.dep) e.dep;split <;> omega
theorem Fs.oh:∀{fs:Fs}{x:Str}{k:Kd},fs.get x=some k->x∈fs.names
 | .cons y q r,x,k,h=>by
   unfold Fs.get at h;by_cases e:x=y
   . rw[e];exact Q06
   . rw[if_neg e] at h;exact Q0b _ (Fs.oh h)
noncomputable def kD:Key->D
 | .inl z=>.int z
 | .inr s=>.str s
def jq:Option Kd->Key->Prop
 |some .num,.inl _=>True
 |some .fE,.inr _=>True
 |_,_=>False
theorem jq.fit {o:Option Kd}{p:Key}(h:jq o p):∃k,o=some k/\j7 k/\eV k (kD p):=by
 unfold jq at h;split at h
 . exact⟨.num,rfl,trivial,by unfold eV kD;exact⟨_,rfl⟩⟩
 . exact⟨.fE,rfl,trivial,by unfold eV kD;exact⟨_,rfl⟩⟩
 . exact h.elim
theorem jq.of {fs:Fs}{m:Ds}{x:Str}(f:fH fs m)(h:fs.pl x):jq (fs.get x) (keyOf m x):=by
 obtain⟨_,⟨z,_,e,k⟩|⟨s,_,e,k⟩⟩:=f.plain h
 . rw[e,k];exact trivial
 . rw[e,k];exact trivial
theorem Il (p:Key):(kD p).dep=1:=by cases p <;> rfl
theorem Im (p:Key):(kD p).Sm:=by cases p <;> (unfold kD D.Sm;trivial)
theorem Io {m:Ds}{x:Str}{p:Key}(h:x∈m.names):keyOf (m.upd x (kD p)) x=p:=by
 unfold keyOf;rw[Ds.rP _ h]
 cases p <;> rfl
theorem Ds.uO {x:Str}{e:D}:∀{m:Ds},x ∉ m.names->m.upd x e=m
 | .nil,_=>rfl
 | .cons y d r,h=>by
   show Ds.cons y (if y=x then e else d) (r.upd x e)=_;rw[if_neg (λz=>h (by rw[z];exact Q06)),Ds.uO (m:=r) λz=>h (Q0b _ z)]
theorem fH.upd {x:Str}{k:Kd}{e:D}(U:eV k e):∀{fs:Fs}{m:Ds},fs.names.Nodup->fs.get x=some k->fH fs m->fH fs (m.upd x e)
 | .nil,_,_,h,_=>by cases h
 | .cons y q r,m,I,h,f=>by
   unfold fH at f;obtain⟨d,m,rfl,f1,J⟩:=f;have I:(y::r.names).Nodup:=I;obtain⟨Y,n2⟩:=List.nodup_cons.mp I;unfold Fs.get at h;show fH _ (.cons y (if y=x then e else d) (m.upd x e));unfold fH;by_cases ex:x=y
   . rw[if_pos ex] at h
     cases h;subst ex;rw[if_pos rfl,Ds.uO (by rw[J.names];exact Y)];exact⟨_,Zr rfl ⟨U,J⟩⟩
   . rw[if_neg ex] at h;rw[if_neg (λz=>ex z.symm)];exact⟨_,Zr rfl ⟨f1,fH.upd U n2 h J⟩⟩
theorem Ds.Iq (x:Str)(e:D)(m:Ds):(m.upd x e).len=m.len:=by rw[<-mW,Ds.rO,mW]
theorem Ds.Cb {x:Str}{e:D}(I:e.Sm):∀{m:Ds},m.Sm->(m.upd x e).Sm
 | .nil,h=>h
 | .cons y d r,h=>by
   unfold Ds.Sm at h;show Ds.Sm (.cons y (if y=x then e else d) (r.upd x e));unfold Ds.Sm;refine⟨?_,Ds.Cb I h.2⟩;split
   . exact I
   . exact h.1
def kb (fs:Fs) (m:Ds):Prop:=fH fs m/\m.dep<=fs.dB+1/\(D.dct m).Sm
theorem kb.upd {fs:Fs}{m:Ds}{x:Str}{p:Key}(I:fs.names.Nodup)(h:kb fs m)(hp:jq (fs.get x) p):kb fs (m.upd x (kD p)):=by
 obtain⟨k,e,_,J⟩:=hp.fit;refine⟨h.1.upd J I e,?_,?_⟩
 . have:=Ds.Ca x (kD p) m;have a:=h.2.1;rw[Il] at this;omega
 . have s:=h.2.2;unfold D.Sm at s ⊢;exact⟨by rw[Ds.Iq];exact s.1,Ds.Cb (Im p) s.2⟩
noncomputable def m4 (ns:List Int) (key by_:Str) (fs:Fs) (room:Nat) (q:List Ds × Int) (p:Key):List Ds × Int:=
 if 0<nx ns (q.2+1) % 3 then
  (q.1++[(if by_≠""/\q.1≠[]/\nx ns (q.2+1) / 3 % 2=0 then(fc ns fs room (q.2+1)).1.upd by_ (kD (keyOf (q.1.getLastD .nil) by_)) else(fc ns fs room (q.2+1)).1).upd key (kD p)],(fc ns fs room (q.2+1)).2)
 else(q.1,q.2+1)
noncomputable def g8 (ns:List Int) (key by_:Str) (fs:Fs) (room:Nat) (ps:List Key) (n:Int):List Ds × Int:=ps.foldl (m4 ns key by_ fs room) ([],n)
theorem Cc {ns:List Int}{key by_:Str}{fs:Fs}{room:Nat}{ps:List Key}{p:Key}{n:Int}:g8 ns key by_ fs room (ps++[p]) n=m4 ns key by_ fs room (g8 ns key by_ fs room ps n) p:=by
 unfold g8;rw[List.foldl_append];rfl
theorem Cd {ns:List Int}{key by_:Str}{fs:Fs}{room:Nat}{ps:List Key}{p:Key}{n:Int}{i:Nat}(h:ps[i]? =some p):g8 ns key by_ fs room (ps.take (i+1)) n=m4 ns key by_ fs room (g8 ns key by_ fs room (ps.take i) n) p:=by
 rw[Q0x,h];exact Cc
structure oi (fs:Fs) (key:Str) (room:Nat) (ps:List Key) (n:Int) (q:List Ds × Int):Prop where
 ok:∀m∈q.1,kb fs m
 keys:(q.1.map λm=>keyOf m key).Sublist ps
 lo:n<=q.2
 hi:q.2<=n+ps.length * ((fs.cB:Int)+1)
theorem uP {α:Type}{l:List α}{d:α}(h:l≠[]):l.getLastD d∈l:=by
 cases l with
 |nil=>exact absurd rfl h
 |cons a r=>exact List.mem_of_getLast? (by rw[List.getLast?_eq_some_getLast (List.cons_ne_nil a r)];rw[List.getLastD_cons,<-List.getLast_eq_getLastD])
theorem oi.step {ns:List Int}{key by_:Str}{fs:Fs}{room:Nat}{ps:List Key}{n:Int}{q:List Ds × Int}{p:Key}(h:oi fs key room ps n q)(hW:(Kd.rows key by_ fs).W)(Y:room<8)(hp:jq (fs.get key) p):oi fs key room (ps++[p]) n (m4 ns key by_ fs room q p):=by
 unfold Kd.W at hW;obtain⟨I,aa,J,U,ab⟩:=hW;have c:=nQ ns fs room (q.2+1) Y
 have e:((ps++[p]).length:Int) * ((fs.cB:Int)+1)=ps.length * ((fs.cB:Int)+1)+(fs.cB+1):=by
  rw[Q05];show((ps.length+1:Nat):Int) * _=_;rw[Q20,Q21];simp
 have lo:=h.lo;have hi:=h.hi;unfold m4;split
 . have v0:kb fs (fc ns fs room (q.2+1)).1:=⟨lJ ns fs J room _ Y,Q3c (qU ns fs room _),rG ns fs J room _ Y aa⟩;generalize fc ns fs room (q.2+1)=v at *
   have v1:kb fs (if by_≠""/\q.1≠[]/\nx ns (q.2+1) / 3 % 2=0 then v.1.upd by_ (kD (keyOf (q.1.getLastD .nil) by_)) else v.1):=by
    split
    . rename_i hc;exact v0.upd I (jq.of (h.ok _ (uP hc.2.1)).1 (ab.resolve_left hc.1))
    . exact v0
   generalize (if by_≠""/\q.1≠[]/\nx ns (q.2+1) / 3 % 2=0 then v.1.upd by_ (kD (keyOf (q.1.getLastD .nil) by_)) else v.1)=m1 at *
   have hm:key∈m1.names:=by
    rw[v1.1.names];obtain⟨k,e,_⟩:=U;exact Fs.oh e
   refine⟨λm ac=>?_,?_,by show n<=v.2;omega,by show v.2<=_;rw[e];omega⟩
   . rcases List.mem_append.mp ac with z|z
     . exact h.ok m z
     . rw[List.mem_singleton.mp z];exact v1.upd I hp
   . show((q.1++[m1.upd key (kD p)]).map λm=>keyOf m key).Sublist _;rw[Q0i];refine List.Sublist.append h.keys ?_;show [keyOf (m1.upd key (kD p)) key].Sublist [p];rw[Io hm];exact List.Sublist.refl _
 . exact⟨h.ok,h.keys.trans (List.sublist_append_left _ _),by show n<=q.2+1;omega,by show q.2+1<=_;rw[e];omega⟩
theorem uQ {ns:List Int}{key by_:Str}{fs:Fs}{room:Nat}{ps:List Key}{n:Int}(I:(Kd.rows key by_ fs).W)(J:room<8)(hp:∀p∈ps,jq (fs.get key) p):∀i,oi fs key room (ps.take i) n (g8 ns key by_ fs room (ps.take i) n)
 |0=>by
  rw[Q2h];exact { ok:=(λm h=>by cases h),keys:=List.Sublist.refl _,lo:=Q1a n,hi:=by show n<=n+((0:Nat):Int) * _;simp }
 |i+1=>by
  have U:=uQ I J hp (n:=n) (ns:=ns) i
  cases e:ps[i]? with
  |none=>
   have:ps.take (i+1)=ps.take i:=by rw[Q0x,e];exact Q0y _
   rw[this];exact U
  |some p=>
   have Y:ps.take (i+1)=ps.take i++[p]:=by rw[Q0x,e];rfl
   rw[Y,Cc];exact U.step I J (hp p (Q0p e))
abbrev jX (Pt:Addr) (H H':Hp):Prop:=Kp (λc=>c=Pt) H H'
theorem uR {K:W.Frag}{P:Addr}{lp:Pos}{ql:Str}{j:Nat}{σ:L2.St}{Q:VK}{H:Hp}{pr pk pb:Addr}{vs:List V}{ms:List Ds}{fl:List (List Addr)}{key by_:Str}{fs:Fs}(hr:eA K H pr vs)(J:eU H vs ms fl)(hl:vs.length<64)(hT:eY P lp ql H)(aw:σ[j]? =some (some (.ref pk)))
 (ax:H pk=some (.tup [.str "rows",.str key,.str by_,.ref pb])) (Y:∀m∈ms,fH fs m) (ae:fs.pl key) (ak:by_=""\/fs.pl by_) (ay:(ms.map λm=>keyOf m key).Nodup)
 (q:∀D al am H',jX P H H'->eY P lp ql H'->H D=none->H' D=some (.lst al)->eU H' al (gp key by_ ms) am->am.Perm fl->Q (.ref D) H'):
 qM K P lp ql (jw lQ [] E0 (gy (fF (j+1)) (gy (fF 0) iu))) σ Q (.ref pr) H:=by
 obtain⟨af,aq⟩:=A3.len J;refine⟨pr,vs,rfl,hr,hl,hT,λc' H2 ah mono=>?_⟩
 have np:∀I o,(∀ps,o≠ .gF ps)->H I=some o->H2 I=some o:=λI o ho e=>by
  obtain⟨az,aA⟩:=hT.tab;exact mono I o (gZ e aA (ho az)) e
 have an:Tu H H2:=λI ys e=>np I _ (by intro ps z;cases z) e
 have U:eU H2 vs ms fl:=eU.keep an J λI hc o e=>np I o (by
  intro ps z;rcases eU.mu J I hc with⟨_,q⟩|⟨_,q⟩ <;> rw[e] at q <;> rw[z] at q <;> cases q) e
 have ar:H2 pk=some (.tup [.str "rows",.str key,.str by_,.ref pb]):=an _ _ ax;refine⟨λks H3=>Same H2 H3/\ks.length<=vs.length/\mI H3 ks ((ms.map (rankOf key by_)).take ks.length),⟨Same.refl _,Q04 _,.nil⟩,λks H3 hw=>ah.mono λI o _ e=>hw.1 _ _ e,?_,?_⟩
 . rintro ks H3 yv ⟨s3,aB,ab⟩ hy;have ao:ks.length<vs.length:=(List.getElem?_eq_some_iff.mp hy).1;have ag:=A3.at (a0:=V.non) (b0:=Ds.nil) (c0:=[]) U ks.length ao;have ey:vs.getD ks.length .non=yv:=by rw[Q0d,hy];rfl
   rw[ey] at ag
   have au:ms.getD ks.length .nil∈ms:=by
    rw[Q0d,Q02 (by omega)];exact Q0u _
   have aa:=Own.same s3 ag;unfold Own at aa;obtain⟨rr,kvs,fq,rfl,aC,_,aD⟩:=aa;refine⟨_,aw,Zr rfl ⟨pk,rr,pb,key,by_,fs,kvs,_,fq,rfl,s3 _ _ ar,aC,aD,Y _ au,ae,ak,λt ht=>⟨s3.trans (Same.new ht),by rw[Q05];exact ao,?_⟩⟩⟩
   have et:(ms.map (rankOf key by_)).take (ks++[V.ref t]).length=(ms.map (rankOf key by_)).take ks.length++[rankOf key by_ (ms.getD ks.length .nil)]:=by
    rw[Q05];show List.take (ks.length+1) _=_;rw[Q0x,Q0r,Q0d,Q02 (by omega)];rfl
   rw[et];refine uD (Paired.oH ab λk kl z=>?_) ⟨t,rfl,eF⟩;obtain⟨pp,e,hh⟩:=z;exact⟨pp,e,by rw[eu (eL hh ht)];exact hh⟩
 . rintro ks H3 ⟨s3,aB,ab⟩ av
   have aE:(ms.map (rankOf key by_)).take ks.length=ms.map (rankOf key by_):=by
    rw[av,af,Q1e (by rw[Q03];exact Q00 _)]
   rw[aE] at ab;refine⟨_,ab,⟨if by_="" then [j8 (fs.get key)] else [j8 (fs.get by_),j8 (fs.get key)],by split <;> simp,λkl aF=>?_⟩,λp hp hs D hD=>?_⟩
   . obtain⟨m,hm,rfl⟩:=List.mem_map.mp aF;exact qQ (Y m hm) ae ak
   have ai:∀i∈p,i<vs.length:=λi hi=>by
    have:=hp.mem_iff.mp hi;simpa using this
   have aG:p.Perm (List.range ms.length):=by rw[<-af];exact hp
   have hz:(p.map λi=>ms.getD i .nil)=gp key by_ ms:=by
    refine pz (qX _ aG) ?_ ay;rw[Q2a] at hs ⊢;refine List.Pairwise.imp_of_mem (λ{i j} hi hj h=>?_) hs;have aH:=ai i hi;have aI:=ai j hj
    have ge:∀i,i<vs.length->(ms.map (rankOf key by_)).getD i []=rankOf key by_ (ms.getD i .nil):=λi hi=>by
     rw[Q0d,Q0d,Q0r,Q02 (by omega)];rfl
    rw[ge i aH,ge j aI] at h;exact h
   have sD:Same H3 (upd H3 D (.lst (p.map λi=>vs.getD i .non))):=Same.new hD;have ac:eU (upd H3 D (.lst (p.map λi=>vs.getD i .non))) vs ms fl:=eU.keep (Tu.of (s3.trans sD)) U λI _ o e=>sD _ _ (s3 I o e);have aj:=A3.pick (a0:=V.non) (b0:=Ds.nil) (c0:=[]) ac p ai;have aJ:(p.map λi=>fl.getD i []).Perm fl:=qX _ (by rw[<-aq];exact hp);have aK:D≠P:=λe=>by rw[e,s3 _ _ ah.1] at hD;cases hD
   have ap:=s3.free hD
   have aL:H D=none:=by
    cases e:H D with
    |none=>rfl
    |some o=>rw[mono D o aK e] at ap;cases ap
   exact q D _ _ _ (λI o nc e=>sD _ _ (s3 _ _ (mono I o nc e))) (.inr ⟨c',ah.mono λI o _ e=>sD _ _ (s3 _ _ e)⟩) aL eF (by rw[<-hz];exact aj) aJ
noncomputable abbrev ke:Pos:=rB (top 15)
noncomputable abbrev kf:Str:=("in_order":Str)++".<locals>."++"<lambda>"
noncomputable abbrev lU:Pos:=rB (top 52)
noncomputable abbrev lV:Str:=("_law_sorted":Str)++".<locals>."++"<lambda>"
noncomputable abbrev oj:Pos:=rB (top 47)
noncomputable abbrev om:Str:=("_law_some":Str)++".<locals>."++"<lambda>"
def rR (P:Addr) (U:Pos) (Y:Str):Sp:=λvs H Q _=>∃pk pr pb key by_ fs ws ms fl,vs=[.ref pk,.ref pr]/\H pk=some (.tup [.str "rows",.str key,.str by_,.ref pb])/\H pr=some (.lst ws)/\eU H ws ms fl/\ws.length<64/\eY P U Y H/\(∀m∈ms,fH fs m)/\fs.pl key/\(by_=""\/fs.pl by_)/\(ms.map λm=>keyOf m key).Nodup/\
 ∀D I J H',jX P H H'->eY P U Y H'->H D=none->H' D=some (.lst I)->eU H' I (gp key by_ ms) J->J.Perm fl->Q (.ref D) H'
abbrev lq (b P I:Addr):Hp->Hp->Prop:=Kp (λc=>c=b\/c=P\/c=I)
def Ce (K:W.Frag) (Pt Ps:Addr) (N:Nat):Sp:=λvs H Q _=>∃a b ns n pk pb xs key by_ fs pl,∃ps:List Key,∃room:Nat,vs=[.ref a,.ref b,.ref pk,.ref pl,.int room]/\G0 K H a b ns n/\eY Pt gU gW H/\eY Ps oj om H/\Pt≠Ps/\H pk=some (.tup [.str "rows",.str key,.str by_,.ref pb])/\H pb=some (.tup xs)/\FA H xs fs/\(Kd.rows key by_ fs).W/\
 H pl=some (.lst (ps.map kV))/\pl≠b/\ps.length<=30/\(∀p∈ps,jq (fs.get key) p)/\ps.Nodup/\room<8/\mu (.eZ fs) room<=N/\n+ps.length * ((fs.cB:Int)+1)<=1000000000000/\
 ∀D I fl H',lq b Pt Ps H H'->H' b=some (.lst [.int (g8 ns key by_ fs room ps n).2])->eY Pt gU gW H'->eY Ps oj om H'->H' D=some (.lst I)->eU H' I (gp key by_ (g8 ns key by_ fs room ps n).1) fl->(∀c∈D::fl.flatten,H c=none)->Q (.ref D) H'
theorem Cf:fG XY XY (eX (top 15)):=fW
theorem Ir {Pi c:Addr}(T:Tb mg)(U:Dn K mg "in_order" jd (top 15) Y I)(ae:I.code=.ref c)(ag:W.CodeHd base c Pi)(ah:BM mg base)(J:Dn K mg "rank" mP (top 14) aa ab)(ac:eE P w K mg base eI (1) aa ab mP (lQ)):eE P w K mg base eI (8) Y I jd (rR Pi ke kf):=by
 refine U.F.qO ae Cf (λvs H Q E h=>?_) (λA outer s H vs Q E hr h=>?_)
 . obtain⟨pk,pr,pb,key,by_,fs,ws,ms,fl,rfl,_⟩:=h;rfl
 obtain⟨pk,pr,pb,key,by_,fs,ws,ms,fl,rfl,ai,aj,af,hl,hT,hf,hk,ak,al,q⟩:=h;have nd:=Cf.nd;refine⟨_,(eG (eJ (qN (x:="row") (N':=["kind",""]) rfl T.pE boot_sorted hr rfl rfl ag ah (kT.of (N:=XY) (sc:=eX (top 15)) rfl rfl rfl rfl rfl (by decide +kernel)) rfl (λ_ _ _ _ _=>rfl) (pv 1) (λ_ _ _ _ _=>(nA ac (fV.deeper (k:=1) (fV.in1 (k:=2) (fV.in1 (k:=3) (hr.mono (by decide)))) _) rfl J.m J.F.kp J.b .nil nG (a_ (pv 1) (a_ (pv 0) c_))))))),?_⟩
 ac_rfl
 exact(Zr rfl (uR (eA.of aj) af hl hT rfl ai hf hk ak al q))
theorem Cg:fG XZ XZ (eX (top 52)):=fW
theorem Iu {Po c:Addr}(T:Tb mg)(U:Dn K mg "_law_sorted" pI (top 52) Y J)(ae:J.code=.ref c)(ag:W.CodeHd base c Po)(ah:BM mg base)(I:Dn K mg "_law_rank" k6 (top 35) aa ab)(ac:eE P w K mg base eI (1) aa ab k6 (lQ)):eE P w K mg base eI (8) Y J pI (rR Po lU lV):=by
 refine U.F.qO ae Cg (λvs H Q E h=>?_) (λA outer s H vs Q E hr h=>?_)
 . obtain⟨pk,pr,pb,key,by_,fs,ws,ms,fl,rfl,_⟩:=h;rfl
 obtain⟨pk,pr,pb,key,by_,fs,ws,ms,fl,rfl,ai,aj,af,hl,hT,hf,hk,ak,al,q⟩:=h;have nd:=Cg.nd;refine⟨_,(eG (eJ (qN (x:="_law_row") (N':=["_law_kind_here",""]) rfl T.pE boot_sorted hr rfl rfl ag ah (kT.of (N:=XZ) (sc:=eX (top 52)) rfl rfl rfl rfl rfl (by decide +kernel)) rfl (λ_ _ _ _ _=>rfl) (pv 1) (λ_ _ _ _ _=>(nA ac (fV.deeper (k:=1) (fV.in1 (k:=2) (fV.in1 (k:=3) (hr.mono (by decide)))) _) rfl I.m I.F.kp I.b .nil nG (a_ (pv 1) (a_ (pv 0) c_))))))),?_⟩
 ac_rfl
 exact(Zr rfl (uR (eA.of aj) af hl hT rfl ai hf hk ak al q))
theorem Ci {H:Hp}{p:Key}:Own H (kV p) (kD p) []:=by
 cases p <;> (unfold kV kD Own;exact⟨rfl,rfl⟩)
theorem Cj {A B:TS}{D:Ends}{σ:L2.St}{H:Hp}(Pv:L2.St->Hp->Prop)(J:∀I H',Pv I H'->B D I H')(U:(∀I H',Pv I H'->B D I H')->A { D with nx:=B D } σ H):qo A B D σ H:=U J
theorem _root_.L2.eY.off {P:Addr}{I:Pos}{J:Str}{H H':Hp}(h:eY P I J H)(k:∀c o,(∀xs,o≠ .lst xs)->(∀U,o≠ .dK U)->H c=some o->H' c=some o):eY P I J H':=by
 rcases h with e|⟨c,e,f⟩
 . exact .inl (k _ _ (by intro xs z;cases z) (by intro xs z;cases z) e)
 . exact .inr ⟨c,k _ _ (by intro xs z;cases z) (by intro xs z;cases z) e,k _ _ (by intro xs z;cases z) (by intro xs z;cases z) f⟩
theorem Iv {α:Type}{l:List α}{x:α}(h:l[l.length - 1]? =some x):gv l (-1)=some x:=by
 have hl:=(List.getElem?_eq_some_iff.mp h).1;unfold gv jQ;rw[if_neg (by decide),if_pos (by omega)];show l[((-1:Int)+(l.length:Int)).toNat]? =_;rw[show((-1:Int)+(l.length:Int)).toNat=l.length - 1 by omega];exact h
theorem _root_.L2.eY.kp {P J b:Addr}{lp U:Pos}{ql Y:Str}{H H':Hp}{l:List V}(h:eY P lp ql H)(x:fj b J H H')(hb:H b=some (.lst l))(h':eY J U Y H)(I:J≠P):eY P lp ql H':=by
 obtain⟨ab,aa⟩:=h'.tab;have k:∀c o,c≠J->(∀xs,o≠ .lst xs)->H c=some o->H' c=some o:=λc o hc ho e=>x c o (λz=>z.elim (λz=>by rw[z,hb] at e;cases e;exact ho _ rfl) hc) e;rcases h with e|⟨c,e,f⟩
 . exact .inl (k _ _ (Ne.symm I) (by intro xs z;cases z) e)
 . exact .inr ⟨c,k _ _ (Ne.symm I) (by intro xs z;cases z) e,k _ _ (gZ f aa (by intro z;cases z)) (by intro xs z;cases z) f⟩
theorem _root_.L2.eY.iL {P J:Addr}{Y:Pos}{ql:Str}{H H':Hp}{ps:Array Value}(h:eY P Y ql H)(x:jX J H H')(U:H J=some (.gF ps))(I:J≠P):eY P Y ql H':=by
 rcases h with e|⟨c,e,f⟩
 . exact .inl (x _ _ (Ne.symm I) e)
 . exact .inr ⟨c,x _ _ (Ne.symm I) e,x _ _ (gZ f U (by intro z;cases z)) f⟩
theorem eO.Ck {H:Hp}{x:Str}{v:V}{e:D}(Y:Own H v e []):∀{m:Ds}{kvs:List (Key × V)}{fp:List Addr},eO H kvs m fp->∃I,eO H (kvs.map λU=>if U.1=Sum.inr x then(U.1,v) else U) (m.upd x e) I/\I.Sublist fp
 | .nil,kvs,fp,h=>by
   unfold eO at h;obtain⟨rfl,rfl⟩:=h;exact⟨[],by unfold Ds.upd eO;exact⟨rfl,rfl⟩,List.Sublist.refl _⟩
 | .cons y d r,kvs,fp,h=>by
   unfold eO at h;obtain⟨u,q,f1,f2,rfl,rfl,ho,hr⟩:=h;obtain⟨J,h3,s3⟩:=eO.Ck Y hr;show ∃I,eO H ((if(Sum.inr y:Key)=Sum.inr x then(Sum.inr y,v) else(Sum.inr y,u))::q.map _) (.cons y (if y=x then e else d) (r.upd x e)) I/\_;by_cases ex:y=x
   . refine⟨[]++J,?_,s3.trans (List.sublist_append_right _ _)⟩;rw[if_pos ex,if_pos (by rw[ex])];unfold eO;exact⟨_,_,[],J,rfl,rfl,Y,h3⟩
   . refine⟨f1++J,?_,List.Sublist.append (List.Sublist.refl _) s3⟩;rw[if_neg ex,if_neg (λz=>ex (Sum.inr.inj z))];unfold eO;exact⟨_,_,f1,J,rfl,rfl,ho,h3⟩
theorem eO.rS {H:Hp}{x:Str}{v:V}{e:D}{m:Ds}{kvs:List (Key × V)}{fp:List Addr}(h:eO H kvs m fp)(J:Own H v e [])(U:x∈m.names):∃I,eO H (putK kvs (Sum.inr x) v) (m.upd x e) I/\I.Sublist fp:=by
 unfold putK;rw[if_pos]
 . exact h.Ck J
 . rw[Q2i];have:(Sum.inr x:Key)∈kvs.map (·.1):=by rw[eO.keys m h];exact Q1d U
   obtain⟨Y,h1,h2⟩:=List.mem_map.mp this;exact⟨Y,h1,decide_eq_true h2⟩
theorem Iw {kvs:List (Key × V)}{x:Str}{v:V}{m:Ds}{H:Hp}{fp:List Addr}(h:eO H kvs m fp)(I:x∈m.names):(putK kvs (Sum.inr x) v).length=kvs.length:=by
 obtain⟨U,h',_⟩:=h.rS (v:=.non) (e:=.non) (by unfold Own;exact⟨rfl,rfl⟩) I;unfold putK;rw[if_pos]
 . rw[Q03]
 . rw[Q2i];have:(Sum.inr x:Key)∈kvs.map (·.1):=by rw[eO.keys m h];exact Q1d I
   obtain⟨J,h1,h2⟩:=List.mem_map.mp this;exact⟨J,h1,decide_eq_true h2⟩
theorem Cm:fG XR Xh (eX (top 47)):=fW
theorem Iy {Pt Ps c:Addr}(N:Nat)(T:Tb mg)(an:Dn K mg "_law_some" pJ (top 47) ao aa)(bb:aa.code=.ref c)(bF:W.CodeHd base c Ps)(bG:BM mg base)(ap:Dn K mg "_law_next" fo (top 27) aq ar)(au:eE P w K mg base eI (1) aq ar fo (lM K))(J:Dn K mg "_law_rank" k6 (top 35) av aw)(ax:eE P w K mg base eI (1) av aw k6 (lQ))(af:Dn K mg "_law_value" hZ (top 37) ag ah)(ai:eE P w K mg base eI (2 * N+5) ag ah hZ (k_ K Pt N)):eE P w K mg base eI (2 * N+8) ao aa pJ (Ce K Pt Ps N):=by
 refine an.F.qO bb Cm (λvs H Q E h=>?_) (λA outer s H vs Q E hr h=>?_)
 . obtain⟨a,b,ns,n,pk,pb,xs,key,by_,fs,pl,ps,room,rfl,_⟩:=h;rfl
 obtain⟨a,b,ns,n,pk,pb,xs,key,by_,fs,pl,ps,room,rfl,g,hT,hS,be,a5,bH,bI,hW,a6,bw,ce,bJ,bK,aB,bL,hn,q⟩:=h;have nd:=Cm.nd;have hu:=tK hr
 refine⟨_,(en (eW 5 nd (fY c_))
  (en (ie PassesOwn.never rfl (kB (pv 3)) (fQ (i:=6) nd rfl gq) (en (eW 7 nd (eN au hr ap (a_ (pv 0) (a_ (pv 1) c_))))
  (eG (eR (eP jP (eB fm (pv 7) b_) b_ (eM _)) (en (eW 8 nd (eN ai hr af (a_ (pv 0) (a_ (pv 1) (a_ (gc (a_ fg (a_ (eK (pv 2) b_) c_))) (a_ (pv 4) c_))))))
  (en (eR (PW.pt (ma (eP jO (eK (pv 2) b_) fg (eM _)) (ma (eP jP (fA gO (by rfl) T.gB PySem.boot_len (a_ (pv 5) c_)) b_ (eM _)) (nq (eP fi (eB fm (eB gm (pv 7) b_) b_) b_ (eM _)))))) (eG (mB hu (pv 8) (eK (pv 2) b_) (h9 hu (gK (pv 5) (qu qy b_)) (eK (pv 2) b_) (λ_ _=>rfl)) rfl)) eS)
  (en (mB hu (pv 8) (eK (pv 2) b_) (pv 6) rfl)
  (eG (kx (lE PySem.F.plainAttrs_list PySem.F.slot_list_append PySem.F.type_list_append mz (pv 5) (a_ (pv 8) c_))))))) eS))))
  (eG (eJ (qN (x:="_law_row") (N':=["","","_law_kind_here","","","","","",""]) rfl T.pE boot_sorted hr rfl rfl bF bG (kT.of (N:=XR) (sc:=eX (top 47)) rfl rfl rfl rfl rfl (by decide +kernel)) rfl (λ_ _ _ _ _=>rfl) (pv 5) (λ_ _ _ _ _=>(nA ax (fV.deeper (k:=1) (fV.in1 (k:=2) (fV.in1 (k:=3) (hr.mono (by omega)))) _) rfl J.m J.F.kp J.b .nil nG (a_ (pv 3) (a_ (pv 0) c_))))))))),?_⟩
 ac_rfl
 have bf:=λi=>uQ (ns:=ns) (n:=n) hW aB bJ i;have cf:=hW;unfold Kd.W at hW;obtain⟨bM,bN,bg,a2,bh⟩:=hW;have hb:=g.at_;obtain⟨cg,hP⟩:=hT.tab;refine⟨nU,λpr aY=>?_⟩;have s0:Same H (upd H pr (.lst [])):=Same.new aY;have a7:b≠pr:=eL hb aY;have jY:Pt≠pr:=eL hP aY;have bi:∃o,H b=some o:=⟨_,hb⟩;refine(Zr rfl ⟨pl,rfl,⟨_,eA.of (s0 _ _ a6)⟩,zF (xs:=ps.map kV) (λi σ H'=>∃x y z vs fl,σ=[some (.ref a),some (.ref b),some (.ref pk),some (.ref pl),some (.int room),some (.ref pr),x,y,z]/\fj b Pt H H'/\H' b=some (.lst [.int (g8 ns key by_ fs room (ps.take i) n).2])/\eY Pt gU gW H'/\H' pr=some (.lst vs)/\eU H' vs (g8 ns key by_ fs room (ps.take i) n).1 fl/\(∀c∈fl.flatten,H c=none/\c≠pr)/\vs.length<=i) ?_ ?_ ?_ ?_⟩)
 . rw[Q2h];exact⟨_,_,_,[],[],rfl,Kp.of s0,s0 _ _ hb,hT.same s0,eF,.nil,λc hc=>absurd hc (by simp),Q00 _⟩
 . intro i σ H' _ zq;obtain⟨x,y,z,vs,fl,rfl,kp,_⟩:=zq;exact eA.of (kp pl _ (λz=>z.elim bw (gZ a6 hP (by intro z;cases z))) a6)
 . intro i v σ H' hv zq;obtain⟨x,y,z,vs,fl,rfl,kp,aj,aG,aK,ae,aA,bj⟩:=zq;obtain⟨p,hp,rfl⟩:=Option.map_eq_some_iff.mp (List.getElem?_map.symm.trans hv);have hi:i<ps.length:=(List.getElem?_eq_some_iff.mp hp).1;have so:=bf i;have add:=Cd (ns:=ns) (key:=key) (by_:=by_) (fs:=fs) (room:=room) (n:=n) hp;have bO:(ps.take i).length=i:=by rw[Q0l];omega
   have e1:((i+1:Nat):Int) * ((fs.cB:Int)+1)=(i:Int) * ((fs.cB:Int)+1)+(fs.cB+1):=by
    rw[Q20,Q21];simp
   have cb:((i+1:Nat):Int) * ((fs.cB:Int)+1)<=(ps.length:Int) * ((fs.cB:Int)+1):=Q1n (by omega) (by omega);have bP:=so.lo;have bQ:=so.hi;rw[bO] at bQ;have ci:=g.pos;have bx:=so.ok;generalize g8 ns key by_ fs room (ps.take i) n=I at *;generalize g8 ns key by_ fs room (ps.take (i+1)) n=cj at *;have bm:Tu H H':=kp.tu hb hT;refine(Zr rfl (Zr rfl ⟨a,b,ns,I.2,rfl,fj.g0 kp g hT aj bP,by omega,λH1 s1 h1=>?_⟩));have aH:fj b Pt H H1:=kp.trans (SB.ft s1);have aZ:eY Pt gU gW H1:=aG.sb aj s1;have aL:H1 pr=some (.lst vs):=s1 pr _ (Ne.symm a7) aK;have al:eU H1 vs I.1 fl:=eU.ft (SB.ft s1) aj aG bi ae λc hc=>(aA c hc).1;unfold m4 at add;refine(Zr rfl ⟨_,Zr rfl ⟨rfl,(by show(0:Int)<_;decide),_,Zr rfl ⟨rfl,Zr rfl (fJ (λc=>?_) (λc=>?_))⟩⟩⟩)
   . have c:0<nx ns (I.2+1) % 3:=of_decide_eq_true c;rw[if_pos c] at add;have a8:Tu H H1:=aH.tu hb hT;refine(Zr rfl (Zr rfl (Zr rfl ⟨pk,_,_,Zr rfl ⟨rfl,d_.of (a8 _ _ a5),rfl,gn,λt ht=>?_⟩⟩)));have st:Same H1 (upd H1 t (.tup [.str "record",.ref pb])):=Same.new ht
     have bR:KA (upd H1 t (.tup [.str "record",.ref pb])) (.ref t) (.eZ fs):=by
      unfold KA;exact⟨t,pb,xs,rfl,eF,st _ _ (a8 _ _ bH),FA.mono (a8.trans (Tu.of st)) fs bI⟩
     refine(Zr rfl ⟨a,b,ns,I.2+1,.ref t,.eZ fs,room,rfl,fj.g0 (aH.trans (Kp.of st)) g hT (st _ _ h1) (by omega),aZ.same st,bR,(by unfold Kd.W;exact⟨bM,bN,bg⟩),aB,bL,(by simp only[kc,Kd.cB];omega),?_⟩);intro v H2 fp ft bn bS aM bz bA;have ev:val ns (.eZ fs) room (I.2+1)=(.dct (fc ns fs room (I.2+1)).1,(fc ns fs room (I.2+1)).2):=by simp only[val]
     rw[ev] at bn aM;have ay:=lJ ns fs bg room (I.2+1) aB;generalize fc ns fs room (I.2+1)=a9 at *;have aP:fj b Pt H1 H2:=(Kp.of st).trans ft;have aW:fj b Pt H H2:=aH.trans aP;have bT:Tu H H2:=aW.tu hb hT;have az:H2 pr=some (.lst vs):=aP pr _ (λz=>z.elim (Ne.symm a7) (Ne.symm jY)) aL;have Y:eU H2 vs I.1 fl:=eU.ft aP h1 aZ bi al λc hc=>(aA c hc).1;unfold Own at aM;obtain⟨rr,kvs,fq,rfl,aI,rfl,a1⟩:=aM;have aF:=bT _ _ a5
     have ac:∀c∈rr::fq,H c=none/\c≠pr/\H1 c=none:=λc hc=>by
      have z:=st.free (bA c hc);have nb:c≠b:=λe=>by rw[e,h1] at z;cases z
      obtain⟨cm,bU⟩:=aZ.tab;have nP:c≠Pt:=λe=>by rw[e,bU] at z;cases z
      exact⟨aH.pC (λe=>e.elim nb nP) z,(λe=>by rw[e,aL] at z;cases z),z⟩
     have bB:b≠rr:=λe=>by have:=(ac rr Q06).1;rw[<-e,hb] at this;cases this
     have cc:Pt≠rr:=λe=>by have:=(ac rr Q06).1;rw[<-e,hP] at this;cases this
     have aC:pr≠rr:=λe=>(ac rr Q06).2.1 e.symm
     have bV:∀c∈fl.flatten,c≠rr:=λc hc e=>by
      obtain⟨o,eo⟩:=(eU.mu al c hc).ex;have:=(ac rr Q06).2.2;rw[<-e,eo] at this;cases this
     have bW:rr ∉ fq:=(List.nodup_cons.mp bz).1
     have am:∀{x:Str},fs.pl x->∀{m:Ds},m.names=fs.names->x∈m.names:=λhx m hm=>by
      obtain⟨k,e,_⟩:=hx;rw[hm];exact Fs.oh e
     have bo:∀U:List (Key × V),U.length=kvs.length->U.length<sizeLine:=λU e=>by
      rw[e,eO.len a1,ay.names];exact gz (by omega)
     dsimp only[gX]
     refine Cj (A:=ky _ _ _) (λbp H3=>∃U aJ,∃m1:Ds,bp=[some (.ref a),some (.ref b),some (.ref pk),some (.ref pl),some (.int room),some (.ref pr),some (kV p),some (.int (nx ns (I.2+1))),some (.ref rr)]/\H3 rr=some (.dK U)/\(∀c,c≠rr->H3 c=H2 c)/\eO H2 U m1 aJ/\aJ.Sublist fq/\m1.names=fs.names/\U.length=kvs.length/\
      m1=(if by_≠""/\I.1≠[]/\nx ns (I.2+1) / 3 % 2=0 then a9.1.upd by_ (kD (keyOf (I.1.getLastD .nil) by_)) else a9.1)) ?_ (λhB=>?_)
     . intro bp H3 zq;obtain⟨U,aJ,m1,rfl,h3,aD,aQ,ak,bC,bc,bX⟩:=zq;have bY:Tu H2 H3:=λc xs e=>by rw[aD c (gZ e aI (by intro z;cases z))];exact e
       have bZ:=am a2 bC;refine(Zr rfl (Zr rfl (Zr rfl ⟨pk,_,_,Zr rfl ⟨rfl,d_.of (bY _ _ aF),rfl,rr,Zr rfl ⟨jx.k (k:=Sum.inr key) h3 (bo _ bc),?_⟩⟩⟩)));have bD:H3 pr=some (.lst vs):=by rw[aD pr aC];exact az
       have a3:upd H3 rr (.dK (putK U (Sum.inr key) (kV p))) pr=some (.lst vs):=by rw[eu aC];exact bD
       refine(Zr rfl ⟨.inl ⟨rfl,_,eA.of a3⟩,Zr rfl ⟨pr,_,Zr rfl ⟨rfl,a3,gz (by omega),?_⟩⟩⟩);obtain⟨ba,bE,aX⟩:=aQ.rS (v:=kV p) (e:=kD p) Ci bZ;have ab:∀c,c≠rr->c≠pr->upd (upd H3 rr (.dK (putK U (Sum.inr key) (kV p)))) pr (.lst (vs++[.ref rr])) c=H2 c:=λc n1 n2=>by rw[eu n2,eu n1,aD c n1]
       have bq:Tu H2 (upd (upd H3 rr (.dK (putK U (Sum.inr key) (kV p)))) pr (.lst (vs++[.ref rr]))):=λc xs e=>by
        rw[ab c (gZ e aI (by intro z;cases z)) (gZ e az (by intro z;cases z))];exact e
       rw[add];refine⟨_,_,_,vs++[.ref rr],fl++[rr::ba],rfl,λc o nc e=>?_,by rw[ab b bB a7];exact bn,bS.off (λc o h1 h2 e=>?_),eF,?_,?_,by rw[Q05];show vs.length+1<=i+1;omega⟩
       . rw[ab c (λz=>by have:=(ac rr Q06).1;rw[<-z,e] at this;cases this) (eL e aY)];exact aW c o nc e
       . rw[ab c (λz=>by rw[z,aI] at e;cases e;exact h2 _ rfl) (λz=>by rw[z,az] at e;cases e;exact h1 _ rfl)];exact e
       . refine A3.snoc ?_ (eU.keep bq Y λc hc o e=>by rw[ab c (bV c hc) (aA c hc).2];exact e);unfold Own;refine⟨rr,_,ba,rfl,by rw[eu (Ne.symm aC)];exact eF,rfl,?_⟩;rw[<-bX]
         exact bE.keep bq _ λc hc o e=>by
          have br:=ak.subset (aX.subset hc);rw[ab c (λz=>bW (by rw[<-z];exact br)) (ac c (Q0b _ br)).2.1];exact e
       . intro c hc;rw[Q1o] at hc;rcases List.mem_append.mp hc with z|z
         . exact aA c z
         . have z:c∈rr::ba:=by simpa using z
           have:c∈rr::fq:=by
            rcases List.mem_cons.mp z with e|e
            . rw[e];exact Q06
            . exact Q0b _ (ak.subset (aX.subset e))
           exact⟨(ac c this).1,(ac c this).2.1⟩
     . have aT:∀z:¬(by_≠""/\I.1≠[]/\nx ns (I.2+1) / 3 % 2=0),_:=λz=>hB _ _ ⟨kvs,fq,a9.1,rfl,aI,λ_ _=>rfl,a1,List.Sublist.refl _,ay.names,rfl,(if_neg z).symm⟩;refine(Zr rfl ⟨pk,_,_,Zr rfl ⟨rfl,d_.of aF,rfl,rfl,Zr rfl (fJ (λc1=>?_) (λc1=>?_))⟩⟩)
       . refine(Zr rfl ⟨pr,Zr rfl ⟨.inl (eA.of az),_,Zr rfl ⟨rfl,Zr rfl (fJ (λc2=>?_) (λc2=>?_))⟩⟩⟩)
         . refine(Zr rfl ⟨_,Zr rfl ⟨rfl,⟨by decide,by decide⟩,_,Zr rfl ⟨rfl,(by show(0:Int)<2;decide),rfl,Zr rfl (fJ (λc3=>?_) (λc3=>aT λz=>c3 (decide_eq_true (show V.int (nx ns (I.2+1) / 3 % 2)=V.int 0 by rw[z.2.2]))))⟩⟩⟩);have d1:by_≠"":=λz=>by rw[z] at c1;exact absurd c1 (by decide)
           have d3:nx ns (I.2+1) / 3 % 2=0:=by
            have this:V.int (nx ns (I.2+1) / 3 % 2)=V.int 0:=of_decide_eq_true c3;injection this
           have a4:0<vs.length:=by have:=of_decide_eq_true c2;omega
           obtain⟨aU,cd⟩:=A3.len Y;have aE:=A3.at (a0:=V.non) (b0:=Ds.nil) (c0:=[]) Y (vs.length - 1) (by omega);have hg:vs[vs.length - 1]? =some (vs.getD (vs.length - 1) .non):=by rw[Q0d,Q02 (by omega)];rfl
           have d2:I.1≠[]:=λz=>by rw[z] at aU;rw[aU] at a4;exact absurd a4 (by decide)
           have b1:I.1.getD (vs.length - 1) .nil=I.1.getLastD .nil:=by
            rw[aU,Q0d,List.getLastD_eq_getLast?,List.getLast?_eq_getElem?]
           have b2:I.1.getLastD .nil∈I.1:=uP d2;rw[b1] at aE;generalize vs.getD (vs.length - 1) .non=lv at *;unfold Own at aE;obtain⟨rl,cn,co,rfl,b3,_,b4⟩:=aE;have aV:fs.pl by_:=bh.resolve_left d1;have gl:gf H2 rl (.str by_) (some (kV (keyOf (I.1.getLastD .nil) by_))):=by have:=gf.k (k:=Sum.inr by_) b3;rw[b4.key (bx _ b2).1 aV] at this;exact this
           obtain⟨aJ,aQ,ak⟩:=a1.rS (v:=kV (keyOf (I.1.getLastD .nil) by_)) (e:=kD (keyOf (I.1.getLastD .nil) by_)) Ci (am aV ay.names);refine(Zr rfl (Zr rfl ⟨pr,_,_,Zr rfl ⟨rfl,eA.of az,Iv hg,Zr rfl ⟨pk,_,_,Zr rfl ⟨rfl,d_.of aF,rfl,rl,Zr rfl ⟨gl,Zr rfl (Zr rfl ⟨pk,_,_,Zr rfl ⟨rfl,d_.of aF,rfl,rr,Zr rfl ⟨jx.k (k:=Sum.inr by_) aI (bo _ rfl),?_⟩⟩⟩)⟩⟩⟩⟩⟩));exact hB _ _ ⟨_,aJ,Zr rfl ⟨eF,λc hc=>eu hc,aQ,ak,by rw[Ds.rO];exact ay.names,Iw a1 (am aV ay.names),(if_pos ⟨d1,d2,d3⟩).symm⟩⟩
         . refine aT λz=>c2 (decide_eq_true ?_);have:=(A3.len Y).1;have hp:0<I.1.length:=List.length_pos_iff.mpr z.2.1;omega
       . refine aT λz=>c1 ?_;rw[decide_eq_false (λe=>z.1 (by injection e))];rfl
   . have c:¬0<nx ns (I.2+1) % 3:=λz=>c (decide_eq_true z);rw[if_neg c] at add;rw[add];exact⟨_,_,_,vs,fl,rfl,aH,h1,aZ,aL,al,aA,by omega⟩
 . intro σ H' zq;obtain⟨x,y,z,vs,fl,rfl,kp,aj,aG,aK,ae,aA,bj⟩:=zq;rw[Q03] at aj ae bj;have so:=bf ps.length;rw[Q0s] at aj ae so;have bm:Tu H H':=kp.tu hb hT;have bt:=hS.kp kp hb hT be;refine(Zr rfl (uR (eA.of aK) ae (by omega) bt rfl (bm _ _ a5) (λm hm=>(so.ok m hm).1) a2 bh (so.keys.nodup bK) λD b5 b6 H2 ft b7 hD b8 Y bd=>?_));obtain⟨cp,bu⟩:=bt.tab;have b9:b≠Ps:=gZ aj bu (by intro z;cases z);refine q D b5 b6 H2 (λc o nc e=>ft c o (λz=>nc (.inr (.inr z))) (kp c o (λz=>nc (z.elim .inl λz=>.inr (.inl z))) e)) (ft b _ b9 aj) ?_ b7 b8 Y (λc hc=>?_)
   . obtain⟨ca,bv⟩:=aG.tab;exact aG.iL ft bu (Ne.symm be)
   . rcases List.mem_cons.mp hc with z|z
     . rw[z];obtain⟨ca,bv⟩:=aG.tab;exact kp.pC (λe=>e.elim (λe=>by rw[e,aj] at hD;cases hD) (λe=>by rw[e,bv] at hD;cases hD)) hD
     . exact(aA c ((Bg bd).mem_iff.mp z)).1
end Pb
namespace L2
open Spec PyProof.Rows
section
variable {X:Cx}{pins:List (Addr × Obj)}{σ:St}{H:Hp}{s:Shared}
end
section
variable {prog:Program}{w:World}{A:Around}{E:Value->Shared->Prop}{s:Shared}
end
section
variable {X:Cx}
end
end L2
namespace Pb
open L2
end Pb
namespace L2
open Spec PyProof.Rows
section
variable {X:Cx}
theorem Iz:ji X (.type "dict") (λxs H Q=>∃a kvs,xs=[.ref a]/\H a=some (.dK kvs)/\∀l,H l=none->Q (.ref l) (upd H l (.dK kvs))):=by
 intro pins s σ H xs us Q I r h;obtain⟨a,kvs,rfl,U,q⟩:=h;obtain⟨u,rfl,Y⟩:=vals1 r
 cases Y;obtain⟨z,sm,vs,J,dd⟩:=tF I.hok U;refine kt_call_dict sm dd (by rw[<-J.length];exact z) λh' hd hs=>?_;have hb:(s.heap.objs.size == sysModules)=false:=beq_eq_false_iff_ne.mpr (Q0t I.big);refine⟨.ref s.heap.objs.size,_,I.laid (a:=s.heap.objs.size) (o:=.dK kvs) (t':=s.toks) (λb o e=>?_) (Q00 _) ⟨z,hb,vs,J,hd⟩,rfl,q _ (I.hok.fresh (Q00 _))⟩;exact hs.extBut b o (Q0a (Q01 e)) (Q07 _ e)
end
section
variable {X:Cx}
def IA:V->List V->Hp->VK->Prop:=λx vs H Q=>∃a kvs k v,x=.ref a/\vs=[kV k]/\H a=some (.dK kvs)/\gJ kvs k=some v/\Q v (upd H a (.dK (kK kvs k)))
theorem IB:tm X "dict.pop" IA:=by
 intro pins s σ H x vs v us Q I J U h;obtain⟨a,kvs,k,w,rfl,rfl,Y,hv,q⟩:=h;obtain⟨u,rfl,ru⟩:=vals1 U
 cases J;exact FU I Y ru hv (.inl rfl) λw' s3 I3 r=>⟨w,_,I3,r,q⟩
end
end L2
namespace Pb
open L2
def Cn (b:Addr) (H:Hp) (v:V) (d:D):Prop:=∃fp,Own H v d fp/\b ∉ fp
def iW (b:Addr) (H:Hp) (kvs:List (Key × V)) (m:Ds):Prop:=∃fp,eO H kvs m fp/\b ∉ fp
section
variable {b:Addr}{H H':Hp}{n:Int}
theorem iW.cons {x:Str}{v:V}{d:D}{vs:List (Key × V)}{r:Ds}(h:Cn b H v d)(t:iW b H vs r):iW b H ((Sum.inr x,v)::vs) (.cons x d r):=by
 obtain⟨f1,h1,J⟩:=h;obtain⟨I,h2,U⟩:=t;refine⟨f1++I,?_,by rw[List.mem_append];exact λz=>z.elim J U⟩;unfold eO;exact⟨v,vs,f1,I,rfl,rfl,h1,h2⟩
theorem iW.nil:iW b H [] .nil:=⟨[],by unfold eO;exact⟨rfl,rfl⟩,by simp⟩
theorem iW.IC {kvs:List (Key × V)}(h:iW b H kvs .nil):kvs=[]:=by
 obtain⟨f,h,_⟩:=h;unfold eO at h;exact h.1
theorem iW.ID {kvs:List (Key × V)}{x:Str}{d:D}{r:Ds}(h:iW b H kvs (.cons x d r)):∃v q,kvs=(Sum.inr x,v)::q/\Cn b H v d/\iW b H q r:=by
 obtain⟨f,h,I⟩:=h;unfold eO at h;obtain⟨v,q,f1,J,e,rfl,h1,h2⟩:=h;exact⟨v,q,e,⟨f1,h1,λz=>I (Q0v _ z)⟩,J,h2,λz=>I (Q08 _ z)⟩
theorem iW.del {x:Str}:∀{m:Ds}{kvs:List (Key × V)},iW b H kvs m->iW b H (kK kvs (Sum.inr x)) (m.del x)
 | .nil,kvs,h=>by rw[h.IC];exact .nil
 | .cons y d r,kvs,h=>by
   obtain⟨w,q,rfl,h1,h2⟩:=h.ID;have I:=iW.del (x:=x) h2;unfold kK at I ⊢;unfold Ds.del;by_cases c:y=x
   . rw[if_pos c,List.filter_cons_of_neg (by simp[c])];exact I
   . rw[if_neg c,List.filter_cons_of_pos (by simp[c])];exact .cons h1 I
end
end Pb
namespace L2
open Spec PyProof.Rows
section
variable {X:Cx}
def IE (K:W.Frag):R2:=λx y H Q=>kH x y H Q\/(∃s a xs,x=.str s/\y=.ref a/\eA K H a xs/\Q (.bl false) H)
theorem IF (hu:X.A.units+1<cLine):gH X (compareOp .Eq) (IE X.K):=by
 intro pins s σ H x y v u Q I J U h;rcases h with h|⟨t,a,xs,rfl,rfl,Y,q⟩
 . exact fi pins s σ H x y v u Q I J U h
 . obtain⟨tk,rfl⟩:=J
   cases U;obtain⟨aa,r1,p1,_⟩:=I.list Y;exact W.cmp_ofEq (SeqAt.RcAt.str_list t tk p1.isList (by omega) _ _ _ _ ⟨.bl false,H,I,rfl,q⟩)
end
end L2
namespace Pb
open L2
theorem Fs.get_mem:∀{fs:Fs}{x:Str}{k:Kd},fs.get x=some k->x∈fs.names
 | .nil,_,_,h=>by cases h
 | .cons y q r,x,k,h=>by
   have h:(if x=y then some q else r.get x)=some k:=h;by_cases e:x=y
   . rw[e];exact Q06
   . rw[if_neg e] at h;exact Q0b _ (Fs.get_mem h)
theorem uT {K:PySem.W.Frag}{a:Addr}{xs:List V}{g:TG}{tb:TS}{D:Ends}{σ:St}{H:Hp}(Pv:Nat->St->Hp->Prop)(h0:Pv 0 σ H)(hl:∀i σ H,i<=xs.length->Pv i σ H->eA K H a xs)
 (hs:∀(i:Nat) y σ H p,xs[i]? =some y->Pv i σ H->H p=none->g (.ref p) σ (upd H p (.tup [.int i,y])) λI H2=>tb { D with nx:=Pv (i+1),ct:=Pv (i+1),bk:=D.nx } I H2) (hd:∀σ H,Pv xs.length σ H->D.nx σ H):
 ∃W:Nat->Nat->St->Hp->Prop,(∃m,W 0 m σ H)/\∀i m σ H,W i m σ H->
  ((Ite K a).stop i H/\D.nx σ H)\/((Ite K a).go i H/\∃N:St->Hp->Prop,(∀J H',N J H'->∃Y,Y<m/\W (i+1) Y J H')/\∀x H',(Ite K a).jN i H x H'->g x σ H' λI H2=>tb { D with nx:=N,ct:=N,bk:=D.nx } I H2):=by
 refine⟨λi m σ H=>m=xs.length - i/\i<=xs.length/\Pv i σ H,⟨xs.length,by simp,Q04 _,h0⟩,?_⟩;rintro i m σ H ⟨rfl,hi,p⟩;by_cases U:i<xs.length
 . refine .inr ⟨⟨xs,xs[i],hl i σ H hi p,by simp[U]⟩,Pv (i+1),λJ H' p'=>⟨xs.length - (i+1),by omega,rfl,U,p'⟩,λx H' y=>?_⟩;obtain⟨q,y,hq,rfl,hy,rfl⟩:=y;exact hs i y σ H q (hy xs (hl i σ H hi p)) p hq
 . have e:i=xs.length:=by omega
   subst e;exact .inl ⟨⟨xs,hl _ σ H (Q00 _) p,Q00 _⟩,hd σ H p⟩
theorem Co {k:Key}:∀{kvs:List (Key × V)},k∈kvs.map (·.1)->(gJ kvs k).isSome=true
 |[],h=>by simp at h
 |p::r,h=>by
  by_cases e:p.1=k
  . rw[oY e];rfl
  . rw[oZ e];rcases List.mem_cons.mp (show k∈p.1::r.map (·.1) from h) with z|z
    . exact absurd z.symm e
    . exact Co z
def Cp (K:W.Frag) (H:Hp) (v:V):Option Str->Prop
 |some x=>v=.str x
 |none=>(∃z,v=.int z)\/∃a xs,v=.ref a/\eA K H a xs
def rT (H:Hp) (u:V):Option Kd->Prop
 |some k=>KA H u k
 |none=>u=.non
def Cq (K:W.Frag):Sp:=λvs H Q _=>∃b v xs fs o,vs=[.ref b,v]/\H b=some (.tup xs)/\FA H xs fs/\fs.names.Nodup/\Cp K H v o/\∀u,rT H u (o.bind fs.get)->Q u H
noncomputable def D.m7:D->Bool
 | .tup xs=>decide (xs.len=2)
 |_=>false
def uU:Sp:=λvs H Q _=>∃v d fp,vs=[v]/\Own H v d fp/\Q (.bl d.m7) H
noncomputable def hasB (fs:Fs) (m:Ds):Bool:=decide (m.names.length=fs.names.length) && fs.names.all λx=>decide (x∈m.names)
def Cr:Sp:=λvs H Q _=>∃b a xs kvs fs m fp,vs=[.ref b,.ref a]/\H b=some (.tup xs)/\FA H xs fs/\fs.names.length<=12/\H a=some (.dK kvs)/\eO H kvs m fp/\∀H',Same H H'->Q (.bl (hasB fs m)) H'
def Rs (n:Nat) (k:Kd) (d:D):Option (List Key)->Prop
 |none=>eV k d/\d.dep<=n/\d.Sm
 |some p=>gL n k d p/\p.length<=1000
def jE (H:Hp) (u:V):Option (List Key)->Prop
 |none=>u=.non
 |some p=>∃l,u=.ref l/\H l=some (.lst (p.map kV))
def m8 (n:Nat):Sp:=λvs H Q _=>∃I v k d fp r,vs=[I,v]/\KA H I k/\k.W/\Own H v d fp/\Rs n k d r/\∀u H',Same H H'->jE H' u r->Q u H'
def uV (n:Nat):Sp:=λvs H Q _=>∃b v xs fs d fp r,vs=[.ref b,v]/\H b=some (.tup xs)/\FA H xs fs/\fs.names.Nodup/\fs.names.length<=12/\fs.W/\Own H v d fp/\Rs (n+1) (.eZ fs) d r/\∀u H',Same H H'->jE H' u r->Q u H'
def Cs (n:Nat):Sp:=λvs H Q _=>∃pk pb v xs key by_ fs d fp r,vs=[.ref pk,v]/\H pk=some (.tup [.str "rows",.str key,.str by_,.ref pb])/\H pb=some (.tup xs)/\FA H xs fs/\(Kd.rows key by_ fs).W/\Own H v d fp/\Rs (n+1) (.rows key by_ fs) d r/\∀u H',Same H H'->jE H' u r->Q u H'
def pX (n:Nat):Sp:=λvs H Q _=>∃a w v k d fp r,vs=[.ref a,v]/\H a=some (.tup [.str "tree",w])/\KA H w k/\k.W/\Own H v d fp/\Rs n (.tree k) d r/\∀u H',Same H H'->jE H' u r->Q u H'
def Ct (n:Nat):Sp:=λvs H Q _=>∃b v xs fs d fp r,vs=[.ref b,v]/\H b=some (.tup xs)/\FA H xs fs/\fs.names.Nodup/\fs.W/\Own H v d fp/\Rs (n+1) (.gA fs) d r/\∀u H',Same H H'->jE H' u r->Q u H'
theorem KA.IG {H:Hp}:∀{u:V}{k:Kd},KA H u k->u≠ .non
 |_,.num,h=>by unfold KA at h;obtain⟨a,rfl,_⟩:=h;intro z;cases z
 |_,.fE,h=>by unfold KA at h;obtain⟨a,rfl,_⟩:=h;intro z;cases z
 |_,.eZ _,h=>by unfold KA at h;obtain⟨a,b,vs,rfl,_⟩:=h;intro z;cases z
 |_,.rows _ _ _,h=>by unfold KA at h;obtain⟨a,b,vs,rfl,_⟩:=h;intro z;cases z
 |_,.tree _,h=>by unfold KA at h;obtain⟨a,b,rfl,_⟩:=h;intro z;cases z
 |_,.gA _,h=>by unfold KA at h;obtain⟨a,b,vs,rfl,_⟩:=h;intro z;cases z
variable {P:Program}{w:World}{K:W.Frag}{mg:Str->Option Value}{base:Heap}
theorem IH:fG ["fields","name","pair"] ["fields","name"] (eX (top 5)):=fW
theorem II (T:Tb mg)(I:Dn K mg "kind_at" pK (top 5) J U):eE P w K mg base eI (1) J U pK (Cq K):=by
 refine I.F.ok IH λvs H Q E h=>?_;obtain⟨b,v,xs,fs,o,rfl,hb,aa,ac,hv,q⟩:=h;refine⟨rfl,λag A outer s nd hr hu=>?_⟩
 refine⟨_,(en (ie PassesOwn.never rfl (j2 (pv 0)) (fQ (i:=2) nd rfl gq) (eG (eR (eP (IF hu) (eK (pv 2) b_) (pv 1) (eM _)) (eG (eJ (eK (pv 2) b_))) eS)))
  (eG (eJ h8))),?_⟩
 ac_rfl
 refine(Zr rfl ⟨b,rfl,⟨_,d_.of hb⟩,mi (xs:=xs) (λi σ H'=>H'=H/\(∃z,σ=[some (.ref b),some v,z])/\∀j x,o=some x->j<i->fs.names[j]? ≠some x) ⟨rfl,⟨_,rfl⟩,λj x _ hj=>absurd hj (by omega)⟩ ?_ ?_ ?_⟩)
 . rintro i σ H' _ ⟨rfl,_⟩;exact d_.of hb
 . rintro i w σ H' hw ⟨rfl,⟨z,rfl⟩,Y⟩;obtain⟨c,u,nm,k',rfl,ab,hc,hk⟩:=FA.get fs aa hw;have ae:fs.names[i]? =some nm:=by rw[Fs.jT,ab];rfl
   cases o with
   |some x=>
    have hv:v=.str x:=hv;subst hv;refine(Zr rfl ⟨c,_,_,Zr rfl ⟨rfl,d_.of hc,rfl,Zr rfl (.inl ⟨rfl,Zr rfl (fJ (λcc=>?_) (λcc=>?_))⟩)⟩⟩)
    . have e:nm=x:=by
       have:=of_decide_eq_true cc;injection this
      subst e;refine(Zr rfl ⟨c,_,_,Zr rfl ⟨rfl,d_.of hc,rfl,q u ?_⟩⟩);show rT H' u (fs.get nm);rw[Fs.jU ac ab];exact hk
    . refine⟨rfl,⟨_,rfl⟩,λj y hy hj=>?_⟩
      cases hy;by_cases e:j<i
      . exact Y j x rfl e
      . have:j=i:=by omega
        subst this;rw[ae];intro z
        cases z;exact cc (decide_eq_true rfl)
   |none=>
    have done:(λ(σ:St) (af:Hp)=>af=H'/\(∃z,σ=[some (.ref b),some v,z])/\∀j x,(none:Option Str)=some x->j<i+1->fs.names[j]? ≠some x) [some (.ref b),some v,some (.ref c)] H':=⟨rfl,⟨_,rfl⟩,λ_ _ hx=>by cases hx⟩;rcases hv with⟨z,rfl⟩|⟨a,ys,rfl,ha⟩
    . exact(Zr rfl ⟨c,_,_,Zr rfl ⟨rfl,d_.of hc,rfl,Zr rfl (.inl ⟨rfl,Zr rfl (fk done)⟩)⟩⟩)
    . exact(Zr rfl ⟨c,_,_,Zr rfl ⟨rfl,d_.of hc,rfl,Zr rfl (.inr ⟨nm,a,ys,rfl,rfl,ha,Zr rfl (fk done)⟩)⟩⟩)
 . rintro σ H' ⟨rfl,⟨z,rfl⟩,Y⟩;refine q .non ?_
   cases o with
   |none=>rfl
   |some x=>
    show rT H' .non (fs.get x)
    cases e:fs.get x with
    |none=>rfl
    |some k=>
     obtain⟨j,hj,e'⟩:=Q13 (Fs.get_mem e);exact absurd (by rw[Q02 hj,e']) (Y j x rfl (by rw[FA.len fs aa];exact hj))
theorem IJ:fG ["value"] ["value"] (eX (top 11)):=fW
theorem IK (T:Tb mg)(I:Dn K mg "is_pair" mT (top 11) J U):eE P w K mg base eI (1) J U mT (uU):=by
 refine I.F.ok IJ λvs H Q E h=>?_;obtain⟨v,d,fp,rfl,Y,q⟩:=h;refine⟨rfl,λaa A outer s nd hr hu=>?_⟩;refine⟨_,(eG (eJ (lB (fA iy (by rfl) T.iz boot_isinstance (a_ (pv 0) (a_ (iq (v:=.ty "tuple") rfl T.pF boot_tuple rfl) c_))) (ku (iO fi (fA gO (by rfl) T.gB PySem.boot_len (a_ (pv 0) c_)) b_ (eM _)))))),?_⟩
 ac_rfl
 cases d with
 |int z=>
  unfold Own at Y;obtain⟨rfl,_⟩:=Y;exact(Zr rfl ⟨_,_,_,false,rfl,.int z,rfl,false,rfl,fk q⟩)
 |str z=>
  unfold Own at Y;obtain⟨rfl,_⟩:=Y;exact(Zr rfl ⟨_,_,_,false,rfl,.str z,rfl,false,rfl,fk q⟩)
 |non=>
  unfold Own at Y;obtain⟨rfl,_⟩:=Y;exact(Zr rfl ⟨_,_,_,false,rfl,.non,rfl,false,rfl,fk q⟩)
 |boo z=>
  unfold Own at Y;obtain⟨rfl,_⟩:=Y;exact(Zr rfl ⟨_,_,_,false,rfl,.bl z,rfl,false,rfl,fk q⟩)
 |lst xs=>
  unfold Own at Y;obtain⟨a,vs,fq,rfl,ha,_,hl⟩:=Y;exact(Zr rfl ⟨_,_,_,false,rfl,.lst ha,rfl,false,rfl,fk q⟩)
 |dct m=>
  unfold Own at Y;obtain⟨a,vs,fq,rfl,ha,_,hl⟩:=Y;exact(Zr rfl ⟨_,_,_,false,rfl,.dK ha,rfl,false,rfl,fk q⟩)
 |tup xs=>
  unfold Own at Y;obtain⟨a,vs,rfl,ha,hl⟩:=Y;refine(Zr rfl ⟨_,_,_,true,rfl,.tup ha,rfl,true,rfl,fv ?_⟩);refine(Zr rfl ⟨a,Zr rfl ⟨.inr (d_.of ha),rfl,?_⟩⟩)
  have e:decide (V.int (vs.length:Nat)=V.int 2)=(D.tup xs).m7:=by
   show _=decide (xs.len=2);rw[eQ.len xs hl];rw[Bool.eq_iff_iff,decide_eq_true_iff,decide_eq_true_iff];constructor
   . intro z;injection z with z;omega
   . intro z;rw[z];rfl
  rw[e];exact q
theorem IL:fG XS XS (eX (top 9)):=fW
theorem IM (T:Tb mg)(I:Dn K mg "has_just" jB (top 9) J U):eE P w K mg base eI (1) J U jB (Cr):=by
 refine I.F.ok IL λvs H Q E h=>?_;obtain⟨b,a,xs,kvs,fs,m,fp,rfl,hb,aa,hx,ha,hO,q⟩:=h;refine⟨rfl,λae A outer s nd hr hu=>?_⟩;refine⟨_,(eG (eJ (lB (iO fi (fA Aq (by rfl) T.gB PySem.boot_len (a_ (pv 1) c_)) (fA gO (by rfl) T.gB PySem.boot_len (a_ (pv 0) c_)) (eM _)) (ku (fA (qD rfl) (by rfl) T.q9 boot_all (a_ (lF (g:=(oP K 2 (kz (gX 0) (kz (gX 1) oO)))) (tt:=kM) (te:=_) (own:=["name","inner"]) rfl (jb (N:=XS) (sc:=eX (top 9))) (j2 (pv 0)) (λ_ _ _ _ _=>(i7 rfl (gQ (fQ (i:=0) (show(["name","inner","fields","record"]:List Str).Nodup by decide +kernel) rfl (Or.inl rfl) (.inr rfl)) (gQ (fQ (i:=1) (show(["name","inner","fields","record"]:List Str).Nodup by decide +kernel) rfl (Or.inl rfl) (.inr rfl)) i6)))) (λ_ _ _ _ _=>mC) (λ_ _ _ _ _=>(EB (tH hu (pv 0) (pv 3)) (by with_unfolding_all rfl)))) c_)))))),?_⟩
 ac_rfl
 have e1:kvs.length=m.names.length:=eO.len hO;have e2:xs.length=fs.names.length:=FA.len fs aa;have af:xs.length<=12:=by omega
 refine(Zr rfl ⟨a,Zr rfl ⟨ha,Zr rfl ⟨b,Zr rfl ⟨.inr (d_.of hb),rfl,Zr rfl ?_⟩⟩⟩⟩);by_cases c:m.names.length=fs.names.length
 . rw[decide_eq_true (show V.int (kvs.length:Nat)=V.int (xs.length:Nat) by rw[e1,e2,c])];refine fv ?_;refine(Zr rfl ⟨b,rfl,⟨_,d_.of hb⟩,λi k ys H'=>H'=H/\k=xs.length - i/\i<=xs.length/\ys=((fs.names.take i).map λx=>decide (x∈m.names)).map V.bl,⟨xs.length,rfl,by simp,Q04 _,rfl⟩,?_⟩);rintro i k ys H' ⟨rfl,rfl,hi,rfl⟩;by_cases Y:i<xs.length
   . refine .inr ⟨⟨xs,xs[i],d_.of hb,by simp[Y]⟩,by rw[Q03,Q03,Q0l];exact gz (by omega),λx H' y=>?_⟩;obtain⟨rfl,y⟩:=y;have hv:=y xs (d_.of hb);obtain⟨c',u,nm,k,rfl,ab,hc,hk⟩:=FA.get fs aa hv;have ac:fs.names[i]? =some nm:=by rw[Fs.jT,ab];rfl
     refine⟨c',Zr rfl ⟨d_.of hc,rfl,_,Zr rfl ⟨_,Zr rfl ⟨rfl,rfl,yes (fv ?_)⟩⟩⟩⟩;refine(Zr rfl (Zr rfl ⟨a,Zr rfl ⟨gf.k (k:=Sum.inr nm) ha,?_⟩⟩));refine⟨xs.length - (i+1),by omega,rfl,rfl,Y,?_⟩;rw[Q0x,ac,Q0i,Q0i];congr 1;show [V.bl (gJ kvs (Sum.inr nm)).isSome]=[V.bl (decide (nm∈m.names))];congr 2;by_cases z:nm∈m.names
     . rw[decide_eq_true z];obtain⟨j,hj,e⟩:=Q13 z;have hk:=eO.keys m hO;have:(Sum.inr nm:Key)∈kvs.map (·.1):=by rw[hk];exact Q1d z
       exact Co this
     . rw[decide_eq_false z,eO.Bf hO z];rfl
   . refine .inl ⟨⟨xs,d_.of hb,Q17 Y⟩,λp hp=>⟨p,(fs.names.take i).map λx=>decide (x∈m.names),rfl,eA.of eF,?_⟩⟩;have e:i=fs.names.length:=by omega
     have:((fs.names.take i).map λx=>decide (x∈m.names)).all id=hasB fs m:=by
      unfold hasB;rw[decide_eq_true c,Bool.true_and,e,Q0s,List.all_map];rfl
     rw[this];exact q _ (Same.new hp)
 . rw[decide_eq_false (show ¬V.int (kvs.length:Nat)=V.int (xs.length:Nat) by intro z;injection z with z;omega)];refine fk ?_;have:hasB fs m=false:=by unfold hasB;rw[decide_eq_false c,Bool.false_and]
   rw[this] at q;exact q _ (Same.refl _)
noncomputable def D.tag:D->String
 | .int _=>"int"
 | .str _=>"str"
 | .non=>"NoneType"
 | .boo _=>"bool"
 | .tup _=>"tuple"
 | .lst _=>"list"
 | .dct _=>"dict"
theorem Own.ty {K:W.Frag}{H:Hp}:∀{d:D}{v:V}{fp:List Addr},Own H v d fp->iP K H v (.type d.tag)
 | .int z,v,fp,h=>by unfold Own at h;rw[h.1];exact .int z
 | .str z,v,fp,h=>by unfold Own at h;rw[h.1];exact .str z
 | .non,v,fp,h=>by unfold Own at h;rw[h.1];exact .non
 | .boo z,v,fp,h=>by unfold Own at h;rw[h.1];exact .bl z
 | .tup xs,v,fp,h=>by unfold Own at h;obtain⟨a,vs,rfl,I,_⟩:=h;exact .tup I
 | .lst xs,v,fp,h=>by unfold Own at h;obtain⟨a,vs,J,rfl,I,_⟩:=h;exact .lst I
 | .dct xs,v,fp,h=>by unfold Own at h;obtain⟨a,vs,J,rfl,I,_⟩:=h;exact .dK I
theorem IP {K:W.Frag}{d:D}(h:∀m,d≠ .dct m):W.kitOne K (.type d.tag) (.type "dict")=some false:=by
 cases d <;> first|rfl|exact absurd rfl (h _)
theorem Cu {K:W.Frag}{d:D}(h:∀m,d≠ .lst m):W.kitOne K (.type d.tag) (.type "list")=some false:=by
 cases d <;> first|rfl|exact absurd rfl (h _)
theorem IQ {K:W.Frag}{d:D}(h:∀m,d≠ .str m):W.kitOne K (.type d.tag) (.type "str")=some false:=by
 cases d <;> first|rfl|exact absurd rfl (h _)
theorem Cw {fs:Fs}{m:Ds}(h:m.names=fs.names):hasB fs m=true:=by
 unfold hasB;rw[h,decide_eq_true rfl,Bool.true_and,Q12];exact λx I=>decide_eq_true I
theorem IS {fs:Fs}{m:Ds}(h:m.names.length≠fs.names.length\/∃x∈fs.names,x ∉ m.names):hasB fs m=false:=by
 unfold hasB;rcases h with h|⟨x,h1,h2⟩
 . rw[decide_eq_false h,Bool.false_and]
 . have:(fs.names.all λx=>decide (x∈m.names))=false:=by
    rw[List.all_eq_false];exact⟨x,h1,by simp[h2]⟩
   rw[this,Bool.and_false]
theorem IT {n:Nat}{fs:Fs}{m:Ds}{r:Option (List Key)}(aa:fs.names.Nodup)(hR:Rs (n+1) (.eZ fs) (.dct m) r):(hasB fs m=false/\r=some [])\/(hasB fs m=true/\∃stop:Nat->Prop,stop 0/\(stop fs.names.length->r=none)/\
 ∀i x k,stop i->fs.at i=some (x,k)->∃e,m.get x=some e/\((Rs n k e none/\stop (i+1))\/∃p',r=some (Sum.inr x::p')/\Rs n k e (some p'))):=by
 cases r with
 |none=>
  obtain⟨hF,hd,U⟩:=hR;unfold eV at hF;obtain⟨m',e,hF⟩:=hF
  cases e;simp only[D.dep] at hd;unfold D.Sm at U;refine .inr ⟨Cw hF.names,λ_=>True,trivial,λ_=>rfl,λi x k _ I=>?_⟩;obtain⟨e,he,hf⟩:=hF.get (Fs.jU aa I);exact⟨e,he,.inl ⟨⟨hf,Q0e (Ds.qW he) (by omega),Ds.rE U.2 he⟩,trivial⟩⟩
 |some p=>
  obtain⟨hM,Y⟩:=hR
  cases hM with
  |mY h=>
   exact .inl ⟨IS (h m rfl),rfl⟩
  |@pT _ _ _ J x0 k0 d0 p0 h1 h2 hj hg hm=>
   refine .inr ⟨Cw h1,λi=>i<=J,Q04 _,λhh=>?_,λi x k hi I=>?_⟩
   . have:J<fs.names.length:=(List.getElem?_eq_some_iff.mp (by rw[Fs.jT,h2];rfl:fs.names[J]? =some x0)).1;exact absurd hh (by omega)
   . by_cases e:i=J
     . subst e;rw[h2] at I
       cases I;exact⟨d0,hg,.inr ⟨p0,rfl,hm,by rw[Q0j] at Y;omega⟩⟩
     . obtain⟨e',ab,ac,ae,af⟩:=hj i x k (by omega) I;exact⟨e',ab,.inl ⟨⟨ac,ae,af⟩,by show i+1<=J;omega⟩⟩
theorem jr {n:Nat}(h:n<=2000):n<=sizeLine:=Q0e h (by decide)
theorem IU:fG ["fields","record","name","inner","place"] XS (eX (top 8)):=fW
theorem IV (n:Nat)(T:Tb mg)(I:Dn K mg "record_misfit" jB (top 8) J U)(Y:Dn K mg "has_just" jB (top 9) aa ab)(ac:eE P w K mg base eI (1) aa ab jB (Cr))(ae:Dn K mg "misfit" je (top 7) af ag)(ah:eE P w K mg base eI (4 * n+3) af ag je (m8 n)):eE P w K mg base eI (4 * n+4) J U jB (uV n):=by
 refine I.F.ok IU λvs H Q E h=>?_;obtain⟨b,v,xs,fs,d,fp,r,rfl,hb,ao,aw,hx,au,hO,hR,q⟩:=h;refine⟨rfl,λaA A outer s nd hr hu=>?_⟩
 refine⟨_,(en (eR (PW.pt (ic (hU (gN (fA iy (by rfl) T.iz boot_isinstance (a_ (pv 1) (a_ (iq (v:=.ty "dict") rfl T.uq boot_dict rfl) c_))))) (ib (hU (gN (eN ac hr Y (a_ (pv 0) (a_ (pv 1) c_)))))))) (eG (eJ (fY c_))) eS)
  (en (ie PassesOwn.never rfl (j2 (pv 0)) (i7 rfl (gQ (fQ (i:=2) nd rfl gq) (gQ (fQ (i:=3) nd rfl gq) i6))) (en (eW 4 nd (eN ah hr ae (a_ (pv 3) (a_ (h9 hu (pv 1) (pv 2) (λ_ _=>rfl)) c_))))
  (eG (eR (eP ml (pv 4) h8 (eM _)) (eG (eJ (eB ig (fY (a_ (pv 2) c_)) (pv 4)))) eS))))
  (eG (eJ h8)))),?_⟩
 ac_rfl
 have leaf:∀H1,Same H H1->r=some []->(0:Nat)<=sizeLine/\∀p,H1 p=none->Q (.ref p) (upd H1 p (.lst [])):=λH1 s1 e=>⟨Q04 _,λp hp=>by
  subst e;exact q _ _ (s1.trans (Same.new hp)) ⟨p,rfl,eF⟩⟩
 by_cases al:∃m,d=.dct m
 . obtain⟨m,rfl⟩:=al;unfold Own at hO;obtain⟨a,kvs,fq,rfl,ha,_,hO⟩:=hO;refine(Zr rfl ⟨_,_,_,true,rfl,.dK ha,rfl,true,rfl,fk ?_⟩);refine(Zr rfl (Zr rfl ⟨b,a,xs,kvs,fs,m,fq,rfl,hb,ao,hx,ha,hO,λH1 s1=>?_⟩));rcases IT aw hR with⟨hh,er⟩|⟨hh,stop,ax,ay,step⟩
   . rw[hh];exact⟨false,rfl,fv (leaf H1 s1 er)⟩
   . rw[hh];refine⟨true,rfl,fk ?_⟩;refine(Zr rfl ⟨b,rfl,⟨_,d_.of (s1 _ _ hb)⟩,mi (xs:=xs) (λi σ H'=>Same H H'/\stop i/\∃x y z,σ=[some (.ref b),some (.ref a),x,y,z]) ⟨s1,ax,_,_,_,rfl⟩ ?_ ?_ ?_⟩)
     . rintro i σ H' _ ⟨s2,_⟩;exact d_.of (s2 _ _ hb)
     . intro i v σ H' hv zq;obtain⟨s2,aj,x,y,z,rfl⟩:=zq;obtain⟨c,u,nm,k,rfl,ap,hc,hk⟩:=FA.get fs ao hv;obtain⟨e,he,ar⟩:=step i nm k aj ap;obtain⟨ev,f,am,an,_⟩:=eO.val _ hO he;refine⟨c,Zr rfl ⟨d_.of (s2 _ _ hc),rfl,_,Zr rfl ⟨_,Zr rfl ⟨rfl,?_⟩⟩⟩⟩;rcases ar with⟨ak,av⟩|⟨p',er,ak⟩
       . refine(Zr rfl (Zr rfl (Zr rfl ⟨a,ev,rfl,(by have:=gf.k (k:=Sum.inr nm) (s2 _ _ ha);rw[am] at this;exact this),u,ev,k,e,f,none,rfl,KA.mono (Tu.of s2) k hk,Fs.kU au ap,Own.same s2 an,ak,λu' H3 s3 ai=>?_⟩)));have ai:u'=.non:=ai;subst ai;refine(Zr rfl ⟨rfl,Zr rfl ?_⟩);rw[decide_eq_true rfl];exact fk ⟨s2.trans s3,av,_,_,_,rfl⟩
       . refine(Zr rfl (Zr rfl (Zr rfl ⟨a,ev,rfl,(by have:=gf.k (k:=Sum.inr nm) (s2 _ _ ha);rw[am] at this;exact this),u,ev,k,e,f,some p',rfl,KA.mono (Tu.of s2) k hk,Fs.kU au ap,Own.same s2 an,ak,λu' H3 s3 ai=>?_⟩)));obtain⟨l,rfl,hl⟩:=ai;refine(Zr rfl ⟨rfl,Zr rfl ?_⟩);rw[decide_eq_false (by intro z;cases z)];refine fv ?_;refine(Zr rfl ⟨jr (show 1<=2000 by decide),λp hp=>(Zr rfl ⟨p,l,_,Zr rfl ⟨rfl,eF,by rw[eu (eL hl hp)];exact hl,jr (by rw[Q03];have:=ak.2;show 1+p'.length<=2000;omega),λp2 az=>?_⟩⟩)⟩);subst er;exact q _ _ (s2.trans (s3.trans ((Same.new hp).trans (Same.new az)))) ⟨p2,rfl,eF⟩
     . rintro σ H' ⟨s2,aj,_⟩;rw[FA.len fs ao] at aj;have:=ay aj;subst this;exact q _ _ s2 rfl
 . have aq:∀m,d≠ .dct m:=λm z=>al ⟨m,z⟩
   have er:r=some []:=by
    cases r with
    |none=>
     obtain⟨hF,_⟩:=hR;unfold eV at hF;obtain⟨m',e,_⟩:=hF;exact absurd e (aq _)
    |some p=>
     obtain⟨hM,_⟩:=hR
     cases hM with
     |mY _=>rfl
     |pT _ _ _ _ _=>exact absurd rfl (aq _)
   exact(Zr rfl ⟨_,_,_,false,rfl,hO.ty,IP aq,false,rfl,fv (fv (leaf H (Same.refl _) er))⟩)
theorem IW {n:Nat}{key by_:Str}{fs:Fs}{xs:Ds}{r:Option (List Key)}(hR:Rs (n+1) (.rows key by_ fs) (.lst xs) r):xs.len<=100/\∃(rs:List Ds) (I:Nat),I<=rs.length/\(∀m∈rs,fH fs m/\m.dep<=n/\m.Sm)/\(rs.take I).Pairwise (iV key by_)/\((rs.take I).map λm=>keyOf m key).Nodup/\
 (∀j,j<I->xs.at j=some (.dct (rs.getD j .nil)))/\((I=xs.len/\r=none)\/(∃e p',xs.at I=some e/\r=some (Sum.inl (I:Int)::p')/\Rs (n+1) (.eZ fs) e (some p'))\/
   (0<I/\I<rs.length/\xs.at I=some (.dct (rs.getD I .nil))/\¬iV key by_ (rs.getD (I - 1) .nil) (rs.getD I .nil)/\r=some [Sum.inl (I:Int)])):=by
 cases r with
 |none=>
  obtain⟨hF,hd,U⟩:=hR;unfold eV at hF;obtain⟨rs,e,Y,hs,hk⟩:=hF
  cases e;unfold D.Sm at U;simp only[D.dep] at hd;refine⟨U.1,rs,rs.length,Q00 _,λm hm=>?_,by rw[Q0s];exact hs,by rw[Q0s];exact hk,λj hj=>B_ hj,.inl ⟨(pO rs).symm,rfl⟩⟩;have a:=uH m hm;have b:=uG U.2 m hm;unfold D.Sm at b;exact⟨Y m hm,by omega,b.2⟩
 |some p=>
  obtain⟨hM,aa⟩:=hR
  cases hM with
  |rows0 h=>exact absurd rfl (h _)
  |@pU _ _ _ _ _ i e p rs hl hi J Y hs hk he hm=>
   exact⟨hl,rs,i,hi,Y,hs.sublist (Q1f _ _),hk.sublist ((Q1f _ _).map _),J,.inr (.inl ⟨e,p,he,rfl,hm,by rw[Q0j] at aa;omega⟩)⟩
  |@og _ _ _ _ _ i rs hl h0 hi J Y hs hk ab=>
   exact⟨hl,rs,i,Q0k hi,Y,hs,hk,λj hj=>J j (Q0k hj),.inr (.inr ⟨h0,hi,J i (Q00 _),ab,rfl⟩)⟩
theorem IX:fG ["kind","rows","earlier","number","row","place"] XY (eX (top 10)):=fW
theorem IY (n:Nat)(T:Tb mg)(ac:Dn K mg "rows_misfit" jd (top 10) ae af)(I:Dn K mg "record_misfit" jB (top 8) J U)(Y:eE P w K mg base eI (4 * n+4) J U jB (uV n))(an:Dn K mg "rank" mP (top 14) aD aE)(ao:eE P w K mg base eI (1) aD aE mP (lQ)):eE P w K mg base eI (4 * n+5) ae af jd (Cs n):=by
 refine ac.F.ok IX λvs H Q E h=>?_;obtain⟨pk,pb,v,xs,key,by_,fs,d,fp,r,rfl,ag,aT,aU,hW,hO,hR,q⟩:=h;refine⟨rfl,λbu A outer s nd hr hu=>?_⟩;have ba:=hr.zU;unfold Kd.W at hW;obtain⟨aV,aW,aX,aj,ay⟩:=hW
 refine⟨_,(en (eR (hU (gN (fA iy (by rfl) T.iz boot_isinstance (a_ (pv 1) (a_ (iq (v:=.ty "list") rfl T.mM boot_list rfl) c_))))) (eG (eJ (fY c_))) eS)
  (en (eW 2 nd o8)
  (en (ie PassesOwn.never rfl (tO rfl T.uh (a_ (pv 1) c_)) (i7 rfl (gQ (fQ (i:=3) nd rfl gq) (gQ (fQ (i:=4) nd rfl gq) i6))) (en (eW 5 nd (eN Y hr I (a_ (eK (pv 0) b_) (a_ (pv 4) c_))))
  (en (eR (eP ml (pv 5) h8 (eM _)) (eG (eJ (eB ig (fY (a_ (pv 3) c_)) (pv 5)))) eS)
  (en (eR (PW.pt (ma (eP jP (pv 3) b_ (eM _)) (nq (eP (GV ba) (eN ao hr an (a_ (pv 0) (a_ (pv 4) c_))) (eN ao hr an (a_ (pv 0) (a_ (gK (pv 1) (eB jv (pv 3) b_)) c_))) (eM _))))) (eG (eJ (fY (a_ (pv 3) c_)))) eS)
  (en (eR (qg (tH hu (h9 hu (pv 4) (eK (pv 0) b_) (λ_ _=>rfl)) (pv 2)) (by with_unfolding_all rfl)) (eG (eJ (fY (a_ (pv 3) c_)))) eS)
  (eG (mB hu (pv 2) (h9 hu (pv 4) (eK (pv 0) b_) (λ_ _=>rfl)) ip rfl)))))))
  (eG (eJ h8))))),?_⟩
 ac_rfl
 by_cases aF:∃ds,d=.lst ds
 . obtain⟨ds,rfl⟩:=aF;unfold Own at hO;obtain⟨a,ys,fq,rfl,ha,_,aI⟩:=hO;obtain⟨bn,rs,ab,bp,aw,aP,bb,aY,av⟩:=IW hR;have ak:∀m∈rs,fH fs m:=λm hm=>(aw m hm).1;have bq:ys.length=ds.len:=eQ.len ds aI
   have bo:ab<=ds.len:=by
    rcases av with⟨e,_⟩|⟨e,p',he,_⟩|⟨_,_,he,_⟩
    . omega
    . have:=Ds.mZ he;omega
    . have:=Ds.mZ he;omega
   refine(Zr rfl ⟨_,_,_,true,rfl,.lst ha,rfl,true,rfl,fk ?_⟩);intro p hp;have s0:Same H (upd H p (.dK [])):=Same.new hp;refine(Zr rfl ⟨a,rfl,⟨_,eA.of (s0 _ _ ha)⟩,uT (xs:=ys) (λi σ H'=>i<=ab/\∃x y z ek,σ=[some (.ref pk),some (.ref a),some (.ref p),x,y,z]/\Same H H'/\H' p=some (.dK ek)/\ek.map (·.1)=(rs.take i).map λm=>keyOf m key) ⟨Q04 _,_,_,_,[],rfl,s0,eF,rfl⟩ ?_ ?_ ?_⟩)
   . intro i σ H' _ zq;obtain⟨_,x,y,z,ek,rfl,s2,_⟩:=zq;exact eA.of (s2 _ _ ha)
   . rintro i yv σ H' t hy ⟨bv,x,y,z,ek,rfl,s2,bc,aJ⟩ ht;have hi:i<ys.length:=(List.getElem?_eq_some_iff.mp hy).1;have st:Same H' (upd H' t (.tup [.int i,yv])):=Same.new ht;have s3:=s2.trans st;refine⟨t,Zr rfl ⟨d_.of eF,rfl,_,Zr rfl ⟨_,Zr rfl ⟨rfl,?_⟩⟩⟩⟩
     have aQ:(i=ab/\∃e p',ds.at i=some e/\r=some (Sum.inl (i:Int)::p')/\Rs (n+1) (.eZ fs) e (some p'))\/(i<rs.length/\ds.at i=some (.dct (rs.getD i .nil))/\(i<ab\/(i=ab/\0<i/\¬iV key by_ (rs.getD (i - 1) .nil) (rs.getD i .nil)/\r=some [Sum.inl (i:Int)]))):=by
      by_cases aK:i=ab
      . subst aK;rcases av with⟨e,_⟩|h|⟨h0,h1,h2,h3,h4⟩
        . omega
        . exact .inl ⟨rfl,h⟩
        . exact .inr ⟨h1,h2,.inr ⟨rfl,h0,h3,h4⟩⟩
      . exact .inr ⟨by omega,aY i (by omega),.inl (by omega)⟩
     rcases aQ with⟨aK,e,p',he,er,aZ⟩|⟨br,a5,al⟩
     . subst aK;obtain⟨e',f,aG,a6,_⟩:=eQ.get ds aI hy;rw[he] at aG
       cases aG;refine(Zr rfl ⟨pk,_,_,Zr rfl ⟨rfl,d_.of (s3 _ _ ag),rfl,Zr rfl ⟨pb,yv,xs,fs,e,f,some p',rfl,s3 _ _ aT,FA.mono (Tu.of s3) fs aU,aV,aW,aX,Own.same s3 a6,aZ,λu' H4 s4 ap=>?_⟩⟩⟩);obtain⟨l,rfl,hl⟩:=ap;refine(Zr rfl ⟨rfl,Zr rfl ?_⟩);rw[decide_eq_false (by intro z;cases z)];refine fv ?_;refine(Zr rfl ⟨jr (show 1<=2000 by decide),λp3 az=>(Zr rfl ⟨p3,l,_,Zr rfl ⟨rfl,eF,by rw[eu (eL hl az)];exact hl,jr (by rw[Q03];have:=aZ.2;show 1+p'.length<=2000;omega),λp2 bd=>?_⟩⟩)⟩);subst er;exact q _ _ (s3.trans (s4.trans ((Same.new az).trans (Same.new bd)))) ⟨p2,rfl,eF⟩
     have row:∀j,j<=i->∃rr kvs fq,ys[j]? =some (.ref rr)/\H rr=some (.dK kvs)/\eO H kvs (rs.getD j .nil) fq/\rs.getD j .nil∈rs:=λj hj=>by
      obtain⟨d',f,h1,h2,_⟩:=eQ.get ds aI (Q02 (by omega:j<ys.length))
      have a7:ds.at j=some (.dct (rs.getD j .nil)):=by
       by_cases e:j=i
       . rw[e];exact a5
       . exact aY j (by omega)
      rw[a7] at h1
      cases h1;unfold Own at h2;obtain⟨rr,kvs,aq,e,ar,_,au⟩:=h2;refine⟨rr,kvs,aq,?_,ar,au,?_⟩
      . rw[Q02 (by omega:j<ys.length),e]
      . rw[Q0d,Q02 (by omega)];exact Q0u _
     obtain⟨rr,kvs,aq,a1,ar,au,am⟩:=row i (Q00 _);rw[hy] at a1
     cases a1;have a2:upd H' t (.tup [.int i,.ref rr]) p=some (.dK ek):=st _ _ bc
     have gk:∀H4,Same H H4->gf H4 rr (.str key) (some (kV (keyOf (rs.getD i .nil) key))):=λH4 s4=>by
      have:=gf.k (k:=Sum.inr key) (s4 _ _ ar);rw[au.key (ak _ am) aj] at this;exact this
     have aL:=aw _ am;refine(Zr rfl ⟨pk,_,_,Zr rfl ⟨rfl,d_.of (s3 _ _ ag),rfl,Zr rfl ⟨pb,.ref rr,xs,fs,.dct (rs.getD i .nil),rr::aq,none,rfl,s3 _ _ aT,FA.mono (Tu.of s3) fs aU,aV,aW,aX,by unfold Own;exact⟨rr,kvs,aq,rfl,s3 _ _ ar,rfl,eO.same s3 au⟩,⟨by unfold eV;exact(Zr rfl aL.1),by simp only[D.dep];omega,by unfold D.Sm;exact⟨by rw[<-mW,aL.1.names];omega,aL.2.2⟩⟩,λu' H4 s4 ap=>?_⟩⟩⟩);have ap:u'=.non:=ap;subst ap;have ah:=s3.trans s4;refine(Zr rfl ⟨rfl,Zr rfl ?_⟩);rw[decide_eq_true rfl];refine fk ?_
     have ai:i<ab->gJ ek (keyOf (rs.getD i .nil) key)=none:=λaa=>by
      have sv:=rD aJ (keyOf (rs.getD i .nil) key)
      have:jA key (rs.take i) (keyOf (rs.getD i .nil) key)=false:=by
       cases z:jA key (rs.take i) (keyOf (rs.getD i .nil) key) with
       |false=>rfl
       |true=>
        obtain⟨m,hm,e⟩:=List.any_eq_true.mp z;have e:=of_decide_eq_true e;obtain⟨j,hj,ej⟩:=Q13 hm;rw[Q0l] at hj;rw[Q19] at ej;have be:i<rs.length:=by omega
        have e2:rs.getD i .nil=rs[i]:=by rw[Q0d,Q02 be];rfl
        have:=List.pairwise_iff_getElem.mp (List.pairwise_map.mp bb) j i (by rw[Q0l];omega) (by rw[Q0l];omega) (by omega);rw[Q19,Q19,ej,<-e2] at this;exact absurd e this
      rw[this] at sv
      cases z:gJ ek (keyOf (rs.getD i .nil) key) with
      |none=>rfl
      |some o=>rw[z] at sv;cases sv
     have fin:i<ab->∀H5,Same (upd H' t (.tup [.int i,.ref rr])) H5->∀(DD:Ends),DD.nx=(λσ H'=>i+1<=ab/\∃x y z ek,σ=[some (.ref pk),some (.ref a),some (.ref p),x,y,z]/\Same H H'/\H' p=some (.dK ek)/\ek.map (·.1)=(rs.take (i+1)).map λm=>keyOf m key)->∀z':Option V,
      DD.nx [some (.ref pk),some (.ref a),some (.ref p),some (.int i),some (.ref rr),z'] (upd H5 p (.dK (ek++[(keyOf (rs.getD i .nil) key,.bl true)]))):=λaa H5 s5 DD bf z'=>by
      rw[bf];refine⟨by omega,_,_,_,Zr rfl ⟨λc o e=>?_,eF,?_⟩⟩
      . rw[eu (eL e hp)];exact s5 _ _ (s3 _ _ e)
      . rw[Q0i,aJ,Q0x,Q0i];congr 1;rw[Q02 (by omega),Q0d,Q02 (by omega)];rfl
     have aH:ek.length<sizeLine:=by
      have e1:=congrArg List.length aJ;rw[Q03,Q03,Q0l] at e1;have:=hr.zU;exact gz (by omega)
     refine(Zr rfl ⟨_,Zr rfl ⟨rfl,Zr rfl (fJ (λc=>?_) (λc=>fk ?_))⟩⟩)
     . have bw:0<i:=by
        have:(0:Int)<(i:Int):=of_decide_eq_true c;omega
       obtain⟨rp,bg,bh,a8,bi,a9,ax⟩:=row (i - 1) (by omega);refine(Zr rfl (Zr rfl ⟨pk,rr,pb,key,by_,fs,kvs,_,aq,rfl,ah _ _ ag,ah _ _ ar,eO.same ah au,ak _ am,aj,ay,λt1 bj=>?_⟩));have aM:Same H4 (upd H4 t1 (.tup ((rankOf key by_ (rs.getD i .nil)).map kV))):=Same.new bj;have s5:=ah.trans aM
       have bm:gv ys ((i:Int) - 1)=some (.ref rp):=by
        have e:(i:Int) - 1=((i - 1:Nat):Int):=by omega
        rw[e];exact gY a8
       refine(Zr rfl (Zr rfl (Zr rfl ⟨_,Zr rfl ⟨rfl,a,_,_,Zr rfl ⟨rfl,eA.of (s5 _ _ ha),bm,pk,rp,pb,key,by_,fs,bg,_,bh,rfl,s5 _ _ ag,s5 _ _ bi,eO.same s5 a9,ak _ ax,aj,ay,λt2 lg=>?_⟩⟩⟩)));have aA:Same (upd H4 t1 (.tup ((rankOf key by_ (rs.getD i .nil)).map kV))) (upd (upd H4 t1 (.tup ((rankOf key by_ (rs.getD i .nil)).map kV))) t2 (.tup ((rankOf key by_ (rs.getD (i - 1) .nil)).map kV))):=Same.new lg;have s6:=s5.trans aA;have ge:∀j (h:j<rs.length),rs.getD j .nil=rs[j]:=λj h=>by rw[Q0d,Q02 h];rfl
       refine⟨t1,t2,_,Zr rfl ⟨rfl,d_.of (aA _ _ eF),d_.of eF,(qQ (ak _ am) aj ay).trans (qQ (ak _ ax) aj ay).symm,Zr rfl ?_⟩⟩;by_cases aB:gS (rankOf key by_ (rs.getD (i - 1) .nil)) (rankOf key by_ (rs.getD i .nil))=true
       case neg=>
        have er:r=some [Sum.inl (i:Int)]:=by
         rcases al with aa|⟨_,_,_,er⟩
         . refine absurd ?_ aB;have:=List.pairwise_iff_getElem.mp aP (i - 1) i (by rw[Q0l];omega) (by rw[Q0l];omega) (by omega);rw[Q19,Q19] at this;rw[ge (i - 1) (by omega),ge i (by omega)];exact this
         . exact er
        rw[Bool.eq_false_iff.mpr aB];subst er;exact fv (Zr rfl ⟨jr (show 1<=2000 by decide),λp3 az=>q _ _ (s6.trans (Same.new az)) ⟨p3,rfl,eF⟩⟩)
       have aa:i<ab:=by
        rcases al with h|⟨_,_,h,_⟩
        . exact h
        . exact absurd aB h
       have ai:=ai aa;rw[aB];refine fk ?_;have a3:=aA _ _ (aM _ _ (s4 _ _ a2));refine(Zr rfl (Zr rfl ⟨pk,_,_,Zr rfl ⟨rfl,d_.of (s6 _ _ ag),rfl,rr,Zr rfl ⟨gk _ s6,Zr rfl ⟨p,Zr rfl ⟨gf.k a3,Zr rfl ?_⟩⟩⟩⟩⟩));rw[ai];refine fk ?_;refine(Zr rfl (Zr rfl (Zr rfl ⟨pk,_,_,Zr rfl ⟨rfl,d_.of (s6 _ _ ag),rfl,rr,Zr rfl ⟨gk _ s6,p,Zr rfl ⟨jx.k a3 aH,?_⟩⟩⟩⟩)));rw[pB ai];exact fin aa _ (s4.trans (aM.trans aA)) _ rfl _
     . have aa:i<ab:=by
        rcases al with h|⟨_,h,_⟩
        . exact h
        . exact absurd (decide_eq_true (show(0:Int)<(i:Int) by omega)) c
       have ai:=ai aa;have a4:=s4 _ _ a2;refine(Zr rfl (Zr rfl ⟨pk,_,_,Zr rfl ⟨rfl,d_.of (ah _ _ ag),rfl,rr,Zr rfl ⟨gk _ ah,Zr rfl ⟨p,Zr rfl ⟨gf.k a4,Zr rfl ?_⟩⟩⟩⟩⟩));rw[ai];refine fk ?_;refine(Zr rfl (Zr rfl (Zr rfl ⟨pk,_,_,Zr rfl ⟨rfl,d_.of (ah _ _ ag),rfl,rr,Zr rfl ⟨gk _ ah,p,Zr rfl ⟨jx.k a4 aH,?_⟩⟩⟩⟩)));rw[pB ai];exact fin aa _ s4 _ rfl _
   . intro σ H' zq;obtain⟨bt,x,y,z,ek,rfl,s2,_⟩:=zq
     have er:r=none:=by
      rcases av with⟨_,e⟩|⟨e,p',he,_⟩|⟨_,_,he,_⟩
      . exact e
      . have:=Ds.mZ he;omega
      . have:=Ds.mZ he;omega
     subst er;exact q _ _ s2 rfl
 . have aC:∀m,d≠ .lst m:=λm z=>aF ⟨m,z⟩
   have er:r=some []:=by
    cases r with
    |none=>
     obtain⟨hF,_⟩:=hR;unfold eV at hF;obtain⟨rs,e,_⟩:=hF;exact absurd e (aC _)
    |some p=>
     obtain⟨hM,_⟩:=hR
     cases hM with
     |rows0 _=>rfl
     |pU _ _ _ _ _ _ _ _=>exact absurd rfl (aC _)
     |og _ _ _ _ _ _ _ _=>exact absurd rfl (aC _)
   subst er;exact(Zr rfl ⟨_,_,_,false,rfl,hO.ty,Cu aC,false,rfl,fv ⟨Q04 _,λp hp=>q _ _ (Same.new hp) ⟨p,rfl,eF⟩⟩⟩)
theorem IZ {xs:Ds}(h:xs.len=2):∃x a y c,xs=.cons x a (.cons y c .nil):=by
 cases xs with
 |nil=>cases h
 |cons x a r=>
  cases r with
  |nil=>cases h
  |cons y c t=>
   cases t with
   |nil=>exact⟨x,a,y,c,rfl⟩
   |cons z e t=>have h:t.len+1+1+1=2:=h;omega
theorem I0 {n:Nat}{k:Kd}{x y:Str}{t:D}{as:Ds}{r:Option (List Key)}(hR:Rs (n+1) (.tree k) (.tup (.cons x t (.cons y (.lst as) .nil))) r):(∃U,r=some (Sum.inr ("knot":Str)::U)/\Rs n k t (some U))\/(Rs n k t none/\∃I,(∀j a,j<I->as.at j=some a->Rs n (.tree k) a none)/\
 ((I=as.len/\r=none)\/∃e U,as.at I=some e/\r=some (Sum.inl (I:Int)::U)/\Rs n (.tree k) e (some U))):=by
 cases r with
 |none=>
  obtain⟨hF,hd,Y⟩:=hR;have hT:Tree (eV k) (.tup (.cons x t (.cons y (.lst as) .nil))):=by unfold eV at hF;exact hF
  obtain⟨x',y',t',af,e,ht,ac⟩:=hT.shape
  cases e;unfold D.Sm Ds.Sm at Y;obtain⟨_,ae,aa⟩:=Y;unfold Ds.Sm at aa;have ab:=aa.1;unfold D.Sm at ab;simp only[D.dep,Ds.dep] at hd;refine .inr ⟨⟨ht,by omega,ae⟩,as.len,λj a _ ha=>?_,.inl ⟨rfl,rfl⟩⟩;have:=Ds.lG ha;exact⟨by unfold eV;exact iG.all ac ha,by omega,Ds.uF ab.2 ha⟩
 |some p=>
  obtain⟨hM,J⟩:=hR
  cases hM with
  |pV h=>exact absurd rfl (h _ as rfl rfl)
  |@rL _ _ _ _ p hm=>exact .inl ⟨p,rfl,hm,by rw[Q0j] at J;omega⟩
  |@rM _ _ _ e _ i p ht hl hj he hm=>
   refine .inr ⟨ht,i,λj a h1 h2=>?_,.inr ⟨e,p,he,rfl,hm,by rw[Q0j] at J;omega⟩⟩;obtain⟨a1,a2,a3⟩:=hj j a h1 h2;exact⟨by unfold eV;exact a1,a2,a3⟩
theorem Cy {n:Nat}{k:Kd}{d:D}{r:Option (List Key)}(hR:Rs (n+1) (.tree k) d r)(h:∀x y t as,d≠ .tup (.cons x t (.cons y (.lst as) .nil))):r=some []:=by
 cases r with
 |none=>
  obtain⟨hF,_⟩:=hR;have hT:Tree (eV k) d:=by unfold eV at hF;exact hF
  obtain⟨x',y',t',U,e,ht,Y⟩:=hT.shape;exact absurd e (h _ _ _ _)
 |some p=>
  obtain⟨J,I⟩:=hR
  cases J with
  |pV _=>rfl
  |rL _=>exact absurd rfl (h _ _ _ _)
  |rM _ _ _ _ _=>exact absurd rfl (h _ _ _ _)
theorem I_ {n:Nat}{fs:Fs}{x y:Str}{a c:D}{r:Option (List Key)}(hW:fs.W)(hR:Rs (n+1) (.gA fs) (.tup (.cons x a (.cons y c .nil))) r):(∃nm k r',a=.str nm/\fs.get nm=some k/\Rs n k c r'/\r=r'.map (Sum.inr nm:: ·))\/
 (r=some []/\((∃nm,a=.str nm/\fs.get nm=none)\/(∃z,a=.int z)\/∃l,a=.lst l)):=by
 cases r with
 |none=>
  obtain⟨hF,hd,J⟩:=hR;unfold eV at hF;obtain⟨nm,v,e,hE⟩:=hF
  cases e;obtain⟨k,I,hf⟩:=uN hE;unfold D.Sm Ds.Sm at J;obtain⟨_,_,U⟩:=J;unfold Ds.Sm at U;simp only[D.dep,Ds.dep] at hd;exact .inl ⟨nm,k,none,rfl,I,⟨hf,by omega,U.1⟩,rfl⟩
 |some p=>
  obtain⟨hM,Y⟩:=hR
  cases hM with
  |pW h=>
   refine .inr ⟨rfl,?_⟩;rcases h _ rfl rfl with⟨nm,e,hn⟩|⟨z,e⟩|⟨l,e⟩
   . refine .inl ⟨nm,Option.some.inj e,?_⟩
     cases I:fs.get nm with
     |none=>rfl
     |some k=>exact absurd (Fs.get_mem I) hn
   . exact .inr (.inl ⟨z,Option.some.inj e⟩)
   . exact .inr (.inr ⟨l,Option.some.inj e⟩)
  |@rN _ _ nm k _ p I hm=>exact .inl ⟨nm,k,some p,rfl,I,⟨hm,by rw[Q0j] at Y;omega⟩,rfl⟩
theorem Ja {n:Nat}{fs:Fs}{d:D}{r:Option (List Key)}(hR:Rs (n+1) (.gA fs) d r)(h:d.m7=false):r=some []:=by
 cases r with
 |none=>
  obtain⟨hF,_⟩:=hR;unfold eV at hF;obtain⟨nm,v,e,hE⟩:=hF;rw[e] at h;cases h
 |some p=>
  obtain⟨J,I⟩:=hR
  cases J with
  |pW _=>rfl
  |rN _ _=>cases h
theorem Jb {d:D}(h:d.m7=false):∀x y t as,d≠ .tup (.cons x t (.cons y (.lst as) .nil)):=λx y t as e=>by
 rw[e] at h;cases h
theorem Cz {d:D}(h:d.m7=true):∃x a y c,d=.tup (.cons x a (.cons y c .nil)):=by
 cases d with
 |tup xs=>
  obtain⟨x,a,y,c,e⟩:=IZ (of_decide_eq_true (show decide (xs.len=2)=true from h));exact⟨x,a,y,c,by rw[e]⟩
 |_=>cases h
theorem CA {k:Kd}{d:D}{r:Option (List Key)}(h:Rs 0 k d r):False:=by
 cases r with
 |none=>exact absurd h.2.1 (by have:=d.j6;omega)
 |some p=>obtain⟨h,_⟩:=h;cases h
theorem CC:fG ["kind","tree","place","number","arm"] ["kind","tree"] (eX (top 12)):=fW
theorem Jc (T:Tb mg)(I:Dn K mg "tree_misfit" k9 (top 12) J U):eE P w K mg base eI (4 * 0+2) J U k9 (pX 0):=by
 refine I.F.ok CC λvs H Q E h=>?_;obtain⟨a,u,v,k,d,fp,r,rfl,_,_,_,_,Y,_⟩:=h;refine⟨rfl,λaa A outer s nd hr hu=>?_⟩;exact(CA Y).elim
theorem Jd (n:Nat)(T:Tb mg)(I:Dn K mg "tree_misfit" k9 (top 12) J U)(aa:eE P w K mg base eI (4 * n+2) J U k9 (pX n))(ab:Dn K mg "is_pair" mT (top 11) ac ae)(af:eE P w K mg base eI (1) ac ae mT (uU))(ag:Dn K mg "misfit" je (top 7) ah ai)(aj:eE P w K mg base eI (4 * n+3) ah ai je (m8 n)):eE P w K mg base eI (4 * (n+1)+2) J U k9 (pX (n+1)):=by
 refine I.F.ok CC λvs H Q E h=>?_;obtain⟨a,u,v,k,d,fp,r,rfl,ha,hk,hW,hO,hR,q⟩:=h;refine⟨rfl,λaE A outer s nd hr hu=>?_⟩
 refine⟨_,(en (eR (PW.pt (ic (hU (gN (eN af hr ab (a_ (pv 1) c_)))) (ib (hU (gN (fA iy (by rfl) T.iz boot_isinstance (a_ (eK (pv 1) b_) (a_ (iq (v:=.ty "list") rfl T.mM boot_list rfl) c_)))))))) (eG (eJ (fY c_))) eS)
  (en (eW 2 nd (eN aj hr ag (a_ (eK (pv 0) b_) (a_ (eK (pv 1) b_) c_))))
  (en (eR (eP ml (pv 2) h8 (eM _)) (eG (eJ (eB ig (fY (a_ fg c_)) (pv 2)))) eS)
  (en (ie PassesOwn.never rfl (tO rfl T.uh (a_ (eK (pv 1) b_) c_)) (i7 rfl (gQ (fQ (i:=3) nd rfl gq) (gQ (fQ (i:=4) nd rfl gq) i6))) (en (eW 2 nd (eN aa hr I (a_ (pv 0) (a_ (pv 4) c_))))
  (eG (eR (eP ml (pv 2) h8 (eM _)) (eG (eJ (eB ig (fY (a_ (pv 3) c_)) (pv 2)))) eS))))
  (eG (eJ h8)))))),?_⟩
 ac_rfl
 refine(Zr rfl ⟨v,d,fp,rfl,hO,?_⟩)
 cases hP:d.m7 with
 |false=>
  have er:=Cy hR (Jb hP);subst er;exact⟨false,rfl,fv (fv ⟨Q04 _,λp hp=>q _ _ (Same.new hp) ⟨p,rfl,eF⟩⟩)⟩
 |true=>
  obtain⟨x,t,y,au,rfl⟩:=Cz hP;obtain⟨c,v1,v2,f1,f2,rfl,hc,rfl,av,ao⟩:=hO.pair;refine⟨true,rfl,fk ?_⟩;by_cases hl:¬∃as,au=.lst as
  . have aw:∀m,au≠ .lst m:=λm z=>hl ⟨m,z⟩;have er:=Cy hR λx y t as e=>by cases e;exact aw _ rfl
    subst er;exact(Zr rfl ⟨c,_,_,Zr rfl ⟨rfl,d_.of hc,rfl,_,_,_,false,rfl,ao.ty,Cu aw,false,rfl,fv ⟨Q04 _,λp hp=>q _ _ (Same.new hp) ⟨p,rfl,eF⟩⟩⟩⟩)
  obtain⟨as,rfl⟩:=Classical.not_not.mp hl;unfold Own at ao;obtain⟨pl,ys,fq,rfl,ap,rfl,ax⟩:=ao;refine(Zr rfl ⟨c,_,_,Zr rfl ⟨rfl,d_.of hc,rfl,_,_,_,true,rfl,.lst ap,rfl,true,rfl,fk ?_⟩⟩);rcases I0 hR with⟨p',er,al⟩|⟨al,ay,aA,am⟩
  . refine(Zr rfl ⟨a,_,_,Zr rfl ⟨rfl,d_.of ha,rfl,Zr rfl ⟨c,_,_,Zr rfl ⟨rfl,d_.of hc,rfl,u,v1,k,t,f1,some p',rfl,hk,hW,av,al,λu' H1 s1 Y=>?_⟩⟩⟩⟩);obtain⟨l,rfl,hl⟩:=Y;refine(Zr rfl ⟨rfl,Zr rfl ?_⟩);rw[decide_eq_false (by intro z;cases z)];refine fv ?_;refine⟨jr (show 1<=2000 by decide),λp3 ak=>(Zr rfl ⟨p3,l,_,Zr rfl ⟨rfl,eF,by rw[eu (eL hl ak)];exact hl,jr (by rw[Q03];have:=al.2;show 1+p'.length<=2000;omega),λp2 aq=>?_⟩⟩)⟩;subst er;exact q _ _ (s1.trans ((Same.new ak).trans (Same.new aq))) ⟨p2,rfl,eF⟩
  . refine(Zr rfl ⟨a,_,_,Zr rfl ⟨rfl,d_.of ha,rfl,Zr rfl ⟨c,_,_,Zr rfl ⟨rfl,d_.of hc,rfl,u,v1,k,t,f1,none,rfl,hk,hW,av,al,λu' H1 s1 Y=>?_⟩⟩⟩⟩);have Y:u'=.non:=Y;subst Y;refine(Zr rfl ⟨rfl,Zr rfl ?_⟩);rw[decide_eq_true rfl];refine fk ?_;refine(Zr rfl ⟨c,_,_,Zr rfl ⟨rfl,d_.of (s1 _ _ hc),rfl,pl,rfl,⟨_,eA.of (s1 _ _ ap)⟩,uT (xs:=ys) (λi σ H'=>Same H H'/\i<=ay/\∃x y z,σ=[some (.ref a),some (.ref c),x,y,z]) ⟨s1,Q04 _,_,_,_,rfl⟩ ?_ ?_ ?_⟩⟩)
    . rintro i σ H' _ ⟨s2,_⟩;exact eA.of (s2 _ _ ap)
    . rintro i yv σ H' tt hy ⟨s2,aF,x,y,z,rfl⟩ aC;have st:Same H' (upd H' tt (.tup [.int i,yv])):=Same.new aC;have s3:=s2.trans st;obtain⟨d',f,ar,az,_⟩:=eQ.get _ ax hy;refine⟨tt,Zr rfl ⟨d_.of eF,rfl,_,Zr rfl ⟨_,Zr rfl ⟨rfl,?_⟩⟩⟩⟩;by_cases aD:i=ay
      . subst aD
        obtain⟨e,p',he,er,an⟩:∃e p',as.at i=some e/\r=some (Sum.inl (i:Int)::p')/\Rs n (.tree k) e (some p'):=by
         rcases am with⟨e,_⟩|h
         . have:=Ds.mZ ar;omega
         . exact h
        rw[ar] at he
        cases he;refine(Zr rfl (Zr rfl ⟨a,u,yv,k,d',f,some p',rfl,s3 _ _ ha,KA.mono (Tu.of s3) k hk,hW,Own.same s3 az,an,λu' H4 s4 Y=>?_⟩));obtain⟨l,rfl,hl⟩:=Y;refine(Zr rfl ⟨rfl,Zr rfl ?_⟩);rw[decide_eq_false (by intro z;cases z)];refine fv ?_;refine(Zr rfl ⟨jr (show 1<=2000 by decide),λp3 ak=>(Zr rfl ⟨p3,l,_,Zr rfl ⟨rfl,eF,by rw[eu (eL hl ak)];exact hl,jr (by rw[Q03];have:=an.2;show 1+p'.length<=2000;omega),λp2 aq=>?_⟩⟩)⟩);subst er;exact q _ _ (s3.trans (s4.trans ((Same.new ak).trans (Same.new aq)))) ⟨p2,rfl,eF⟩
      . refine(Zr rfl (Zr rfl ⟨a,u,yv,k,d',f,none,rfl,s3 _ _ ha,KA.mono (Tu.of s3) k hk,hW,Own.same s3 az,aA i d' (by omega) ar,λu' H4 s4 Y=>?_⟩));have Y:u'=.non:=Y;subst Y;refine(Zr rfl ⟨rfl,Zr rfl ?_⟩);rw[decide_eq_true rfl];exact fk ⟨s3.trans s4,by omega,_,_,_,rfl⟩
    . rintro σ H' ⟨s2,aB,_⟩
      have er:r=none:=by
       rw[eQ.len as ax] at aB;rcases am with⟨_,e⟩|⟨e,p',he,_⟩
       . exact e
       . have:=Ds.mZ he;omega
      subst er;exact q _ _ s2 rfl
theorem Je:fG ["fields","value","inner","place"] ["fields","value"] (eX (top 13)):=fW
theorem Jf (n:Nat)(T:Tb mg)(I:Dn K mg "either_misfit" pL (top 13) J U)(aa:Dn K mg "is_pair" mT (top 11) ab ac)(ae:eE P w K mg base eI (1) ab ac mT (uU))(af:Dn K mg "kind_at" pK (top 5) ag ah)(ai:eE P w K mg base eI (1) ag ah pK (Cq K))(aj:Dn K mg "misfit" je (top 7) ak am)(an:eE P w K mg base eI (4 * n+3) ak am je (m8 n)):eE P w K mg base eI (4 * n+4) J U pL (Ct n):=by
 refine I.F.ok Je λvs H Q E h=>?_;obtain⟨b,v,xs,fs,d,fp,r,rfl,hb,aq,ar,au,hO,hR,q⟩:=h;refine⟨rfl,λaB A outer s nd hr hu=>?_⟩
 refine⟨_,(en (eR (hU (gN (eN ae hr aa (a_ (pv 1) c_)))) (eG (eJ (fY c_))) eS)
  (en (eW 2 nd (eN ai hr af (a_ (pv 0) (a_ (eK (pv 1) b_) c_))))
  (en (eR (eP zN (pv 2) h8 (eM _)) (eG (eJ (fY c_))) eS)
  (en (eW 3 nd (eN an hr aj (a_ (pv 2) (a_ (eK (pv 1) b_) c_))))
  (en (eR (eP ml (pv 3) h8 (eM _)) (eG (eJ (eB ig (fY (a_ (eK (pv 1) b_) c_)) (pv 3)))) eS)
  (eG (eJ h8))))))),?_⟩
 ac_rfl
 refine(Zr rfl ⟨v,d,fp,rfl,hO,?_⟩)
 cases hP:d.m7 with
 |false=>
  have er:=Ja hR hP;subst er;exact⟨false,rfl,fv ⟨Q04 _,λp hp=>q _ _ (Same.new hp) ⟨p,rfl,eF⟩⟩⟩
 |true=>
  obtain⟨x,a,y,c,rfl⟩:=Cz hP;obtain⟨t,v1,v2,f1,f2,rfl,ht,rfl,Y,ay⟩:=hO.pair;refine⟨true,rfl,fk ?_⟩;rcases I_ au hR with⟨nm,k,r',rfl,ap,av,er⟩|⟨er,ax⟩
  . unfold Own at Y;obtain⟨rfl,_⟩:=Y;refine(Zr rfl (Zr rfl ⟨t,_,_,Zr rfl ⟨rfl,d_.of ht,rfl,b,.str nm,xs,fs,some nm,rfl,hb,aq,ar,rfl,λu hu=>?_⟩⟩));have hu:rT H u (fs.get nm):=hu;rw[ap] at hu;have hu:KA H u k:=hu;refine(Zr rfl ⟨rfl,Zr rfl ?_⟩);rw[decide_eq_false hu.IG];refine fk ?_;refine(Zr rfl (Zr rfl ⟨t,_,_,Zr rfl ⟨rfl,d_.of ht,rfl,u,v2,k,c,f2,r',rfl,hu,Fs.rQ au ap,ay,av,λu' H1 s1 ao=>?_⟩⟩))
    cases r' with
    |none=>
     have ao:u'=.non:=ao;subst ao;subst er;refine(Zr rfl ⟨rfl,Zr rfl ?_⟩);rw[decide_eq_true rfl];exact fk (q _ _ s1 rfl)
    |some p'=>
     obtain⟨l,rfl,hl⟩:=ao;refine(Zr rfl ⟨rfl,Zr rfl ?_⟩);rw[decide_eq_false (by intro z;cases z)];refine fv ?_;refine(Zr rfl ⟨t,_,_,Zr rfl ⟨rfl,d_.of (s1 _ _ ht),rfl,jr (show 1<=2000 by decide),λp3 aw=>(Zr rfl ⟨p3,l,_,Zr rfl ⟨rfl,eF,by rw[eu (eL hl aw)];exact hl,jr (by rw[Q03];have:=av.2;show 1+p'.length<=2000;omega),λp2 az=>?_⟩⟩)⟩⟩);subst er;exact q _ _ (s1.trans ((Same.new aw).trans (Same.new az))) ⟨p2,rfl,eF⟩
  . subst er
    obtain⟨o,hn,ho⟩:∃o,Cp K H v1 o/\o.bind fs.get=none:=by
     rcases ax with⟨nm,rfl,hg⟩|⟨z,rfl⟩|⟨l,rfl⟩
     . unfold Own at Y;exact⟨some nm,Y.1,hg⟩
     . unfold Own at Y;exact⟨none,.inl ⟨z,Y.1⟩,rfl⟩
     . unfold Own at Y;obtain⟨al,ys,fq,e,aA,_⟩:=Y;exact⟨none,.inr ⟨al,ys,e,eA.of aA⟩,rfl⟩
    refine(Zr rfl (Zr rfl ⟨t,_,_,Zr rfl ⟨rfl,d_.of ht,rfl,b,v1,xs,fs,o,rfl,hb,aq,ar,hn,λu hu=>?_⟩⟩));rw[ho] at hu;have hu:u=.non:=hu;subst hu;refine(Zr rfl ⟨rfl,Zr rfl ?_⟩);rw[decide_eq_true rfl];exact fv ⟨Q04 _,λp hp=>q _ _ (Same.new hp) ⟨p,rfl,eF⟩⟩
theorem CD:fG ["kind","value","form"] ["kind","value"] (eX (top 7)):=fW
theorem Jg (T:Tb mg)(I:Dn K mg "misfit" je (top 7) J U):eE P w K mg base eI (4 * 0+3) J U je (m8 0):=by
 refine I.F.ok CD λvs H Q E h=>?_;obtain⟨kv,v,k,d,fp,r,rfl,_,_,_,Y,_⟩:=h;refine⟨rfl,λaa A outer s nd hr hu=>?_⟩;exact(CA Y).elim
theorem Jh (n:Nat)(T:Tb mg)(an:Dn K mg "misfit" je (top 7) ao ap)(I:Dn K mg "record_misfit" jB (top 8) J U)(Y:eE P w K mg base eI (4 * n+4) J U jB (uV n))(af:Dn K mg "rows_misfit" jd (top 10) ag ah)(ai:eE P w K mg base eI (4 * n+5) ag ah jd (Cs n))(aj:Dn K mg "tree_misfit" k9 (top 12) ak al)(am:eE P w K mg base eI (4 * (n+1)+2) ak al k9 (pX (n+1)))(aa:Dn K mg "either_misfit" pL (top 13) ab ac)(ae:eE P w K mg base eI (4 * n+4) ab ac pL (Ct n)):
 eE P w K mg base eI (4 * (n+1)+3) ao ap je (m8 (n+1)):=by
 refine an.F.ok CD λvs H Q E h=>?_;obtain⟨kv,v,k,d,fp,r,rfl,hk,hW,hO,hR,q⟩:=h;refine⟨rfl,λar A outer s nd hr hu=>?_⟩
 refine⟨_,(en (eW 2 nd (eK (pv 0) b_))
  (en (eR (eP fi (pv 2) fg (eM _)) (eG (eJ (sL (PW.pt (ma (gN (fA iy (by rfl) T.iz boot_isinstance (a_ (pv 1) (a_ (iq (v:=.ty "int") rfl T.uk boot_int rfl) c_)))) (nq (hU (gN (fA iy (by rfl) T.iz boot_isinstance (a_ (pv 1) (a_ (iq (v:=.ty "bool") rfl T.um boot_bool rfl) c_)))))))) h8 (fY c_)))) eS)
  (en (eR (eP fi (pv 2) fg (eM _)) (eG (eJ (sL (gN (fA iy (by rfl) T.iz boot_isinstance (a_ (pv 1) (a_ (iq (v:=.ty "str") rfl T.uo boot_str rfl) c_)))) h8 (fY c_)))) eS)
  (en (eR (eP fi (pv 2) fg (eM _)) (eG (eJ (eN Y hr I (a_ (eK (pv 0) b_) (a_ (pv 1) c_))))) eS)
  (en (eR (eP fi (pv 2) fg (eM _)) (eG (eJ (eN ai hr af (a_ (pv 0) (a_ (pv 1) c_))))) eS)
  (en (eR (eP fi (pv 2) fg (eM _)) (eG (eJ (eN am hr aj (a_ (pv 0) (a_ (pv 1) c_))))) eS)
  (eG (eJ (eN ae hr aa (a_ (eK (pv 0) b_) (a_ (pv 1) c_))))))))))),?_⟩
 ac_rfl
 have leaf:r=some []->(0:Nat)<=sizeLine/\∀p,H p=none->Q (.ref p) (upd H p (.lst [])):=λe=>⟨Q04 _,λp hp=>by
  subst e;exact q _ _ (Same.new hp) ⟨p,rfl,eF⟩⟩
 cases k with
 |num=>
  unfold KA at hk;obtain⟨a,rfl,ha⟩:=hk;refine(Zr rfl ⟨a,_,_,Zr rfl ⟨rfl,d_.of ha,rfl,?_⟩⟩);refine jj rfl (by decide +kernel) ?_;by_cases hi:∃z,d=.int z
  . obtain⟨z,rfl⟩:=hi;unfold Own at hO;obtain⟨rfl,rfl⟩:=hO
    have er:r=none:=by
     cases r with
     |none=>rfl
     |some p=>obtain⟨hM,_⟩:=hR;cases hM with|num h=>exact absurd rfl (h _)
    subst er;refine(Zr rfl ⟨_,_,_,true,rfl,.int z,rfl,true,rfl,fv ?_⟩);refine(Zr rfl ⟨_,_,_,false,rfl,.int z,rfl,false,rfl,fv ?_⟩);exact q _ _ (Same.refl _) rfl
  . have er:r=some []:=by
     cases r with
     |none=>obtain⟨hF,_⟩:=hR;unfold eV at hF;exact absurd hF hi
     |some p=>obtain⟨hM,_⟩:=hR;cases hM with|num h=>rfl
    by_cases hb:∃z,d=.boo z
    . obtain⟨z,rfl⟩:=hb;unfold Own at hO;obtain⟨rfl,rfl⟩:=hO;refine(Zr rfl ⟨_,_,_,true,rfl,.bl z,rfl,true,rfl,fv ?_⟩);refine(Zr rfl ⟨_,_,_,true,rfl,.bl z,rfl,true,rfl,fk ?_⟩);exact leaf er
    . have hk:W.kitOne K (.type d.tag) (.type "int")=some false:=by
       cases d <;> first|rfl|exact absurd ⟨_,rfl⟩ hi|exact absurd ⟨_,rfl⟩ hb
      exact(Zr rfl ⟨_,_,_,false,rfl,hO.ty,hk,false,rfl,fk (fk (leaf er))⟩)
 |fE=>
  unfold KA at hk;obtain⟨a,rfl,ha⟩:=hk;refine(Zr rfl ⟨a,_,_,Zr rfl ⟨rfl,d_.of ha,rfl,?_⟩⟩);refine gR rfl (by decide +kernel) ?_;refine jj rfl (by decide +kernel) ?_;by_cases hi:∃z,d=.str z
  . obtain⟨z,rfl⟩:=hi;unfold Own at hO;obtain⟨rfl,rfl⟩:=hO
    have er:r=none:=by
     cases r with
     |none=>rfl
     |some p=>obtain⟨hM,_⟩:=hR;cases hM with|fE h=>exact absurd rfl (h _)
    subst er;refine(Zr rfl ⟨_,_,_,true,rfl,.str z,rfl,true,rfl,fv ?_⟩);exact q _ _ (Same.refl _) rfl
  . have er:r=some []:=by
     cases r with
     |none=>obtain⟨hF,_⟩:=hR;unfold eV at hF;exact absurd hF hi
     |some p=>obtain⟨hM,_⟩:=hR;cases hM with|fE h=>rfl
    exact(Zr rfl ⟨_,_,_,false,rfl,hO.ty,IQ λz e=>hi ⟨z,e⟩,false,rfl,fk (leaf er)⟩)
 |eZ fs=>
  unfold KA at hk;obtain⟨a,b,xs,rfl,ha,hb,aq⟩:=hk;unfold Kd.W at hW;refine(Zr rfl ⟨a,_,_,Zr rfl ⟨rfl,d_.of ha,rfl,?_⟩⟩);refine gR rfl (by decide +kernel) ?_;refine gR rfl (by decide +kernel) ?_;refine jj rfl (by decide +kernel) ?_;exact(Zr rfl ⟨a,_,_,Zr rfl ⟨rfl,d_.of ha,rfl,Zr rfl ⟨b,v,xs,fs,d,fp,r,rfl,hb,aq,hW.1,hW.2.1,hW.2.2,hO,hR,q⟩⟩⟩)
 |rows key by_ fs=>
  unfold KA at hk;obtain⟨a,b,xs,rfl,ha,hb,aq⟩:=hk;refine(Zr rfl ⟨a,_,_,Zr rfl ⟨rfl,d_.of ha,rfl,?_⟩⟩);refine gR rfl (by decide +kernel) ?_;refine gR rfl (by decide +kernel) ?_;refine gR rfl (by decide +kernel) ?_;refine jj rfl (by decide +kernel) ?_;exact(Zr rfl (Zr rfl ⟨a,b,v,xs,key,by_,fs,d,fp,r,rfl,ha,hb,aq,hW,hO,hR,q⟩))
 |tree k=>
  unfold KA at hk;obtain⟨a,u,rfl,ha,hk⟩:=hk;unfold Kd.W at hW;refine(Zr rfl ⟨a,_,_,Zr rfl ⟨rfl,d_.of ha,rfl,?_⟩⟩);refine gR rfl (by decide +kernel) ?_;refine gR rfl (by decide +kernel) ?_;refine gR rfl (by decide +kernel) ?_;refine gR rfl (by decide +kernel) ?_;refine jj rfl (by decide +kernel) ?_;exact(Zr rfl (Zr rfl ⟨a,u,v,k,d,fp,r,rfl,ha,hk,hW,hO,hR,q⟩))
 |gA fs=>
  unfold KA at hk;obtain⟨a,b,xs,rfl,ha,hb,aq⟩:=hk;unfold Kd.W at hW;refine(Zr rfl ⟨a,_,_,Zr rfl ⟨rfl,d_.of ha,rfl,?_⟩⟩);refine gR rfl (by decide +kernel) ?_;refine gR rfl (by decide +kernel) ?_;refine gR rfl (by decide +kernel) ?_;refine gR rfl (by decide +kernel) ?_;refine gR rfl (by decide +kernel) ?_;exact(Zr rfl ⟨a,_,_,Zr rfl ⟨rfl,d_.of ha,rfl,Zr rfl ⟨b,v,xs,fs,d,fp,r,rfl,hb,aq,hW.1,hW.2.2.2,hO,hR,q⟩⟩⟩)
def uW (J:It) (H:Hp) (xs:List V):Prop:=(∀i x,xs[i]? =some x->J.go i H)/\(∀i x H',J.jN i H x H'->H'=H/\xs[i]? =some x)/\J.stop xs.length H
theorem CF {K:W.Frag}{H:Hp}{a:Addr}{xs:List V}(h:d_ K H a xs):uW (nu K a) H xs:=⟨λ_ _ e=>⟨_,_,h,e⟩,λ_ _ _ y=>⟨y.1,y.2 _ h⟩,_,h,Q00 _⟩
theorem oo {K:W.Frag}{H:Hp}{a:Addr}{xs:List V}(h:eA K H a xs):uW (nt K a) H xs:=⟨λ_ _ e=>⟨_,_,h,e⟩,λ_ _ _ y=>⟨y.1,y.2 _ h⟩,_,h,Q00 _⟩
def CW (F:Nat->List V) (n:Nat) (H:Hp) (i m:Nat) (ys:List V) (H':Hp):Prop:=m=n - i/\i<=n/\ys=F i/\(F i).length<=i/\H'=H
theorem lW {J:It}{H:Hp}{xs:List V}{S:List V->Hp->Prop}{C:(Nat->Nat->List V->Hp->Prop)->Nat->Nat->List V->V->Hp->Prop}(hJ:uW J H xs)(F:Nat->List V)(aa:xs.length<=1000)
 (q:S (F xs.length) H) (step:∀i x,xs[i]? =some x->(∀y,F (i+1)=F i++[y]->∃Y,Y<xs.length - i/\CW F xs.length H (i+1) Y (F i++[y]) H)->(F (i+1)=F i->∃Y,Y<xs.length - i/\CW F xs.length H (i+1) Y (F i) H)->C (CW F xs.length H) i (xs.length - i) (F i) x H) (h0:F 0=[]:=by rfl):
 ∃W:Nat->Nat->List V->Hp->Prop,(∃m,W 0 m [] H)/\∀i m ys H',W i m ys H'->(J.stop i H'/\S ys H')\/(J.go i H'/\ys.length<sizeLine/\∀x U,J.jN i H' x U->C W i m ys x U):=by
 refine⟨CW F xs.length H,(Zr rfl ⟨Q04 _,h0.symm,by rw[h0];exact Q00 0,rfl⟩),?_⟩;rintro i m ys H' ⟨rfl,hi,rfl,hl,rfl⟩;by_cases I:i<xs.length
 . refine .inr ⟨hJ.1 i _ (Q02 I),gz (by omega),λx U y=>?_⟩;obtain⟨rfl,hx⟩:=hJ.2.1 _ _ _ y;exact step i x hx (λy e=>⟨_,Q2j _ _ I,rfl,I,e.symm,by rw[e,Q05];exact Q3d hl,rfl⟩) (λe=>⟨_,Q2j _ _ I,rfl,I,e.symm,by rw[e];omega,rfl⟩)
 . cases Q3e hi (Q17 I);exact .inl ⟨hJ.2.2,q⟩
theorem take_add {α:Type}{l:List α}{i:Nat}{x:α}(h:l[i]? =some x):l.take (i+1)=l.take i++[x]:=by
 rw[Q0x,h];rfl
theorem Ji {α I:Type}{l:List α}{p:α->Bool}{f:α->I}{i:Nat}{x:α}(h:l[i]? =some x)(c:p x=true):((l.take (i+1)).filter p).map f=((l.take i).filter p).map f++[f x]:=by
 rw[take_add h,Q2k,Q1i,if_pos c,Q0i];rfl
theorem Jj {α I:Type}{l:List α}{p:α->Bool}{f:α->I}{i:Nat}{x:α}(h:l[i]? =some x)(c:¬p x=true):((l.take (i+1)).filter p).map f=((l.take i).filter p).map f:=by
 rw[take_add h,Q2k,Q1i,if_neg c,List.filter_nil,Q0y]
theorem Fs.uX:∀{fs:Fs}{x:Str}{k:Kd},fs.get x=some k->∃j,fs.at j=some (x,k)
 | .nil,_,_,h=>by cases h
 | .cons y q r,x,k,h=>by
   have h:(if x=y then some q else r.get x)=some k:=h;by_cases e:x=y
   . rw[if_pos e] at h
     cases h;exact⟨0,by rw[e];rfl⟩
   . rw[if_neg e] at h;obtain⟨j,I⟩:=Fs.uX h;exact⟨j+1,I⟩
theorem Fs.uY {fs:Fs}{i j:Nat}{x:Str}{k I:Kd}(J:fs.names.Nodup)(h1:fs.at i=some (x,k))(h2:fs.at j=some (x,I)):i=j:=by
 have U:fs.names[i]? =some x:=by rw[Fs.jT,h1];rfl
 have Y:fs.names[j]? =some x:=by rw[Fs.jT,h2];rfl
 obtain⟨l1,q1⟩:=List.getElem?_eq_some_iff.mp U;obtain⟨l2,q2⟩:=List.getElem?_eq_some_iff.mp Y;exact(Q25 J).mp (q1.trans q2.symm)
theorem uZ (i:Nat):(List.replicate i true).all id=true:=by
 rw[Q12];intro z I;rw[List.eq_of_mem_replicate I];rfl
def pY (n:Nat):Sp:=λvs H Q _=>∃I v1 J k d f1 U,vs=[I,v1,J]/\KA H I k/\k.W/\Own H v1 d f1/\Own H J d U/\eV k d/\d.dep<=n/\d.Sm/\∀H',Same H H'->Q (.bl true) H'
theorem Jk:fG XI XG (eX (top 38)):=fW
theorem Jl (n:Nat)(T:Tb mg)(I:Dn K mg "_law_alike" jW (top 38) aa ab)(J:eE P w K mg base eI (n+1) aa ab jW (pY n)):eE P w K mg base eI ((n+1)+1) aa ab jW (pY (n+1)):=by
 refine I.F.ok Jk λvs H Q E h=>?_;obtain⟨kv,v1,v2,k,d,f1,f2,rfl,hk,hW,ag,ah,hF,ar,aj,q⟩:=h;refine⟨rfl,λa7 A outer s nd hr hu=>?_⟩
 refine⟨_,(en (eR (eP fi (eK (pv 0) b_) fg (eM _)) (eG (eJ (lB (fA iy (by rfl) T.iz boot_isinstance (a_ (pv 1) (a_ (iq (v:=.ty "int") rfl T.uk boot_int rfl) c_))) (lB (qj (fA iy (by rfl) T.iz boot_isinstance (a_ (pv 1) (a_ (iq (v:=.ty "bool") rfl T.um boot_bool rfl) c_)))) (ku (iO fi (pv 1) (pv 2) (eM _))))))) eS)
  (en (eR (eP fi (eK (pv 0) b_) fg (eM _)) (eG (eJ (lB (fA iy (by rfl) T.iz boot_isinstance (a_ (pv 1) (a_ (iq (v:=.ty "str") rfl T.uo boot_str rfl) c_))) (ku (iO fi (pv 1) (pv 2) (eM _)))))) eS)
  (en (eR (eP fi (eK (pv 0) b_) fg (eM _)) (en (eR (PW.pt (ic (hU (gN (fA iy (by rfl) T.iz boot_isinstance (a_ (pv 1) (a_ (iq (v:=.ty "dict") rfl T.uq boot_dict rfl) c_))))) (ib (eP jO (fA tN (by rfl) T.gB PySem.boot_len (a_ (pv 1) c_)) (fA gO (by rfl) T.gB PySem.boot_len (a_ (eK (pv 0) b_) c_)) (eM _))))) (eG (eJ ip)) eS)
  (en (ie PassesOwn.never rfl (j2 (eK (pv 0) b_)) (i7 rfl (gQ (fQ (i:=3) nd rfl gq) (gQ (fQ (i:=4) nd rfl gq) i6))) (eG (eR (PW.pt (ic (qg (An hu (pv 3) (pv 1)) (by with_unfolding_all rfl)) (ib (hU (gN (eN J hr I (a_ (pv 4) (a_ (h9 hu (pv 1) (pv 3) (λ_ _=>rfl)) (a_ (h9 hu (pv 2) (pv 3) (λ_ _=>rfl)) c_))))))))) (eG (eJ ip)) eS)))
  (eG (eJ ip)))) eS)
  (en (eR (eP fi (eK (pv 0) b_) fg (eM _)) (en (eR (PW.pt (ic (hU (gN (fA iy (by rfl) T.iz boot_isinstance (a_ (pv 1) (a_ (iq (v:=.ty "list") rfl T.mM boot_list rfl) c_))))) (ib (eP jO (fA tN (by rfl) T.gB PySem.boot_len (a_ (pv 1) c_)) (fA gO (by rfl) T.gB PySem.boot_len (a_ (pv 2) c_)) (eM _))))) (eG (eJ ip)) eS)
  (eG (eJ (fA (qD rfl) (by rfl) T.q9 boot_all (a_ (lF (g:=(oP K 2 (kz (gX 0) (kz (gX 1) oO)))) (tt:=kM) (te:=(jw _ _ _ (gy (oS (gy (tC (.str "record")) (gy (gI (i9 K) (fF 2) (tC (.int 3))) iu))) (gy (fF 0) (gy (fF 1) iu))))) (own:=["_law_a","_law_b"]) rfl (jb (N:=XI) (sc:=eX (top 38))) (tZ rfl T.ui (a_ (pv 1) (a_ (pv 2) c_))) (λ_ _ _ _ _=>(i7 rfl (gQ (fQ (i:=0) (show(XE:List Str).Nodup by decide +kernel) rfl (Or.inl rfl) (.inr rfl)) (gQ (fQ (i:=1) (show(XE:List Str).Nodup by decide +kernel) rfl (Or.inl rfl) (.inr rfl)) i6)))) (λ_ _ _ _ _=>mC) (λ_ _ _ _ _=>(eN J hr I (a_ (gc (a_ fg (a_ (eK (pv 2) b_) c_))) (a_ (pv 0) (a_ (pv 1) c_)))))) c_))))) eS)
  (en (eR (PW.pt (ic (hU (gN (fA iy (by rfl) T.iz boot_isinstance (a_ (pv 1) (a_ (iq (v:=.ty "tuple") rfl T.pF boot_tuple rfl) c_))))) (ib (eP jO (fA tN (by rfl) T.gB PySem.boot_len (a_ (pv 1) c_)) b_ (eM _))))) (eG (eJ ip)) eS)
  (en (eR (eP fi (eK (pv 0) b_) fg (eM _)) (en (eR (PW.pt (ic (hU (gN (fA iy (by rfl) T.iz boot_isinstance (a_ (eK (pv 1) b_) (a_ (iq (v:=.ty "str") rfl T.uo boot_str rfl) c_))))) (ib (eP jO (eK (pv 1) b_) (eK (pv 2) b_) (eM _))))) (eG (eJ ip)) eS)
  (en (nH (i:=4) nd rfl gq (g:=(gX 0)) (tt:=(lD (gI kH (gI (i9 K) (fF 0) (tC (.int 0))) (gI (i9 K) (fF 3) (tC (.int 0)))))) (te:=(gI (i9 K) (fF 0) (tC (.int 1)))) (own:=["_law_pair"]) rfl (jb (N:=XI) (sc:=eX (top 38))) (j2 (eK (pv 0) b_)) (λ_ _ _ _ _=>(fQ (i:=0) (show(["_law_pair","_law_kind_here","_law_found","_law_due_here","_law_name","_law_inner"]:List Str).Nodup by decide +kernel) rfl (Or.inl rfl) (.inr rfl))) (λ_ _ _ _ _=>(mD (eP fi (eK (pv 0) b_) (eK (pv 3) b_) (eM _)))) (λ_ _ _ _ _=>(eK (pv 0) b_)))
  (eG (eJ (eN J hr I (a_ (gK (pv 4) b_) (a_ (eK (pv 1) b_) (a_ (eK (pv 2) b_) c_)))))))) eS)
  (en (eR (PW.pt (ic (hU (gN (fA iy (by rfl) T.iz boot_isinstance (a_ (eK (pv 1) b_) (a_ (iq (v:=.ty "list") rfl T.mM boot_list rfl) c_))))) (ib (eP jO (fA gO (by rfl) T.gB PySem.boot_len (a_ (eK (pv 1) b_) c_)) (fA gO (by rfl) T.gB PySem.boot_len (a_ (eK (pv 2) b_) c_)) (eM _))))) (eG (eJ ip)) eS)
  (en (eR (hU (gN (eN J hr I (a_ (eK (pv 0) b_) (a_ (eK (pv 1) b_) (a_ (eK (pv 2) b_) c_)))))) (eG (eJ ip)) eS)
  (eG (eJ (fA (qD rfl) (by rfl) T.q9 boot_all (a_ (lF (g:=(oP K 2 (kz (gX 0) (kz (gX 1) oO)))) (tt:=kM) (te:=(jw _ _ _ (gy (fF 2) (gy (fF 0) (gy (fF 1) iu))))) (own:=["_law_a","_law_b"]) rfl (jb (N:=XI) (sc:=eX (top 38))) (tZ rfl T.ui (a_ (eK (pv 1) b_) (a_ (eK (pv 2) b_) c_))) (λ_ _ _ _ _=>(i7 rfl (gQ (fQ (i:=0) (show(XE:List Str).Nodup by decide +kernel) rfl (Or.inl rfl) (.inr rfl)) (gQ (fQ (i:=1) (show(XE:List Str).Nodup by decide +kernel) rfl (Or.inl rfl) (.inr rfl)) i6)))) (λ_ _ _ _ _=>mC) (λ_ _ _ _ _=>(eN J hr I (a_ (pv 2) (a_ (pv 0) (a_ (pv 1) c_)))))) c_)))))))))))),?_⟩
 ac_rfl
 refine BG λzg hz=>?_
 cases k with
 |num=>
  unfold KA at hk;obtain⟨a,rfl,ha⟩:=hk;unfold eV at hF;obtain⟨z,rfl⟩:=hF;unfold Own at ag ah;obtain⟨rfl,rfl⟩:=ag;obtain⟨rfl,rfl⟩:=ah;refine hz ?_;refine ik rfl ha rfl (by decide +kernel) ?_;refine(Zr rfl ⟨_,_,_,true,rfl,.int z,rfl,true,rfl,fv ?_⟩);refine(Zr rfl ⟨_,_,_,false,rfl,.int z,rfl,false,rfl,true,rfl,fv ?_⟩);refine(Zr rfl (Zr rfl ⟨rfl,?_⟩));rw[decide_eq_true rfl];exact q _ (Same.refl _)
 |fE=>
  unfold KA at hk;obtain⟨a,rfl,ha⟩:=hk;unfold eV at hF;obtain⟨z,rfl⟩:=hF;unfold Own at ag ah;obtain⟨rfl,rfl⟩:=ag;obtain⟨rfl,rfl⟩:=ah;refine hz ?_;refine fU rfl ha rfl (by decide +kernel) ?_;refine ik rfl ha rfl (by decide +kernel) ?_;refine(Zr rfl ⟨_,_,_,true,rfl,.str _,rfl,true,rfl,fv ?_⟩);refine(Zr rfl (Zr rfl ⟨rfl,?_⟩));rw[decide_eq_true rfl];exact q _ (Same.refl _)
 |eZ fs=>
  unfold KA at hk;obtain⟨a,b,xs,rfl,ha,hb,ai⟩:=hk;unfold eV at hF;obtain⟨m,rfl,hF⟩:=hF;unfold Own at ag ah;obtain⟨c1,aE,g1,rfl,U,rfl,ak⟩:=ag;obtain⟨c2,a8,g2,rfl,ac,rfl,ao⟩:=ah;unfold Kd.W at hW;unfold D.Sm at aj;simp only[D.dep] at ar;have aL:m.dep<=n:=by omega
  refine hz ?_;refine fU rfl ha rfl (by decide +kernel) ?_;refine fU rfl ha rfl (by decide +kernel) ?_;refine ik rfl ha rfl (by decide +kernel) ?_;have el:aE.length=xs.length:=by rw[eO.len ak,FA.len fs ai,hF.names]
  refine(Zr rfl ⟨_,_,_,true,rfl,.dK U,rfl,true,rfl,fk ?_⟩);refine(Zr rfl (.inl ⟨c1,Zr rfl ⟨U,Zr rfl ⟨a,_,_,Zr rfl ⟨rfl,d_.of ha,rfl,b,Zr rfl ⟨.inr (d_.of hb),rfl,Zr rfl ?_⟩⟩⟩⟩⟩));refine kL (show V.int (aE.length:Nat)=V.int (xs.length:Nat) by rw[el]) ?_;refine(Zr rfl ⟨a,_,_,Zr rfl ⟨rfl,d_.of ha,rfl,b,rfl,⟨_,d_.of hb⟩,mi (xs:=xs) (λi σ H'=>Same H H'/\∃x y,σ=[some (.ref a),some (.ref c1),some (.ref c2),x,y]) ⟨Same.refl _,_,_,rfl⟩ ?_ ?_ ?_⟩⟩)
  . rintro i σ H' _ ⟨s2,_⟩;exact d_.of (s2 _ _ hb)
  . rintro i v σ H' hv ⟨s2,x,y,rfl⟩;obtain⟨c,u,nm,k,rfl,ae,hc,hk⟩:=FA.get fs ai hv;obtain⟨d,hd,am⟩:=hF.get (Fs.jU hW.1 ae);obtain⟨e1,f1,aU,aM,_⟩:=eO.val _ ak hd;obtain⟨e2,f2,aV,aP,_⟩:=eO.val _ ao hd;have g1:gf H' c1 (.str nm) (some e1):=by have:=gf.k (k:=Sum.inr nm) (s2 _ _ U);rw[aU] at this;exact this
    have g2:gf H' c2 (.str nm) (some e2):=by have:=gf.k (k:=Sum.inr nm) (s2 _ _ ac);rw[aV] at this;exact this
    refine⟨c,Zr rfl ⟨d_.of (s2 _ _ hc),rfl,_,Zr rfl ⟨_,Zr rfl ⟨rfl,?_⟩⟩⟩⟩;refine(Zr rfl (Zr rfl ⟨c1,Zr rfl ⟨g1,false,rfl,fk ?_⟩⟩));refine(Zr rfl (Zr rfl (Zr rfl ⟨c1,e1,rfl,g1,Zr rfl (Zr rfl ⟨c2,e2,rfl,g2,u,e1,e2,k,d,f1,f2,rfl,KA.mono (Tu.of s2) k hk,Fs.kU hW.2.2 ae,Own.same s2 aM,Own.same s2 aP,am,Q0e (Ds.qW hd) aL,Ds.rE aj.2 hd,λH3 s3=>⟨true,rfl,fk ?_⟩⟩)⟩)));exact⟨s2.trans s3,_,_,rfl⟩
  . rintro σ H' ⟨s2,_⟩;exact q _ s2
 |rows key by_ fs=>
  unfold KA at hk;obtain⟨a,b,xs,rfl,ha,hb,ai⟩:=hk;unfold eV at hF;obtain⟨rs,rfl,am,a6,a9⟩:=hF;unfold Own at ag ah;obtain⟨c1,Y,g1,rfl,U,rfl,ak⟩:=ag;obtain⟨c2,af,g2,rfl,ac,rfl,ao⟩:=ah;unfold Kd.W at hW;unfold D.Sm at aj;simp only[D.dep] at ar;have al:Y.length=(gh rs).len:=eQ.len _ ak;have ap:af.length=(gh rs).len:=eQ.len _ ao;have aQ:=aj.1;refine hz ?_;refine fU rfl ha rfl (by decide +kernel) ?_;refine fU rfl ha rfl (by decide +kernel) ?_;refine fU rfl ha rfl (by decide +kernel) ?_;refine ik rfl ha rfl (by decide +kernel) ?_;refine(Zr rfl ⟨_,_,_,true,rfl,.lst U,rfl,true,rfl,fk ?_⟩);refine(Zr rfl (.inr ⟨c1,Zr rfl ⟨.inl (eA.of U),Zr rfl ⟨c2,Zr rfl ⟨.inl (eA.of ac),rfl,Zr rfl (kL (show V.int (Y.length:Nat)=V.int (af.length:Nat) by rw[al,ap]) ?_)⟩⟩⟩⟩));refine(Zr rfl (Zr rfl ⟨c1,c2,rfl,⟨_,eA.of U⟩,⟨_,eA.of ac⟩,λi m zs H'=>m=Y.length - i/\i<=Y.length/\zs=(List.replicate i true).map V.bl/\Same H H',⟨Y.length,rfl,Q04 _,rfl,Same.refl _⟩,?_⟩));rintro i mm zs H' ⟨rfl,aT,rfl,s2⟩;by_cases hi:i<Y.length
  . have av:i<af.length:=by omega
    refine .inr ⟨⟨Y,af,Y[i],af[i],eA.of (s2 _ _ U),eA.of (s2 _ _ ac),Q02 hi,Q02 av⟩,by rw[Q03,Q1v];exact gz (by omega),λx aW y=>?_⟩;obtain⟨p,x1,x2,hp,rfl,e1,e2,rfl⟩:=y;have e1:=e1 _ (eA.of (s2 _ _ U));have e2:=e2 _ (eA.of (s2 _ _ ac));obtain⟨d,fa,ae,aw,_⟩:=eQ.get _ ak e1;obtain⟨d',fb,an,ax,_⟩:=eQ.get _ ao e2;rw[ae] at an
    cases an;obtain⟨m,hm,rfl⟩:=BN ae;have aX:=uH m hm;have s3:Same H' (upd H' p (.tup [x1,x2])):=Same.new hp;have sa:=s2.trans s3;refine⟨p,Zr rfl ⟨d_.of eF,rfl,_,Zr rfl ⟨_,Zr rfl ⟨rfl,rfl,yes (fv ?_)⟩⟩⟩⟩;refine(Zr rfl ⟨a,_,_,Zr rfl ⟨rfl,d_.of (sa _ _ ha),rfl,gn,λt ht=>?_⟩⟩);have st:Same (upd H' p (.tup [x1,x2])) (upd (upd H' p (.tup [x1,x2])) t (.tup [.str "record",.ref b])):=Same.new ht;have sb:=sa.trans st;refine(Zr rfl (Zr rfl ⟨.ref t,x1,x2,.eZ fs,.dct m,fa,fb,rfl,?_,?_,Own.same sb aw,Own.same sb ax,?_,by simp only[D.dep];omega,uG aj.2 m hm,λH3 s4=>?_⟩))
    . unfold KA;exact⟨t,b,xs,rfl,eF,sb _ _ hb,FA.mono (Tu.of sb) fs ai⟩
    . unfold Kd.W;exact⟨hW.1,hW.2.1,hW.2.2.1⟩
    . unfold eV;exact⟨m,rfl,am m hm⟩
    . refine⟨Y.length - (i+1),by omega,rfl,hi,?_,sb.trans s4⟩;rw[List.replicate_succ',Q0i];rfl
  . refine .inl ⟨⟨Y,af,eA.of (s2 _ _ U),eA.of (s2 _ _ ac),.inl (Q17 hi)⟩,λp hp=>⟨p,List.replicate i true,rfl,eA.of eF,?_⟩⟩;rw[uZ];exact q _ (s2.trans (Same.new hp))
 |tree k=>
  have aY:=hk;unfold KA at hk;obtain⟨a,u,rfl,ha,aZ⟩:=hk;unfold eV at hF;have a1:=hW;unfold Kd.W at hW;obtain⟨x,y,t,as,rfl,a2,ai⟩:=hF.shape;obtain⟨c1,u1,w1,ay,ba,rfl,U,rfl,az,aF⟩:=ag.pair;obtain⟨c2,u2,w2,aA,bb,rfl,ac,rfl,aB,aG⟩:=ah.pair;unfold Own at aF aG;obtain⟨l1,Y,g1,rfl,al,rfl,ak⟩:=aF;obtain⟨l2,af,g2,rfl,ap,rfl,ao⟩:=aG;simp only[D.dep,Ds.dep] at ar;unfold D.Sm Ds.Sm at aj;obtain⟨_,aH,aq⟩:=aj;unfold Ds.Sm at aq;have aC:=aq.1;unfold D.Sm at aC;have aQ:=aC.1;have a3:Y.length=as.len:=eQ.len _ ak;have a4:af.length=as.len:=eQ.len _ ao;refine hz ?_;refine fU rfl ha rfl (by decide +kernel) ?_;refine fU rfl ha rfl (by decide +kernel) ?_;refine fU rfl ha rfl (by decide +kernel) ?_;refine fU rfl ha rfl (by decide +kernel) ?_;refine(Zr rfl ⟨_,_,_,true,rfl,.tup U,rfl,true,rfl,fk ?_⟩);refine(Zr rfl (.inr ⟨c1,Zr rfl ⟨.inr (d_.of U),rfl,Zr rfl (kL rfl ?_)⟩⟩));refine fU rfl ha rfl (by decide +kernel) ?_;refine(Zr rfl ⟨c1,_,_,Zr rfl ⟨rfl,d_.of U,rfl,_,_,_,true,rfl,.lst al,rfl,true,rfl,fk ?_⟩⟩);refine(Zr rfl ⟨c1,_,_,Zr rfl ⟨rfl,d_.of U,rfl,l1,Zr rfl ⟨.inl (eA.of al),Zr rfl ⟨c2,_,_,Zr rfl ⟨rfl,d_.of ac,rfl,l2,Zr rfl ⟨.inl (eA.of ap),rfl,Zr rfl (kL (show V.int (Y.length:Nat)=V.int (af.length:Nat) by rw[a3,a4]) ?_)⟩⟩⟩⟩⟩⟩);refine(Zr rfl ⟨a,_,_,Zr rfl ⟨rfl,d_.of ha,rfl,Zr rfl ⟨c1,_,_,Zr rfl ⟨rfl,d_.of U,rfl,Zr rfl ⟨c2,_,_,Zr rfl ⟨rfl,d_.of ac,rfl,u,u1,u2,k,t,ay,aA,rfl,aZ,hW,az,aB,a2,by omega,aH,λH1 s1=>⟨true,rfl,fk ?_⟩⟩⟩⟩⟩⟩⟩);refine(Zr rfl ⟨c1,_,_,Zr rfl ⟨rfl,d_.of (s1 _ _ U),rfl,Zr rfl ⟨c2,_,_,Zr rfl ⟨rfl,d_.of (s1 _ _ ac),rfl,l1,l2,rfl,⟨_,eA.of (s1 _ _ al)⟩,⟨_,eA.of (s1 _ _ ap)⟩,λi m zs H'=>m=Y.length - i/\i<=Y.length/\zs=(List.replicate i true).map V.bl/\Same H H',⟨Y.length,rfl,Q04 _,rfl,s1⟩,?_⟩⟩⟩⟩);rintro i mm zs H' ⟨rfl,aT,rfl,s2⟩;by_cases hi:i<Y.length
  . have av:i<af.length:=by omega
    refine .inr ⟨⟨Y,af,Y[i],af[i],eA.of (s2 _ _ al),eA.of (s2 _ _ ap),Q02 hi,Q02 av⟩,by rw[Q03,Q1v];exact gz (by omega),λx aW y=>?_⟩;obtain⟨p,x1,x2,hp,rfl,e1,e2,rfl⟩:=y;have e1:=e1 _ (eA.of (s2 _ _ al));have e2:=e2 _ (eA.of (s2 _ _ ap));obtain⟨d,fa,ae,aw,_⟩:=eQ.get _ ak e1;obtain⟨d',fb,an,ax,_⟩:=eQ.get _ ao e2;rw[ae] at an
    cases an;have aX:=Ds.lG ae;have s3:Same H' (upd H' p (.tup [x1,x2])):=Same.new hp;have sa:=s2.trans s3;refine⟨p,Zr rfl ⟨d_.of eF,rfl,_,Zr rfl ⟨_,Zr rfl ⟨rfl,rfl,yes (fv ?_)⟩⟩⟩⟩;refine(Zr rfl (Zr rfl (Zr rfl ⟨.ref a,x1,x2,.tree k,d,fa,fb,rfl,KA.mono (Tu.of sa) _ aY,a1,Own.same sa aw,Own.same sa ax,(by unfold eV;exact iG.at ai ae),by omega,Ds.uF aC.2 ae,λH3 s4=>?_⟩)));refine⟨Y.length - (i+1),by omega,rfl,hi,?_,sa.trans s4⟩;rw[List.replicate_succ',Q0i];rfl
  . refine .inl ⟨⟨Y,af,eA.of (s2 _ _ al),eA.of (s2 _ _ ap),.inl (Q17 hi)⟩,λp hp=>⟨p,List.replicate i true,rfl,eA.of eF,?_⟩⟩;rw[uZ];exact q _ (s2.trans (Same.new hp))
 |gA fs=>
  unfold KA at hk;obtain⟨a,b,xs,rfl,ha,hb,ai⟩:=hk;unfold eV at hF;obtain⟨x,v',rfl,hE⟩:=hF;obtain⟨c1,z1,u1,bc,ay,rfl,U,rfl,aI,az⟩:=ag.pair;obtain⟨c2,z2,u2,bd,aA,rfl,ac,rfl,aJ,aB⟩:=ah.pair;unfold Own at aI aJ;obtain⟨rfl,rfl⟩:=aI;obtain⟨rfl,rfl⟩:=aJ;unfold Kd.W at hW;simp only[D.dep,Ds.dep] at ar;unfold D.Sm Ds.Sm at aj;obtain⟨_,aH,aq⟩:=aj;unfold Ds.Sm at aq;obtain⟨k,au,am⟩:=uN hE;obtain⟨j,hj⟩:=Fs.uX au;obtain⟨c,u,aD,hc,a5⟩:=FA.at ai hj;have be:j<xs.length:=(List.getElem?_eq_some_iff.mp aD).1;have bf:xs.length<=12:=by rw[FA.len fs ai];exact hW.2.1
  refine hz ?_;refine fU rfl ha rfl (by decide +kernel) ?_;refine fU rfl ha rfl (by decide +kernel) ?_;refine fU rfl ha rfl (by decide +kernel) ?_;refine fU rfl ha rfl (by decide +kernel) ?_;refine(Zr rfl ⟨_,_,_,true,rfl,.tup U,rfl,true,rfl,fk ?_⟩);refine(Zr rfl (.inr ⟨c1,Zr rfl ⟨.inr (d_.of U),rfl,Zr rfl (kL rfl ?_)⟩⟩));refine ik rfl ha rfl (by decide +kernel) ?_;refine(Zr rfl ⟨c1,_,_,Zr rfl ⟨rfl,d_.of U,rfl,_,_,_,true,rfl,.str _,rfl,true,rfl,fk ?_⟩⟩);refine(Zr rfl ⟨c1,_,_,Zr rfl ⟨rfl,d_.of U,rfl,Zr rfl ⟨c2,_,_,Zr rfl ⟨rfl,d_.of ac,rfl,rfl,Zr rfl (kL rfl ?_)⟩⟩⟩⟩);refine(Zr rfl ⟨a,_,_,Zr rfl ⟨rfl,d_.of ha,rfl,b,rfl,⟨_,d_.of hb⟩,lW (CF (d_.of hb)) (λi=>if j<i then [u] else []) (by omega) (λp hp=>?_) (λi z hv add skip=>?_) (if_neg (Q1l _))⟩⟩)
  . rw[if_pos (List.getElem?_eq_some_iff.mp aD).1];have s1:Same H (upd H p (.lst [u])):=Same.new hp
    exact(Zr rfl ⟨p,_,_,Zr rfl ⟨rfl,eA.of eF,gY (j:=0) rfl,Zr rfl ⟨c1,_,_,Zr rfl ⟨rfl,d_.of (s1 _ _ U),rfl,Zr rfl ⟨c2,_,_,Zr rfl ⟨rfl,d_.of (s1 _ _ ac),rfl,
     u,u1,u2,k,v',ay,aA,rfl,KA.mono (Tu.of s1) k a5,Fs.rQ hW.2.2.2 au,Own.same s1 az,Own.same s1 aB,am,by omega,aq.1,λH2 s2=>q _ (s1.trans s2)⟩⟩⟩⟩⟩⟩)
  . obtain⟨d,w',nm,k',rfl,ae,hd,bg⟩:=FA.get _ ai hv;refine⟨rfl,Zr rfl ⟨d,_,_,Zr rfl ⟨rfl,d_.of hd,rfl,Zr rfl ⟨c2,_,_,Zr rfl ⟨rfl,d_.of ac,rfl,rfl,Zr rfl (fJ (λcc=>?_) (λcc=>skip ?_))⟩⟩⟩⟩⟩
    . have e:nm=x:=by
       have:=of_decide_eq_true cc;injection this
      subst e
      cases Fs.uY hW.1 ae hj;rw[aD] at hv
      cases hv;rw[hc] at hd
      cases hd;refine(Zr rfl ⟨c,_,_,Zr rfl ⟨rfl,d_.of hc,rfl,add _ ?_⟩⟩);rw[if_neg (Q0m _),if_pos (Q10 _)];rfl
    . have ne:i≠j:=λe=>by
       subst e;rw[ae] at hj
       cases hj;exact cc (decide_eq_true rfl)
      by_cases aK:j<i
      . rw[if_pos aK,if_pos (by omega)]
      . rw[if_neg aK,if_neg (by omega)]
theorem CG (T:Tb mg)(I:Dn K mg "_law_alike" jW (top 38) J U):∀n:Nat,eE P w K mg base eI (n+1) J U jW (pY n)
 |0=>by
  have Y:∀vs H Q E,¬pY 0 vs H Q E:=λvs H Q E h=>by
   obtain⟨_,_,_,_,d,_,_,_,_,_,_,_,_,hd,_⟩:=h;have:=d.j6;omega
  exact⟨λvs H Q E h=>absurd h (Y vs H Q E),λA outer s H args us vs Q E _ _ _ _ h=>absurd h (Y vs H Q E)⟩
 |n+1=>Jl n T I (CG T I n)
theorem CH (ns:List Int)(k:Kd)(U:k.W)(room:Nat)(n:Int)(Y:room<8):rJ (val ns k room n).1:=by
 intro s J;have I:=mL ns k U room n Y;rw[J] at I
 cases k with
 |fE=>
  have ev:(val ns .fE room n).1=.str (fE ns (n+1)):=by simp only[val]
  rw[ev] at J
  cases J;unfold fE;rw[rq];split <;> omega
 |num=>unfold eV at I;obtain⟨_,e⟩:=I;cases e
 |eZ fs=>unfold eV at I;obtain⟨_,e,_⟩:=I;cases e
 |rows key by_ fs=>unfold eV at I;obtain⟨_,e,_⟩:=I;cases e
 |tree q=>unfold eV at I;obtain⟨_,_,_,_,e,_⟩:=I.shape;cases e
 |gA fs=>unfold eV at I;obtain⟨_,_,e,_⟩:=I;cases e
theorem CI:∀{ps:List Str}{k I:Kd},k.W->jC ps k=some I->I.W
 |[],k,I,w,h=>by cases h;exact w
 |x::r,k,I,w,h=>by
  obtain⟨fs,J,rfl,h1,h2⟩:=uK h;unfold Kd.W at w;exact CI (Fs.rQ w.2.2 h1) h2
def oq (p:Key):Prop:=∀s,p=Sum.inr s->s.length<=100
def iM (fs:Fs) (m:Ds):Prop:=∀ps I e,jC ps (.eZ fs)=some I->iA ps (.dct m)=some e->(∀q,I≠ .eZ q)->rJ e
theorem iM.val {ns:List Int}{fs:Fs}{room:Nat}{n:Int}(J:(Kd.eZ fs).W)(U:room<8):iM fs (fc ns fs room n).1:=λps Y e I he hn=>by
 obtain⟨n',h⟩:=BQ ns room n I;have ev:(Pb.val ns (.eZ fs) room n).1=.dct (fc ns fs room n).1:=by simp only[Pb.val]
 rw[ev,he] at h
 cases h;exact CH ns Y (CI J I) room n' U
theorem iM.upd {fs:Fs}{m:Ds}{x:Str}{p:Key}(h:iM fs m)(hp:oq p):iM fs (m.upd x (kD p)):=λps kl e U Y hn=>by
 cases ps with
 |nil=>cases U;exact absurd rfl (hn fs)
 |cons y r=>
  have I:((m.upd x (kD p)).get y).bind (iA r)=some e:=Y;by_cases c:x∈m.names
  . by_cases J:y=x
    . rw[J,Ds.rP _ c] at I;have I:iA r (kD p)=some e:=I
      cases r with
      |nil=>
       cases I;intro s hs
       cases p with
       |inl z=>cases hs
       |inr z=>cases hs;exact hp _ rfl
      |cons z r=>cases p <;> cases I
    . rw[Ds.uM J] at I;exact h (y::r) kl e U I hn
  . rw[Ds.uO c] at Y;exact h _ kl e U Y hn
theorem iM.key {fs:Fs}{m:Ds}{x:Str}(h:iM fs m)(J:fs.pl x):oq (keyOf m x):=λs I=>by
 obtain⟨k,U,hp⟩:=J;unfold keyOf at I;split at I
 . cases I
 . rename_i s' e
   cases I;refine h [x] k (.str s) ?_ ?_ (λq z=>by subst z;exact hp.elim) s rfl
   . show(fs.get x).bind (jC [])=some k;rw[U];rfl
   . show(m.get x).bind (iA [])=_;rw[e];rfl
 . cases I
theorem CJ {ns:List Int}{key by_:Str}{fs:Fs}{room:Nat}{ps:List Key}{n:Int}(I:(Kd.rows key by_ fs).W)(U:room<8)(hp:∀p∈ps,oq p):∀i,∀m∈(g8 ns key by_ fs room (ps.take i) n).1,iM fs m
 |0,m,h=>by rw[Q2h] at h;cases h
 |i+1,m,h=>by
  have J:=CJ (ns:=ns) (n:=n) I U hp i
  cases e:ps[i]? with
  |none=>
   have:ps.take (i+1)=ps.take i:=by rw[Q0x,e];exact Q0y _
   rw[this] at h;exact J m h
  |some p=>
   rw[Cd e] at h;generalize g8 ns key by_ fs room (ps.take i) n=q at J h;unfold Kd.W at I;have Y:iM fs (fc ns fs room (q.2+1)).1:=iM.val (by unfold Kd.W;exact⟨I.1,I.2.1,I.2.2.1⟩) U;unfold m4 at h;split at h
   . rcases List.mem_append.mp h with z|z
     . exact J m z
     . rw[List.mem_singleton.mp z];refine iM.upd ?_ (hp p (Q0p e));split
       . rename_i hc;exact Y.upd ((J _ (uP hc.2.1)).key (I.2.2.2.2.resolve_left hc.1))
       . exact Y
   . exact J m h
theorem CK {y q:Key}:kJ (kV y) (kV q)=true↔y=q:=by
 constructor
 . intro h
   cases y <;> cases q
   . exact congrArg Sum.inl (eq_of_beq (α:=Int) h)
   . cases h
   . cases h
   . exact congrArg Sum.inr (eq_of_beq (α:=Str) h)
 . rintro rfl
   cases y
   . exact BEq.rfl (α:=Int)
   . exact BEq.rfl (α:=Str)
theorem rV {q:Key}{ps:List Key}:inV (kV q) (ps.map kV)=true↔q∈ps:=by
 unfold inV;rw[Q2g,Q2i];constructor
 . rintro⟨y,I,e⟩;rw[<-CK.mp e];exact I
 . exact λh=>⟨q,h,CK.mpr rfl⟩
theorem rW (q:Key):j4 (kV q)=true:=by cases q <;> rfl
theorem flat_keys {ps:List Key}:(ps.map kV).all j4=true:=by
 rw[List.all_map,Q12];exact λq _=>rW q
theorem Jm {H:Hp}{o:Option Kd}{k:Kd}{d:D}{v:V}{fp:List Addr}(e:o=some k)(hp:j7 k)(I:eV k d)(J:Own H v d fp):∃q,v=kV q/\d=kD q/\jq o q:=by
 subst e
 cases k with
 |num=>
  unfold eV at I;obtain⟨z,rfl⟩:=I;unfold Own at J;exact⟨.inl z,J.1,rfl,trivial⟩
 |fE=>
  unfold eV at I;obtain⟨z,rfl⟩:=I;unfold Own at J;exact⟨.inr z,J.1,rfl,trivial⟩
 |_=>exact hp.elim
def CL (K:W.Frag) (Pt:Addr) (N:Nat):Sp:=λvs H Q _=>∃a b ns n pk pb xs key by_ fs,∃m:Nat,vs=[.ref a,.ref b,.ref pk,.int m]/\G0 K H a b ns n/\eY Pt gU gW H/\H pk=some (.tup [.str "rows",.str key,.str by_,.ref pb])/\H pb=some (.tup xs)/\FA H xs fs/\(Kd.rows key by_ fs).W/\m<=30/\n+100<=1000000000000/\24<=N/\
 ∀D (ps:List Key) n' H',fj b Pt H H'->H' b=some (.lst [.int n'])->n<=n'->n'<=n+m->eY Pt gU gW H'->H D=none->D≠b->H' D=some (.lst (ps.map kV))->ps.Nodup->ps.length<=m->(∀p∈ps,jq (fs.get key) p/\oq p)->Q (.ref D) H'
theorem Jn:fG Xb XX (eX (top 46)):=fW
theorem Jo {Pt:Addr}(N:Nat)(T:Tb mg)(aa:Dn K mg "_law_pool" rb (top 46) ab ac)(I:Dn K mg "_law_value" hZ (top 37) J U)(Y:eE P w K mg base eI (2 * N+5) J U hZ (k_ K Pt N)):eE P w K mg base eI (2 * N+6) ab ac rb (CL K Pt N):=by
 refine aa.F.ok Jn λvs H Q E h=>?_;obtain⟨a,b,ns,n,pk,pb,xs,key,by_,fs,m,rfl,g,hT,av,aw,an,hW,hm,hn,hN,q⟩:=h;refine⟨rfl,λaP A outer s nd hr hu=>?_⟩
 refine⟨_,(en (eW 4 nd (gK (lF (g:=(gX 0)) (tt:=(lD (gI kH (gI (i9 K) (fF 0) (tC (.int 0))) (gI (i9 K) (fF 3) (tC (.int 1)))))) (te:=(gI (i9 K) (fF 0) (tC (.int 1)))) (own:=["_law_pair"]) rfl (jb (N:=Xb) (sc:=eX (top 46))) (j2 (eK (pv 2) b_)) (λ_ _ _ _ _=>(fQ (i:=0) (show(["_law_pair","_law_script","_law_at","_law_kind_here","_law_many","_law_lead","_law_pool_here","_law_k","_law_one"]:List Str).Nodup by decide +kernel) rfl (Or.inl rfl) (.inr rfl))) (λ_ _ _ _ _=>(mD (eP fi (eK (pv 0) b_) (eK (pv 3) b_) (eM _)))) (λ_ _ _ _ _=>(eK (pv 0) b_))) b_))
  (en (eW 5 nd (fY c_))
  (en (ie PassesOwn.never rfl (kE rfl T.kW (a_ (pv 3) c_)) (fQ (i:=6) nd rfl gq) (en (eW 7 nd (eN Y hr I (a_ (pv 0) (a_ (pv 1) (a_ (pv 4) (a_ b_ c_))))))
  (eG (eR (eP Ae (pv 7) (pv 5) (by with_unfolding_all rfl)) (eG (kx (lE PySem.F.plainAttrs_list PySem.F.slot_list_append PySem.F.type_list_append mz (pv 5) (a_ (pv 7) c_)))) eS))))
  (eG (eJ (pv 5)))))),?_⟩
 ac_rfl
 unfold Kd.W at hW;obtain⟨aH,aQ,aI,aF,aT⟩:=hW;obtain⟨k,ax,af⟩:=aF;obtain⟨j,hj⟩:=Fs.uX ax;have aJ:=FA.len fs an
 have ao:j<xs.length:=by
  rw[aJ];have:=Fs.jT fs j;rw[hj] at this;exact(List.getElem?_eq_some_iff.mp this).1
 obtain⟨cj,uj,aU,kj,ej,am,ay,az⟩:=FA.get fs an (Q02 ao);rw[hj] at am
 cases am;refine(Zr rfl ⟨pk,_,_,Zr rfl ⟨rfl,d_.of av,rfl,pb,rfl,⟨_,d_.of aw⟩,lW (CF (d_.of aw)) (λi=>if j<i then [uj] else []) (by omega) (λp hp=>?_) (λi z hv add skip=>?_) (if_neg (Q1l _))⟩⟩)
 case refine_2=>
  obtain⟨d,w',nm,k',rfl,aA,hd,aV⟩:=FA.get _ an hv;refine⟨rfl,Zr rfl ⟨d,_,_,Zr rfl ⟨rfl,d_.of hd,rfl,Zr rfl ⟨pk,_,_,Zr rfl ⟨rfl,d_.of av,rfl,rfl,Zr rfl (fJ (λcc=>?_) (λcc=>skip ?_))⟩⟩⟩⟩⟩
  . have e:nm=key:=by
     have:=of_decide_eq_true cc;injection this
    subst e
    cases Fs.uY aH aA hj;rw[Q02 ao,ej] at hv
    cases hv;rw[ay] at hd
    cases hd;refine(Zr rfl ⟨cj,_,_,Zr rfl ⟨rfl,d_.of ay,rfl,add _ ?_⟩⟩);rw[if_neg (Q0m _),if_pos (Q10 _)];rfl
  . have ne:i≠j:=λe=>by
     subst e;rw[aA] at hj
     cases hj;exact cc (decide_eq_true rfl)
    by_cases aB:j<i
    . rw[if_pos aB,if_pos (by omega)]
    . rw[if_neg aB,if_neg (by omega)]
 rw[if_pos ao];have s1:Same H (upd H p (.lst [uj])):=Same.new hp;refine⟨p,_,_,Zr rfl ⟨rfl,eA.of eF,gY (j:=0) rfl,?_⟩⟩;generalize upd H p (.lst [uj])=H1 at s1;have hb:=g.at_;have aW:=hT.same s1;refine⟨nU,λpr aC=>?_⟩;have s2:=s1.trans (Same.new aC (o:=.lst []));have ag:H pr=none:=s1.free aC;have ap:b≠pr:=eL hb ag;have aX:=KA.mono (Tu.of s2) k az;have aj:=hT.same s2;obtain⟨aY,hP⟩:=hT.tab;have jY:Pt≠pr:=eL hP ag;have em:Int.toNat (m:Int)=m:=by omega
 refine(Zr rfl (Zr rfl ⟨by omega,by omega,kF (n:=Int.toNat (m:Int)) (λi σ H'=>∃(x z:Option V) (ps:List Key) (n':Int),σ=[some (.ref a),some (.ref b),some (.ref pk),some (.int m),some uj,some (.ref pr),x,z]/\fj b Pt H H'/\H' b=some (.lst [.int n'])/\n<=n'/\n'<=n+i/\eY Pt gU gW H'/\H' pr=some (.lst (ps.map kV))/\ps.Nodup/\ps.length<=i/\∀p∈ps,jq (fs.get key) p/\oq p) ?_ ?_ ?_⟩))
 . exact⟨_,_,[],n,rfl,Kp.of s2,s2 _ _ hb,Q1a _,by omega,aj,eF,Q0w,Q00 _,λp hp=>nomatch hp⟩
 . intro i σ H' hi zq;obtain⟨x,z,ps,n',rfl,kp,aq,w1,w2,ar,ah,ak,ai,al⟩:=zq;rw[em] at hi;have au:=Fs.kU aI hj;have aZ:k.dep=1:=by cases k with|num=>rfl|fE=>rfl|_=>exact af.elim
   have a1:kc k 0<=1:=by cases k with|num=>exact Q00 _|fE=>exact Q00 _|_=>exact af.elim
   refine(Zr rfl (Zr rfl (Zr rfl ⟨a,b,ns,n',uj,k,0,rfl,fj.g0 kp g hT aq w1,ar,KA.mono (kp.tu hb hT) k az,au,by decide,(by have:=rz k 0;omega),by omega,λv H2 fp ft aD aj aG _ _=>?_⟩)));have c2:=lK ns k 0 n' (by decide);have a2:k.cB<=1:=by cases k with|num=>exact Q00 _|fE=>exact Q00 _|_=>exact af.elim
   obtain⟨qk,rfl,aE,aK⟩:=Jm ax af (mL ns k au 0 n' (by decide)) aG;have aL:oq qk:=λs hs=>CH ns k au 0 n' (by decide) s (by rw[aE,hs];rfl);clear aE;generalize (val ns k 0 n').2=n2 at *;have ae:H2 pr=some (.lst (ps.map kV)):=ft pr _ (λz=>z.elim (Ne.symm ap) (Ne.symm jY)) ah;have jF:=kp.trans ft;refine(Zr rfl (Zr rfl ⟨pr,Zr rfl ⟨.inl (eA.of ae),rW _,flat_keys,Zr rfl (fJ (λcc=>?_) (λcc=>?_))⟩⟩))
   . have aM:qk ∉ ps:=λz=>by
      have cc:(!inV (kV qk) (ps.map kV))=true:=cc;rw[rV.mpr z] at cc
      cases cc
     refine(Zr rfl ⟨.inl ⟨rfl,_,eA.of ae⟩,Zr rfl ⟨pr,_,Zr rfl ⟨rfl,ae,gz (by rw[Q03];omega),?_⟩⟩⟩);refine⟨_,_,ps++[qk],n2,rfl,λc o nc e=>?_,by rw[eu ap];exact aD,by omega,by omega,aj.wr (.inl ⟨_,ae⟩),by rw[Q0i];exact eF,?_,by rw[Q05];show ps.length+1<=i+1;omega,λp hp=>?_⟩
     . rw[eu (eL e ag)];exact jF c o nc e
     . exact List.nodup_append.mpr ⟨ak,List.nodup_cons.mpr ⟨by simp,Q0w⟩,λa ha b hb e=>by rw[List.mem_singleton.mp hb] at e;rw[e] at ha;exact aM ha⟩
     . rcases List.mem_append.mp hp with z|z
       . exact al p z
       . rw[List.mem_singleton.mp z];exact⟨aK,aL⟩
   . exact⟨_,_,ps,n2,rfl,jF,aD,by omega,by omega,aj,ae,ak,by omega,al⟩
 . intro σ H' zq;obtain⟨x,z,ps,n',rfl,kp,aq,w1,w2,ar,ah,ak,ai,al⟩:=zq;rw[em] at w2 ai;exact(Zr rfl (q pr ps n' H' kp aq w1 w2 ar ag (Ne.symm ap) ah ak ai al))
theorem Jp (xs:List V)(i:Nat):j3 xs none (some (i:Int))=xs.take i:=by
 unfold j3;rw[HT.z8,HT.z9,List.drop_zero,Nat.sub_zero];exact List.take_eq_take_iff.mpr (by omega)
theorem Jq (xs:List V)(i:Nat):j3 xs (some (i:Int)) none=xs.drop i:=by
 unfold j3;rw[HT.z8,HT.z9];rcases Nat.le_total i xs.length with h|h
 . rw[Nat.min_eq_left h];exact Q1e (by rw[Q11];exact Q00 _)
 . rw[Nat.min_eq_right h,Q3f (Q00 _),Q3f h];simp
theorem CM (T:Tb mg)(Y:Dn K mg "misfit" je (top 7) ai aj)(I:Dn K mg "record_misfit" jB (top 8) ak al)(ac:Dn K mg "has_just" jB (top 9) aq ar)(aa:Dn K mg "rows_misfit" jd (top 10) ao ap)(ah:Dn K mg "rank" mP (top 14) az aA)(J:Dn K mg "tree_misfit" k9 (top 12) af ag)(ab:Dn K mg "is_pair" mT (top 11) au av)(U:Dn K mg "either_misfit" pL (top 13) am an)(ae:Dn K mg "kind_at" pK (top 5) aw ax):∀n:Nat,eE P w K mg base eI (4 * n+3) ai aj je (m8 n)/\eE P w K mg base eI (4 * n+2) af ag k9 (pX n)
 |0=>⟨Jg T Y,Jc T J⟩
 |n+1=>by
  obtain⟨M,Tr⟩:=CM T Y I ac aa ah J ab U ae n;have Ip:=IK (P:=P) (w:=w) (base:=base) T ab;have R:=IV n T I ac (IM T ac) Y M;have Ro:=IY n T aa I R ah (BD T ah);have ay:=Jd n T J Tr ab Ip Y M;have Ei:=Jf n T U ab Ip ae (II T ae) Y M;exact⟨Jh n T Y I R aa Ro J ay U Ei,ay⟩
end Pb
namespace L2
open Spec PyProof.Rows
def lX (h:Heap) (C fI:Addr) (iX:List Value) (nid:String):Prop:=
 ∃tl N nm q bs I sn sub ab J dd k0 k1 k2 k3 k5 U Y,h.get? C=some (excClassObj nm q C N bs tl I sn sub ab J dd k0 k1 k2 k3 k5 nid)/\h.Ns N U/\U "__init__"=some (.ref fI)/\OwnTail h iX tl/\h.get? fI=some Y/\Y.cls=.type "function"
theorem lX.keeps {h h':Heap}{C fI:Addr}{iX:List Value}{nid:String}(x:lX h C fI iX nid)(k:∀b o,h.get? b=some o->h'.get? b=some o):lX h' C fI iX nid:=by
 obtain⟨tl,N,nm,q,bs,I,sn,sub,U,J,Y,k0,k1,k2,k3,k5,mN,oI,h1,h2,h3,h4,h5,h6⟩:=x;exact⟨tl,N,nm,q,bs,I,sn,sub,U,J,Y,k0,k1,k2,k3,k5,mN,oI,k _ _ h1,h2.keeps k,h3,h4.keeps k,k _ _ h5,h6⟩
section
variable {prog:Program}{w:World}{A:Around}{E:Value->Shared->Prop}{hp:Heap}{g:Array GenState}{dr:Drawn}{tk:Nat}{os:OsState}{C fI:Addr}{iX:List Value}{B nid rX:String}
theorem Jr (FB:ExcBaseFacts B nid rX iX){us:List Value}{Q:Fin->Shared->Prop}(x:lX hp C fI iX nid)
 (q1:∀h' e,Heap.MadeExcOf hp h' e (.ref C) us->wpAny (model prog w) A (call (.ref fI) (.ref e::us)) (λr s'=>r=.none/\Q (.done (.ret (.ref e))) s') E ⟨h',g,dr,tk,os⟩) (hl:us.length<=sizeLine):
 wpAny (model prog w) A (Builtin.«type.__call__» ⟨.ref C::us,[]⟩) Q E ⟨hp,g,dr,tk,os⟩:=by
 obtain⟨tl,N,nm,q,bs,al,sn,sub,ab,am,dd,k0,k1,k2,k3,k5,mN,oI,cl,ns,ae,I,af,ag⟩:=x
 repeat (first|with_reducible refine wpAny_loadPart_at cl ?_|with_reducible refine wpAny_madeBy_exc cl ?_|wp_step)
 refine codeAny_call_builtin_code (Code.quiet_builtin _ FB.quiet) (wpAny_check_new_subT FB I cl (codeAny_exc_new_subT FB I cl ?_ hl));show wpAny _ _ _ _ _ _;generalize ah:({ cls:=.type "tuple",data:=.seq us.toArray }:Obj)=o1;generalize J:({ cls:=.ref C,data:=.fields #[.ref hp.objs.size,.none,.none,.none,.bool false,.none] }:Obj)=Y;have up:∀b o,hp.get? b=some o->((hp.push o1).push Y).get? b=some o:=λb o e=>Q07 _ (Q07 _ e);have aa:=up _ _ cl;have ai:((hp.push o1).push Y).Ns N mN:=ns.keeps up;have ac:=up _ _ af;have U:=I.keeps up
 have ex:((hp.push o1).push Y).get? (hp.objs.size+1)=some Y:=by
  subst J;exact Q2l (by rw[Q1s]) rfl
 have aj:Y.cls=.ref C:=by rw[<-J]
 have ak:(Value.ref C::tl).contains (.ref C)=true:=by simp
 unfold isInstance
 repeat (first|(with_reducible refine wpAny_loadPart_at ex ?_;rw[aj])|(with_reducible refine wpAny_isSubtype_exc aa ?_;rw[ak])|wp_step)
 show wpAny _ _ (typeLookup (.ref C) _) _ _ _;refine wpAny_typeLookup_tail aa ai U FB.mroIs FB.init.lookup ?_;rw[ae];refine wpAny_holding (Q0 ?_);unfold bindSpecial;refine Q0 (wpAny_typeOf (T:="function") ⟨_,ac,ag⟩ ?_);rw[if_pos (by decide)];refine Q0c (Q0 (Q0n (q1 _ (hp.objs.size+1) ⟨up,Q24 (Q1b _),hp.objs.size,?_,Q24 (Q00 _),?_⟩) (λr s' hr=>?_) λ_ _ z=>z))
 . rw[ex,<-J]
 . rw[<-ah];exact Q07 _ (Q2l rfl rfl)
 . obtain⟨rfl,hQ⟩:=hr
   wp_walk
   exact hQ
theorem Js (FB:ExcBaseFacts B nid rX iX){us:List Value}{Q:Value->Shared->Prop}(x:lX hp C fI iX nid)
 (U:∀h' e,Heap.MadeExcOf hp h' e (.ref C) us->wpAny (model prog w) (A.under (.builtin "type.__call__" ⟨.ref C::us,[]⟩)) (call (.ref fI) (.ref e::us)) (λr s'=>r=.none/\Q (.ref e) s') E ⟨h',g,dr,tk,os⟩) (hl:us.length<=sizeLine):
 wpAny (model prog w) A (call (.ref C) us) Q E ⟨hp,g,dr,tk,os⟩:=by
 have aa:=tc_lookup;have ac:=tc_bind (.ref C);have Y:=x;obtain⟨tl,N,nm,q,bs,I,sn,sub,ab,ae,dd,k0,k1,k2,k3,k5,mN,oI,cl,ns,af,J,ag,ah⟩:=Y;have ty:(⟨hp,g,dr,tk,os⟩:Shared).TypeIs (.ref C) "type":=⟨_,cl,rfl⟩;refine wpAny_call (codeAny_of_tree ?_);show wpAny _ _ (callAny (.ref C) _) _ _ _
 repeat (any_goals (first|assumption|with_reducible refine wpAny_loadPart_at cl ?_|wp_step))
 exact⟨rfl,codeAny_call_builtin_at (Code.quiet_builtin _ (by decide +kernel)) entry_typeCall (wpAny_check_type_call_sub cl (Jr FB x (λh' e hm=>U h' e hm) hl))⟩
end
theorem Jt {M:Model}{A:Around}{E:Value->Shared->Prop}{env:Env}{s:Shared}{x:Sem Value}{Q:Flow->Shared->Prop}(hh:A.handled=none)
 (h:wpAny M A x (λv J=>∃(e C:Addr) (U:Obj) (t:Value) (r:Array Value),v=.ref e/\J.heap.get? e=some U/\U.cls=.ref C/\U.data=.fields #[t,.none,.none,.none,.bool false,.none]/\
   (∃tl N nm q bs I sn sub ab Y dd k0 k1 k2 k3 k5 nid,J.heap.get? C=some (excClassObj nm q C N bs tl I sn sub ab Y dd k0 k1 k2 k3 k5 nid)/\tl.contains (.type "BaseException")=true)/\E (.ref e) J) E s):
 wpAny M A (raiseStmt env (some x) none) Q E s:=by
 unfold raiseStmt;refine Q0 (Q0n h (λv J h1=>?_) λ_ _ z=>z);obtain⟨e,C,U,t,r,rfl,he,hc,hd,⟨tl,N,nm,q,bs,I,sn,sub,ab,Y,dd,k0,k1,k2,k3,k5,nid,cl,hb⟩,hE⟩:=h1;have aa:(Value.ref C::tl).contains (.type "BaseException")=true:=by rw[List.contains_cons,hb,Bool.or_true]
 obtain⟨hp,g,dr,tk,os⟩:=J;obtain⟨oc,od,ac,ae⟩:=U;have hc:oc=.ref C:=hc;have hd:ac=.fields #[t,.none,.none,.none,.bool false,.none]:=hd;subst hc;subst hd
 repeat (first|with_reducible refine wpAny_loadPart_at he ?_|with_reducible refine wpAny_loadPart_at cl ?_|(with_reducible refine wpAny_isSubtype_exc cl ?_;rw[aa])|wp_step)
 exact wpAny_raiseNew_none hh hE
end L2
namespace L2
open Spec Calls PyProof.Rows W Builtin Builtin.ObjectAttr
noncomputable def rY:List Value->Bool
 | .ref _::r=>rY r
 |l=>l == [.type "ValueError",.type "Exception",.type "BaseException",.type "object"]
theorem CN {self:Value}:∀{l:List Value},rY l=true->refuseLoop self "__setattr__" l=pure ()
 |[],h=>by cases h
 | .ref C::r,h=>by
   rw[refuseLoop_ref];exact CN (l:=r) h
 | .type n::r,h=>by
   have e:Value.type n::r=[.type "ValueError",.type "Exception",.type "BaseException",.type "object"]:=beq_iff_eq.mp h;rw[e];exact F.store_ValueError.passes self
 | .none::r,h=>by cases beq_iff_eq.mp (show(Value.none::r == _)=true from h)
 | .bool b::r,h=>by cases beq_iff_eq.mp (show(Value.bool b::r == _)=true from h)
 | .int i t::r,h=>by cases beq_iff_eq.mp (show(Value.int i t::r == _)=true from h)
 | .str x t::r,h=>by cases beq_iff_eq.mp (show(Value.str x t::r == _)=true from h)
 | .bytes x t::r,h=>by cases beq_iff_eq.mp (show(Value.bytes x t::r == _)=true from h)
 | .float x t::r,h=>by cases beq_iff_eq.mp (show(Value.float x t::r == _)=true from h)
 | .builtin x::r,h=>by cases beq_iff_eq.mp (show(Value.builtin x::r == _)=true from h)
 | .ellipsis::r,h=>by cases beq_iff_eq.mp (show(Value.ellipsis::r == _)=true from h)
 | .notImplemented::r,h=>by cases beq_iff_eq.mp (show(Value.notImplemented::r == _)=true from h)
structure lY (K:Frag) (C:Addr) (name:Str):Prop where
 sa:findIn K (.ref C) "__setattr__"=some (some (.builtin "object.__setattr__"))
 na:findIn K (.ref C) name=some none
 ob:mroIn K C (.type "object")=some true
 row:((clsIn K C).any λcd=>rY cd.mro && cd.hasDict)=true
section
variable {prog:Program}{w:World}{A:Around}{E:Value->Shared->Prop}{s:Shared}{K:Frag}{x C:Addr}{ox:Obj}{name:Str}{v:Value}
theorem Ju {R:Result->Shared->Prop}{tk:Tok}(X:K.In s.heap)(Z:lY K C name)(hx:s.heap.get? x=some ox)(hc:ox.cls=.ref C)
 (h:wpAny (model prog w) A.in1 (storeInOwnDict (.ref x) (.ref C) (.str name tk) name v false) (λfin s'=>match fin with| .done f=>R (.ok f) s'| .again c'=>c'.quiet=true/\codeAny (model prog w) A c' R s') (λe s'=>R (.error e) s') s):
 codeAny (model prog w) A (.call (.builtin "object.__setattr__") ⟨[.ref x,.str name tk,v],[]⟩) R s:=by
 have I:=PySem.F.store_object
 have U:Looks (model prog w) s.heap (typeOf (.ref x)) (.ref C):=by
  have z:Looks (model prog w) s.heap (typeOf (.ref x)) ox.cls:=(Looks.ld hx).andThen .now;rw[hc] at z;exact z
 have Lo:Looks (model prog w) s.heap (isInstance (.ref x) (.type "object")) true:=U.andThen (looks_mroIn X Z.ob);obtain⟨cd,Y,J⟩:=any_some Z.row;have hr:=(Bool.and_eq_true_iff.mp J).1;have Lm:Looks (model prog w) s.heap (mroOf (.ref C)) cd.mro:=(looks_clsIn X Y).andThen .now;refine codeAny_call_builtin I.slot.plain I.entry (@check_slot (model prog w) _ _ s "object.__setattr__" "object" "__setattr__" (.ref x) [.str name tk,v] [] _ I.kind I.split Lo (I.args (.ref x) (.str name tk) v) ?_);rw[osa_eq,refuse_eq];refine Q0 (Q0 (U.here (Q0 (Lm.here ?_))));rw[CN hr];refine Q0c (Q0 (U.here (Q0 ((looks_findIn X Z.na).here (Q0 ?_)))));exact(show Looks (model prog w) s.heap (storeTaker? none) none from .now).here h
theorem Jv {Q:Unit->Shared->Prop}{vs:Array Value}(X:K.In s.heap)(Z:lY K C name)(U:s.heap.get? x=some ox)(hc:ox.cls=.ref C)(J:ox.dict=none)(hd:ox.data=.fields vs)
 (h:∀h' ah,h'.Ns1 s.heap.objs.size (λy=>if y=name then some v else none)->h'.get? x=some { ox with dict:=some s.heap.objs.size }->(∀b o,b≠x->s.heap.get? b=some o->h'.get? b=some o)->Q () { s with heap:=h',toks:=ah }):
 wpAny (model prog w) A (setAttr (.ref x) name v) Q E s:=by
 have I:InstAt s.heap x ox C none:=⟨U,hc,by unfold notCls;rw[hd],by rw[J];trivial⟩;refine set_plain X I Z.sa (Ju (s:={ s with toks:=s.toks+1 }) X Z U hc ?_);obtain⟨cd,ai,af⟩:=any_some Z.row;have ag:=(Bool.and_eq_true_iff.mp af).2;obtain⟨oc,od,aj,Y⟩:=ox;have hc:oc=.ref C:=hc;have J:od=none:=J;have hd:aj=.fields vs:=hd;subst hc;subst J;subst hd;have Lc:=looks_clsIn (M:=model prog w) X ai;obtain⟨hp,g,dr,tk,os⟩:=s;have U:hp.get? x=some ⟨.ref C,none,.fields vs,Y⟩:=U;have aa:x≠hp.objs.size:=Q0a (Q01 U);unfold storeInOwnDict;refine Q0 (Q0c ?_);refine Q0 ?_;show wpAny _ _ (instanceDict x true) _ _ _;unfold instanceDict;refine Q0 (wpAny_loadPart U (Q0 (Lc.at ?_)));rw[ag];rw[if_neg (by decide)];show wpAny _ _ (if(!true || !typeHasDict (.ref C))=true then _ else _) _ _ _;rw[if_neg (by simp[typeHasDict])];show wpAny _ _ (alloc _ >>= _) _ _ _;have ab:(hp.push { cls:=.type "dict",data:=.dict #[] }).get? x=some ⟨.ref C,none,.fields vs,Y⟩:=Q07 _ U;refine Q0 (wpAny_alloc' (Q0 (wpAny_update' ab (Q0c ?_))));generalize hH:(hp.push { cls:=.type "dict",data:=.dict #[] }).update x (λo=>{ cls:=o.cls,dict:=some hp.objs.size,data:=o.data,slots:=o.slots })=h1
 have gd:h1.get? hp.objs.size=some { cls:=.type "dict",data:=.dict #[] }:=by
  rw[<-hH];exact(Q2d _ _ _ _ aa.symm).trans (Q2l rfl rfl)
 have gx:h1.get? x=some ⟨.ref C,some hp.objs.size,.fields vs,Y⟩:=by
  rw[<-hH];exact Q1g _ ab rfl
 have go:∀b o,b≠x->hp.get? b=some o->h1.get? b=some o:=λb o hb e=>by
  rw[<-hH];exact(Q2d _ _ _ _ hb).trans (Q07 _ e)
 have ak:h1.Ns hp.objs.size (λ_=>none):=⟨_,#[],_,gd,rfl,(λe he=>absurd he (by simp)),λ_=>rfl⟩;show wpAny _ _ (storeInDict hp.objs.size (.str name tk) name v) _ _ _;unfold storeInDict newKeyGuard;refine Q0 (Q0c (Q0 (wpAny_nsSet1 (Heap.Ns1.of_empty ak) λh2 ac ae=>?_)));obtain⟨oD,ao,ap,al,am,an⟩:=ac.count (PySem.Within.cons name v PySem.Within.nil);refine Q0 (wpAny_lookBehind al (by rw[am];exact pastItsLine_dict (Q0e an (by rw[Q0j,Q28,sizeLine_eq];omega))) ?_);exact Q0c (h h2 _ ac ((ae.2 x aa).trans gx) λb o hb e=>(ae.2 b (Q0a (Q01 e))).trans (go b o hb e))
end
end L2
namespace L2
open Spec Calls PyProof.Rows W Builtin Builtin.ObjectAttr Builtin.Getset_descriptor
section
variable {prog:Program}{w:World}{A:Around}{E:Value->Shared->Prop}{K:Frag}{h:Heap}{g:Array GenState}{d:Drawn}{t:Nat}{os:OsState}{a C dx:Addr}{o:Obj}{vs:Array Value}{mA:Str->Option Value}{name:Str}{v:Value}
theorem Jw {tk:Tok}{Q:Fin->Shared->Prop}(X:K.In h)(Z:nL K C)(Y:lY K C name)(hx:h.get? a=some o)(hc:o.cls=.ref C)(hd:o.data=.fields vs)(aa:o.dict=some dx)(hn:h.Ns dx mA)(hv:mA name=some v)(hq:Q (.done (.ret v)) ⟨h,g,d,t,os⟩):
 wpAny (model prog w) A (Builtin.«object.__getattribute__» ⟨[.ref a,.str name tk],[]⟩) Q E ⟨h,g,d,t,os⟩:=by
 obtain⟨cd,I,ab⟩:=any_some Y.row;have J:=(Bool.and_eq_true_iff.mp ab).2;have L1:=looks_findIn (M:=model prog w) X Y.na;have L2:=looks_clsIn (M:=model prog w) X I;obtain⟨oc,od,ac,ae⟩:=o;have hc:oc=.ref C:=hc;have hd:ac=.fields vs:=hd;have aa:od=some dx:=aa;subst hc;subst hd;subst aa
 have hC:∃c' d' U,h.get? C=some ⟨c',d',.cls cd,U⟩:=by
  unfold clsIn at I;split at I
  . rename_i c' d' af U ho
    cases I;exact⟨c',d',U,X _ _ ho⟩
  . cases I
 obtain⟨c',d',U,hC⟩:=hC;obtain⟨c1,c2,c3,c4,c5,c6,c7,c8,c9,ag,ah⟩:=cd;have J:c6=true:=J;subst J
 repeat (any_goals (first|assumption|with_reducible refine wpAny_loadPart_at hx ?_|with_reducible refine wpAny_loadPart_at hC ?_|with_reducible refine L1.at ?_|(with_reducible refine wpAny_nsGet hn ?_;rw[hv])|wp_step))
theorem Jx {tk:Tok}{fill I:Bool}{Q:Value->Shared->Prop}(X:K.In h)(Z:nL K C)(Y:lY K C name)(J:h.get? a=some o)(hc:o.cls=.ref C)(hd:o.data=.fields vs)(U:o.dict=some dx)(hn:h.Ns dx mA)(hv:mA name=some v)(hh:handedOut v=pure v)(hq:Q v ⟨h,g,d,t,os⟩):
 wpAny (model prog w) A (getAttrBy (.ref a) (.str name tk) fill I) Q E ⟨h,g,d,t,os⟩:=by
 have f3:=F.attr_ValueError.ga.bind (.ref a);have ab:(I && onTheHeap (Value.builtin "BaseException.__getattribute__"))=false:=by cases I <;> rfl
 have aa:(Value.builtin "BaseException.__getattribute__" == Value.builtin "object.__getattribute__")=false:=by decide +kernel
 have ac:(onTheHeap (Value.ref C) && Value.builtin "BaseException.__getattribute__" == Value.builtin "object.__getattribute__")=false:=by rw[aa];rfl
 have L1:=looks_findIn (M:=model prog w) X Z.ga;have L2:=looks_findIn (M:=model prog w) X Z.gt
 repeat (any_goals (first|assumption|(with_reducible refine wpAny_loadPart_at J ?_;rw[hc])|with_reducible refine L1.at ?_|with_reducible refine L2.at ?_|wp_step))
 refine codeAny_call_builtin F.attr_ValueError.ga.plain F.entry_bexc_ga (GY X Z J hc (Jw X Z Y J hc hd U hn hv ?_))
 repeat (any_goals (first|assumption|wp_step))
theorem Jy {I:Bool}{Q:Value->Shared->Prop}(X:K.In h)(Z:nL K C)(Y:lY K C name)(U:h.get? a=some o)(hc:o.cls=.ref C)(hd:o.data=.fields vs)(J:o.dict=some dx)(hn:h.Ns dx mA)(hv:mA name=some v)(hh:handedOut v=pure v)(hq:Q v ⟨h,g,d,t+1,os⟩):
 wpAny (model prog w) A (getAttr (.ref a) name I) Q E ⟨h,g,d,t,os⟩:=by
 unfold getAttr
 repeat (any_goals (first|assumption|with_reducible apply Jx X Z Y U hc hd J hn hv hh|wp_step))
end
end L2
namespace L2
open Spec PyProof.Rows
section
variable {M:Model}{A:Around}{E:Value->Shared->Prop}{s:Shared}
structure jG (h:Heap) (e T:Addr) (cls:Value) (dd:Option Addr) (fl:Value):Prop where
 ex:∃oe vs,h.get? e=some oe/\oe.cls=cls/\oe.dict=dd/\oe.data=.fields vs/\vs[1]? =some (.ref T)
 tb:∃oT ts,h.get? T=some oT/\oT.data=.fields ts/\ts[3]? =some fl
 ne:T≠e
theorem rZ {e T:Addr}{cls fl:Value}{Y:Option Addr}{Q:Unit->Shared->Prop}(t:jG s.heap e T cls Y fl)(h:∀h',jG h' e T cls Y .none->(∀b o,b≠T->s.heap.get? b=some o->h'.get? b=some o)->(∃o',h'.get? T=some o')->Q () { s with heap:=h' }):wpAny M A (setFlight (.ref e) none) Q E s:=by
 obtain⟨⟨oe,vs,he,hc,U,hd,h1⟩,⟨oT,ts,hT,I,h3⟩,ne⟩:=t;have em:Obj.mapFields (·.setIfInBounds 3 ((none:Option Addr).elim Value.none λf=>rawInt f)) oT={ oT with data:=.fields (ts.setIfInBounds 3 .none) }:=t7 I;have hsz:=(Array.getElem?_eq_some_iff.mp h3).1;unfold setFlight;refine Q0 (wpAny_field he hd h1 ?_);rw[if_pos (show(Value.ref T != Value.none)=true by simp)];have self:=Q1g (Obj.mapFields (·.setIfInBounds 3 ((none:Option Addr).elim Value.none λf=>rawInt f))) hT (by rw[em];exact Obj.isFreed_of_fields rfl);rw[em] at self
 have J:∀b o,b≠T->s.heap.get? b=some o->(s.heap.update T (Obj.mapFields (·.setIfInBounds 3 ((none:Option Addr).elim Value.none λf=>rawInt f)))).get? b=some o:=λb o hb ho=>by
  rw[Q15 _ _ (Ne.symm hb)];exact ho
 exact wpAny_setField hT I hsz (h _ ⟨⟨oe,vs,J e oe (Ne.symm ne) he,hc,U,hd,h1⟩,⟨_,_,self,rfl,by simp[hsz]⟩,ne⟩ J ⟨_,self⟩)
theorem CO {base:Heap}{env:Env}{outer:List Env}{L e T:Addr}{cls:Value}{dd:Option Addr}{Q:Unit->Shared->Prop}(ae:A.frames=some (env::outer))(hl:s.heap.FunFrames base (env::outer))(hf:env.frame=some L)(t:jG s.heap e T cls dd .none)
 (h:∀(h':Heap) (T':Addr),s.heap.objs.size<=T'->(∀b o,b ∉ frs (env::outer)->b≠e->b≠T->s.heap.get? b=some o->h'.get? b=some o)->(∀b o,b≠e->b≠T->s.heap.get? b=some o->∃sl,h'.get? b=some { o with slots:=sl })->(∃o,h'.get? T=some o)->jG h' e T' cls dd (rawInt L)->Q () { s with heap:=h' }):
 wpAny M A (noteFrame (.ref e) env) Q E s:=by
 obtain⟨⟨oe,vs,he,hc,af,hd,h1⟩,⟨oT,ts,hT,J,h3⟩,ne⟩:=t;have hsz:=(Array.getElem?_eq_some_iff.mp h3).1;have em:Obj.mapFields (·.setIfInBounds 3 Value.none) oT={ oT with data:=.fields (ts.setIfInBounds 3 .none) }:=t7 J;unfold noteFrame;simp only[hf];refine Q0 (wpAny_field he hd h1 ?_);rw[if_pos (show(Value.ref T != Value.none)=true by simp)];refine Q0 (wpAny_field hT J h3 ?_);rw[if_neg (show ¬(Value.none == rawInt L)=true by simp[rawInt])];refine Q0 (wpAny_setField hT J hsz ?_);have self:=Q1g (Obj.mapFields (·.setIfInBounds 3 Value.none)) hT (by rw[em];exact Obj.isFreed_of_fields rfl);rw[em] at self
 have U:∀b o,b≠T->s.heap.get? b=some o->(s.heap.update T (Obj.mapFields (·.setIfInBounds 3 Value.none))).get? b=some o:=λb o hb I=>by
  rw[Q15 _ _ (Ne.symm hb)];exact I
 have nT:∀b o,s.heap.get? b=some o->(∀vs,o.data≠ .fields vs)->b≠T:=λb o I hn z=>by
  rw[z,hT] at I
  cases I;exact hn ts J
 have ab:(s.heap.update T (Obj.mapFields (·.setIfInBounds 3 Value.none))).objs.size=s.heap.objs.size:=Q2c _ _ _;refine AZ (s:={ s with heap:=s.heap.update T (Obj.mapFields (·.setIfInBounds 3 Value.none)) }) ae (hl.of_keeps λb o I hn=>⟨o,U b o (nT b o I hn) I,rfl⟩) hf (U e oe (Ne.symm ne) he) hd (Array.getElem?_eq_some_iff.mp h1).1 λh' T' ag hP ah ai=>?_;have ac:s.heap.objs.size<=T':=by rw[<-ab];exact ag
 refine h h' T' ac (λb o hb Y aa I=>hP.1 b o hb Y (U b o aa I)) (λb o Y aa I=>hP.2 b o Y (U b o aa I)) ?_ ⟨⟨_,_,ah,hc,af,rfl,by simp[(Array.getElem?_eq_some_iff.mp h1).1]⟩,ai,?_⟩
 . obtain⟨sl,hs⟩:=hP.2 T _ ne self;exact⟨_,hs⟩
 . have h1:e<s.heap.objs.size:=Q01 he;exact λz=>Q0m e (Q09 h1 (by rw[<-z];exact ac))
end
section
variable {X:Cx}{pins:List (Addr × Obj)}{σ:St}{H:Hp}{s:Shared}
theorem Inv.Jz (I:Inv X pins σ H s)(hex:X.ex=[])(J:X.stack=X.env::X.outer)(ac:X.env.frame=some X.env.locals){a T:Addr}{cls:Value}{dd:Option Addr}{Q:Unit->Shared->Prop}{E:Value->Shared->Prop}{M:Model}(t:jG s.heap a T cls dd .none)
 (ha:X.s₀.heap.get? a=none) (hT:X.s₀.heap.get? T=none) (na:H a=none) (nT:H T=none)
 (q:∀(h':Heap) (T':Addr),jG h' a T' cls dd .none->X.s₀.heap.get? T'=none->H T'=none->Un (frs X.outer) [] X.H₀ H X.s₀.heap h'->gw X.prog X.w H h'->Q () { s with heap:=h' }):
 wpAny M X.A (leaving X.env (.ref a)) Q E s:=by
 have ae:X.A.frames=some (X.env::X.outer):=by rw[<-J];exact I.ok.frames
 have hl:s.heap.FunFrames X.base (X.env::X.outer):=by rw[<-J];exact I.stack
 unfold leaving;refine Q0 (CO ae hl ac t λh1 T1 U k1 k2 ag t1=>?_);refine rZ (s:={ s with heap:=h1 }) t1 λh2 t2 k3 ah=>?_;have af:H T1=none:=I.hok.fresh U
 have ab:∀b o,s.heap.get? b=some o->b≠T1:=λb o e z=>by
  have h3:=Q01 e;rw[z] at h3;exact Q0m _ (Q09 h3 U)
 obtain⟨u,ok⟩:=I.A1 hex (h':=h2) ha hT na nT (λb o hb Y aa e=>k3 b o (ab b o e) (k1 b o (by rw[<-J];exact hb) Y aa e)) (λb o Y aa e=>by
  obtain⟨sl,e1⟩:=k2 b o Y aa e;exact⟨sl,k3 b _ (ab b o e) e1⟩)
 exact q h2 T1 t2 (I.nK hex (Heap.A0 U)) af u ok
end
def jH (P:Program) (w:World):i8:=λouter H s E e s'=>∃(a T C:Addr) (I:Option Addr) (H':Hp),e=.ref a/\jG s'.heap a T (.ref C) I .none/\s.heap.get? a=none/\s.heap.get? T=none/\H' a=none/\H' T=none/\s'.os=s.os/\AllBare s'.gens/\Un (frs outer) [] H H' s.heap s'.heap/\gw P w H' s'.heap/\E (.ref C) I H'
theorem JA {P:Program}{w:World}{K:W.Frag}{mg:Str->Option Value}{base:Heap}{N:List Str}{qual:Str}{scope:Scope}{f:Addr}{cd:Value}{A:Around}{outer:List Env}{s₀:Shared}{H₀:Hp}{E E':XK}(hE:∀C d H,E' C d H->E C d H):
 Passes (jH P w) (fw (jH P w) P w K mg base N qual scope f cd A outer s₀ H₀ E) E':=λpins σ H s e s' I h=>by
 obtain⟨a,T,C,dd,H',rfl,t,la,lT,na,nT,os,J,un,Y,aa⟩:=h;obtain⟨hh,g,d,tk,ab⟩:=s';obtain rfl:ab=s.os:=os;have I':=I.call (h':=hh) (g':=g) (d':=d) (t':=tk) (ch:=[]) un Y J (λb z=>absurd z (by simp));show wpAny (model P w) _ (leaving _ _) _ _ _;refine I'.Jz rfl rfl rfl t (I.nK rfl la) (I.nK rfl lT) na nT λh' T' t' ac ae af U=>?_;exact⟨a,T',C,dd,H',rfl,t',I.nK rfl la,ac,na,ae,I'.os,J,af,U,hE _ _ _ aa⟩
section
variable {M:Model}{A:Around}{E:Value->Shared->Prop}{s:Shared}
theorem JB {base:Heap}{env:Env}{outer:List Env}{L e:Addr}{cls:Value}{dd:Option Addr}{J:Obj}{vs:Array Value}{Q:Unit->Shared->Prop}(aa:A.frames=some (env::outer))(hl:s.heap.FunFrames base (env::outer))(hf:env.frame=some L)
 (Y:s.heap.get? e=some J) (hc:J.cls=cls) (ab:J.dict=dd) (hd:J.data=.fields vs) (h1:vs[1]? =some .none)
 (h:∀(h':Heap) (U:Addr),s.heap.objs.size<=U->(∀b o,b ∉ frs (env::outer)->b≠e->s.heap.get? b=some o->h'.get? b=some o)->(∀b o,b≠e->s.heap.get? b=some o->∃sl,h'.get? b=some { o with slots:=sl })->jG h' e U cls dd (rawInt L)->Q () { s with heap:=h' }):
 wpAny M A (noteFrame (.ref e) env) Q E s:=by
 have hsz:=(Array.getElem?_eq_some_iff.mp h1).1;unfold noteFrame;simp only[hf];refine Q0 (wpAny_field Y hd h1 ?_);rw[if_neg (by decide)];refine AZ aa hl hf Y hd hsz λh' U I hP ac ae=>?_;refine h h' U I hP.1 hP.2 ⟨⟨_,_,ac,hc,ab,rfl,by simp[hsz]⟩,ae,λz=>?_⟩;have h3:=Q01 Y;rw[<-z] at h3;exact Q0m _ (Q09 h3 I)
end
section
variable {X:Cx}{pins:List (Addr × Obj)}{σ:St}{H:Hp}{s:Shared}
theorem Inv.JC (I:Inv X pins σ H s)(hex:X.ex=[])(J:X.stack=X.env::X.outer)(ab:X.env.frame=some X.env.locals){a:Addr}{oe:Obj}{vs:Array Value}{cls:Value}{dd:Option Addr}{Q:Unit->Shared->Prop}{E:Value->Shared->Prop}{M:Model}
 (he:s.heap.get? a=some oe) (hc:oe.cls=cls) (ac:oe.dict=dd) (hd:oe.data=.fields vs) (h1:vs[1]? =some .none) (ha:X.s₀.heap.get? a=none) (na:H a=none)
 (q:∀(h':Heap) (T':Addr),jG h' a T' cls dd .none->X.s₀.heap.get? T'=none->H T'=none->Un (frs X.outer) [] X.H₀ H X.s₀.heap h'->gw X.prog X.w H h'->Q () { s with heap:=h' }):
 wpAny M X.A (leaving X.env (.ref a)) Q E s:=by
 have ae:X.A.frames=some (X.env::X.outer):=by rw[<-J];exact I.ok.frames
 have hl:s.heap.FunFrames X.base (X.env::X.outer):=by rw[<-J];exact I.stack
 unfold leaving;refine Q0 (JB ae hl ab he hc ac hd h1 λh1 T1 U k1 k2 t1=>?_);refine rZ (s:={ s with heap:=h1 }) t1 λh2 t2 k3 ag=>?_;have af:H T1=none:=I.hok.fresh U
 have aa:∀b o,s.heap.get? b=some o->b≠T1:=λb o e z=>by
  have h3:=Q01 e;rw[z] at h3;exact Q0m _ (Q09 h3 U)
 obtain⟨u,ok⟩:=I.A1 hex (h':=h2) ha ha na na (λb o hb Y _ e=>k3 b o (aa b o e) (k1 b o (by rw[<-J];exact hb) Y e)) (λb o Y _ e=>by
  obtain⟨sl,e1⟩:=k2 b o Y e;exact⟨sl,k3 b _ (aa b o e) e1⟩)
 exact q h2 T1 t2 (I.nK hex (Heap.A0 U)) af u ok
end
noncomputable def lr (a C:Addr) (I:Option Addr):HO:=.ext λh=>∃o,h.get? a=some o/\o.cls=.ref C/\o.dict=I/\∃vs,o.data=.fields vs
theorem lr.ok {P:Program}{w:World}{H:Hp}{h:Heap}{a C:Addr}{I:Option Addr}(e:∃o,h.get? a=some o/\o.cls=.ref C/\o.dict=I/\∃vs,o.data=.fields vs):gC P w H h a (lr a C I):=
 ⟨e,let⟨o,h1,_⟩:=e;⟨o,h1⟩,λ_ _ ⟨o,h1,h2⟩ k=>⟨o,k o h1,h2⟩⟩
def r8 (X:Cx) (pins:List (Addr × Obj)) (σ:St) (Ek:XK) (e:Value) (s':Shared):Prop:=∃H s,Inv X pins σ H s/\jH X.prog X.w X.stack H s Ek e s'
def CP (X:Cx) (Ek:XK) (e:Expr) (t:TE):Prop:=
 ∀(pins:List (Addr × Obj)) (s:Shared) (σ:St) (H:Hp) (Q:VK),Inv X pins σ H s->t σ H Q->wpAny (model X.prog X.w) X.A (eval e X.env) (EP X pins σ Q) (r8 X pins σ Ek) s
def CQ (X:Cx) (Ek:XK) (st:List Stmt) (t:TS):Prop:=
 ∀(pins:List (Addr × Obj)) (s:Shared) (σ:St) (H:Hp) (D:Ends),Inv X pins σ H s->t D σ H->wpAny (model X.prog X.w) X.A (execs st X.env) (SP X pins D) (r8 X pins σ Ek) s
section
variable {X:Cx}{k:Nat}{f:Addr}{fd:FuncData}{ps:List Str}{sp:Sp}{iw:List V}{ds:List Value}{Ek:XK}{x:Str}{p pos:Pos}{e:Expr}{es:List Expr}{t:TA}{te:TE}
theorem JD {i:Nat}{y:Str}{pos':Pos}(J:X.N.Nodup)(hi:X.N[i]? =some y)(U:Loc X.env.scope y)(Y:CP X Ek e te)(hs:swapsWith e (some (.Name y pos')) pos.line X.env=pure false:=by rfl)(hf:X.fn y=true\/X.env.scope.names.lookup y=some .local:=by first|exact .inl rfl|exact .inr rfl|assumption):
 CQ X Ek [.Assign [.Name y pos'] e pos] (nr te (gX i)):=by
 intro pins s σ H D I h;refine wpAny_execs_cons (wpAny_Assign_Name (Q0n (Y pins s σ H _ I h) (λv s1 zq=>?_) λ_ _ z=>z) hs);obtain⟨z,H1,I1,r1,q1⟩:=zq;exact oN I1 J hi U r1 (λs2 I2=>wpAny_execs_nil ⟨_,H1,I2,q1⟩) hf
end
theorem JE {X:Cx}{pins:List (Addr × Obj)}{σ:St}{Ek:XK}{e:Value}{s':Shared}{Q:Unit->Shared->Prop}{E:Value->Shared->Prop}(ac:X.stack=X.env::X.outer)(ah:X.env.frame=some X.env.locals)(h:r8 X pins σ Ek e s')
 (q:∀(a C T:Addr) (Y:Option Addr) (H':Hp) (h2:Heap),e=.ref a->H' a=none->Ek (.ref C) Y H'->jG h2 a T (.ref C) Y .none->Inv X pins σ (upd H' a (lr a C Y)) { s' with heap:=h2 }->
   (∀U:Heap,jG U a T (.ref C) Y .none->(∀b o,b≠T->h2.get? b=some o->U.get? b=some o)->Inv X pins σ (upd H' a (lr a C Y)) { s' with heap:=U })->Q () { s' with heap:=h2 }):
 wpAny (model X.prog X.w) X.A (noteFrame e X.env) (λ_ s2=>wpAny (model X.prog X.w) X.A (setFlight e none) Q E s2) E s':=by
 obtain⟨H,s,I,a,T,C,Y,H',rfl,t,la,lT,na,nT,os,ab,un,ae,hE⟩:=h;have I':=I.call' (s':=s') (ch:=[]) os un ae ab (λb z=>absurd z (by simp));have ai:X.A.frames=some (X.env::X.outer):=by rw[<-ac];exact I.ok.frames
 have hl:s'.heap.FunFrames X.base (X.env::X.outer):=by rw[<-ac];exact I'.stack
 refine CO ai hl ah t λh1 T1 aj k1 k2 an t1=>?_;refine rZ (s:={ s' with heap:=h1 }) t1 λh2 t2 k3 ao=>?_
 have aa:∀b o,s'.heap.get? b=some o->b≠T1:=λb o e z=>by
  have U:=Q01 e;rw[z] at U;exact Q0m _ (Q09 U aj)
 have key:∀U:Heap,jG U a T1 (.ref C) Y .none->(∀b o,b≠T1->h2.get? b=some o->U.get? b=some o)->Inv X pins σ (upd H' a (lr a C Y)) { s' with heap:=U }:=λU t3 k4=>by
  have m1:∀b o,b ∉ frs X.stack->b≠a->b≠T->s'.heap.get? b=some o->U.get? b=some o:=λb o hb n1 n2 e=>
   k4 b o (aa b o e) (k3 b o (aa b o e) (k1 b o (by rw[<-ac];exact hb) n1 n2 e))
  have m2:∀b o,b≠a->b≠T->s'.heap.get? b=some o->∃sl,U.get? b=some { o with slots:=sl }:=λb o n1 n2 e=>by
   obtain⟨sl,e1⟩:=k2 b o n1 n2 e;exact⟨sl,k4 b _ (aa b o e) (k3 b _ (aa b o e) e1)⟩
  have J:∀b o,s.heap.get? b=some o->b≠a/\b≠T:=λb o e=>⟨(λz=>by rw[z,la] at e;cases e),λz=>by rw[z,lT] at e;cases e⟩;refine I.call' (s':={ s' with heap:=U }) (ch:=[]) os ⟨λb o e n hb _=>?_,λb o e n hb hx=>?_,λb o e n hx=>?_,λb o e hx=>?_,λb xs e=>?_,λb o u e=>?_,λb ps e=>?_⟩ (λb o e=>?_) ab (λb z=>absurd z (by simp))
  . exact m1 b o hb (J b o e).1 (J b o e).2 (un.keep b o e n hb (by simp))
  . obtain⟨sl,e1⟩:=un.slot b o e n hb hx;obtain⟨af,e2⟩:=m2 b _ (J b o e).1 (J b o e).2 e1;exact⟨af,e2⟩
  . rw[eu (J b o e).1];exact un.free b o e n hx
  . obtain⟨o',e1⟩:=un.there b o e hx;obtain⟨af,e2⟩:=m2 b _ (J b o e).1 (J b o e).2 e1;exact⟨_,e2⟩
  . have:=un.tups b xs e;rw[eu (eL this na)];exact this
  . have:=un.i4 b o u e;rw[eu (eL this na)];exact this
  . obtain⟨ag,this⟩:=un.i5 b ps e;exact⟨ag,by rw[eu (eL this na)];exact this⟩
  . by_cases hb:b=a
    . subst hb;rw[eF] at e
      cases e;obtain⟨oe,vs,he,hc,ak,al,_⟩:=t3.ex;exact lr.ok ⟨oe,he,hc,ak,vs,al⟩
    . rw[eu hb] at e;refine(ae b o e).stay (λc u hc r=>?_) (λc r=>by rw[eu (eL r na)];exact r) λc xs r=>by rw[eu (eL r na)];exact r
      have am:∃v,H' c=some v:=by
       rcases hc with z|z
       . exact⟨o,by rw[z];exact e⟩
       . exact⟨_,z⟩
      obtain⟨v,hv⟩:=am;refine m1 c u (λz=>?_) (eL hv na) (eL hv nT) r;rw[I'.oM c z] at hv;cases hv
 exact q a C T1 Y H' h2 rfl na hE t2 (key h2 t2 λ_ _ _ e=>e) key
def JF (Ek:XK) (i:Nat) (tb ts:TS):TS:=λD σ H=>tb D σ H/\∀(a C:Addr) (I:Option Addr) (H':Hp),H' a=none->Ek (.ref C) I H'->ts (D.un i) (σ.set i (some (.ref a))) (upd H' a (lr a C I))
theorem JG {X:Cx}{body:List Stmt}{x n:Str}{Dc:Addr}{Ek:XK}{i:Nat}{Y:Stmt}{U:List Stmt}{np ab pos:Pos}{tb ts:TS}(ac:X.stack=X.env::X.outer)(ae:X.env.frame=some X.env.locals)
 (hb:CQ X Ek body tb) (hg:Gl X x) (hm:X.mg x=some (.ref Dc)) (h1:W.typeIn X.K (.ref Dc)=some (.type "type")) (h2:(W.clsIn X.K Dc).isSome=true) (h3:W.subIn X.K (.ref Dc) (.type "BaseException")=some true)
 (h4:∀C dd H,Ek (.ref C) dd H->W.subIn X.K (.ref C) (.ref Dc)=some true) (hN:X.N.Nodup) (hi:X.N[i]? =some n) (J:X.env.kindOf n=some .local) (hs:∀a,iD (X.marked a) (Y::U) ts) (hd:(x == ("__debug__":Str))=false:=by decide):
 PS X (.Try body [.ExceptHandler (some (.Name x np)) (some n) (Y::U) ab] [] [] pos) (JF Ek i tb ts):=by
 intro pins s σ H D I h;obtain⟨hq,hk⟩:=h;refine wpAny_Try_except (Q0n (hb pins s σ H D I hq) (λf s1 q=>?_) λe s1 z=>?_)
 . cases f with
   |next=>exact wpAny_execs_nil q
   |ret v=>exact q
   |brk=>exact q
   |cont=>exact q
 . refine JE ac ae z λa C T dd H' ag e1 na hE t2 I2 key=>?_;subst e1;have ok:=I2.ok;refine wpAny_handleBy_cons (codeAny_handlers_test ?_) (by intro q;cases q);refine qf (X:=X.marked a) (I2.marked a) hg hm ?_ hd;obtain⟨oe,vs,he,hc,_⟩:=id t2.ex;refine GX I2.gG h1 h2 h3 (h4 C dd H' hE) he hc ?_;simp only[if_true];refine codeAny_handlers_suite_as ?_;refine rZ t2 λaf t3 k3 _=>?_;have I3:=key af t3 k3;refine oN I3 hN hi (.inl J) (show RelV (.ref a) (.ref a) from rfl) (λs4 I4=>?_) (.inr J);refine Q0n (hs a pins s4 _ _ (D.un i) (I4.marked a) (hk a C dd H' na hE)) (λf s5 q=>?_) λ_ _ z=>False.elim z;show wpAny _ _ _ _ _ _
   cases f with
   |next=>
    obtain⟨aa,H5,I5,q⟩:=q;exact(I5.unmarked ok).unbind hN hi J λs6 I6=>⟨_,_,I6,q⟩
   |ret v=>
    obtain⟨y,aa,H5,I5,r,q⟩:=q;exact(I5.unmarked ok).unbind hN hi J λs6 I6=>⟨y,_,_,I6,r,q⟩
   |brk=>
    obtain⟨aa,H5,I5,q⟩:=q;exact(I5.unmarked ok).unbind hN hi J λs6 I6=>⟨_,_,I6,q⟩
   |cont=>
    obtain⟨aa,H5,I5,q⟩:=q;exact(I5.unmarked ok).unbind hN hi J λs6 I6=>⟨_,_,I6,q⟩
noncomputable def lu (a C:Addr):HO:=.ext λh=>∃o t,h.get? a=some o/\o.cls=.ref C/\o.dict=none/\o.data=.fields #[t,.none,.none,.none,.bool false,.none]
noncomputable def MadeX (a C dx:Addr):HO:=.ext λh=>∃o t,h.get? a=some o/\o.cls=.ref C/\o.dict=some dx/\o.data=.fields #[t,.none,.none,.none,.bool false,.none]
theorem lu.ok {P:Program}{w:World}{H:Hp}{h:Heap}{a C:Addr}(e:∃o t,h.get? a=some o/\o.cls=.ref C/\o.dict=none/\o.data=.fields #[t,.none,.none,.none,.bool false,.none]):gC P w H h a (lu a C):=
 ⟨e,let⟨o,t,h1,_⟩:=e;⟨o,h1⟩,λ_ _ ⟨o,t,h1,h2⟩ k=>⟨o,t,k o h1,h2⟩⟩
theorem MadeX.ok {P:Program}{w:World}{H:Hp}{h:Heap}{a C dx:Addr}(e:∃o t,h.get? a=some o/\o.cls=.ref C/\o.dict=some dx/\o.data=.fields #[t,.none,.none,.none,.bool false,.none]):gC P w H h a (MadeX a C dx):=
 ⟨e,let⟨o,t,h1,_⟩:=e;⟨o,h1⟩,λ_ _ ⟨o,t,h1,h2⟩ k=>⟨o,t,k o h1,h2⟩⟩
noncomputable def rem (H:Hp) (a:Addr):Hp:=λb=>if b=a then none else H b
theorem u0 {H:Hp}{a:Addr}:rem H a a=none:=if_pos rfl
theorem js {H:Hp}{a b:Addr}(h:b≠a):rem H a b=H b:=if_neg h
section
variable {X:Cx}{pins:List (Addr × Obj)}{σ:St}{H:Hp}{s:Shared}
def JH (K:W.Frag) (ta tv:TE) (f:Str):TS:=λD σ H=>tv σ H λy H1=>ta σ H1 λx H2=>∃a C,x=.ref a/\H2 a=some (lu a C)/\lY K C f/\
 ∀dx,H2 dx=none->dx≠a->D.nx σ (upd (upd H2 dx (.xd [(f,y)])) a (MadeX a C dx))
theorem JI {o value:Expr}{ta tv:TE}{f:Str}{pos pos':Pos}(ha:PE X o ta)(hv:PE X value tv)(hs:swapsWith value (some (.Attribute o f pos')) pos.line X.env=pure false):PS X (.Assign [.Attribute o f pos'] value pos) (JH X.K ta tv f):=by
 intro pins s σ H D I h;refine plainObj_wpAny_Assign_Attribute (e_ (hv pins s σ H _ I h) λu s1 ⟨y,H1,I1,ry,q⟩=>e_ (ha pins s1 σ H1 _ I1 q) λov s2 zq=>?_) hs;obtain⟨x,H2,I2,rx,a,C,ex,U,Z,q2⟩:=zq;subst ex;obtain rfl:ov=Value.ref a:=rx;obtain⟨oe,t,he,hc,ab,aa⟩:=(I2.hok a _ U).1;refine Jv I2.gG Z he hc ab aa λh' ac hn hx hk=>?_;have J:H2 s2.heap.objs.size=none:=I2.hok.fresh (Q00 _);have ae:s2.heap.objs.size≠a:=(Q0a (Q01 he)).symm
 have ag:∀b u,H2 b=some u->(∀C',u≠lu a C')->b≠a:=λb u e hu z=>by
  subst z;rw[U] at e;exact hu C (Option.some.inj e).symm
 refine⟨σ,_,I2.call' (s':={ s2 with heap:=h',toks:=ac }) (ch:=[]) rfl ⟨λb Y e n hb _=>?_,λb Y e n hb _=>?_,λb Y e n _=>?_,λb Y e _=>?_,λb xs e=>?_,λb Y u e=>?_,λb ps e=>?_⟩ (λb u e=>?_) I2.bare (λb z=>absurd z (by simp)),q2 s2.heap.objs.size J ae⟩
 . exact hk b Y (eL U n).symm e
 . exact⟨Y.slots,hk b Y (eL U n).symm e⟩
 . rw[eu (eL U n).symm,eu (Q0a (Q01 e))];exact n
 . by_cases hb:b=a
   . subst hb;exact⟨_,hx⟩
   . exact⟨Y,hk b Y hb e⟩
 . have h1:b≠a:=λz=>by rw[z,U] at e;cases e
   rw[eu h1,eu (eL e J)];exact e
 . have h1:b≠a:=λz=>by rw[z,U] at e;cases e
   rw[eu h1,eu (eL e J)];exact e
 . have h1:b≠a:=λz=>by rw[z,U] at e;cases e
   exact⟨#[],by rw[eu h1,eu (eL e J),Q22];exact e⟩
 . by_cases h1:b=a
   . subst h1;rw[eF] at e
     cases e;exact MadeX.ok ⟨_,t,hx,hc,rfl,aa⟩
   . rw[eu h1] at e;by_cases h2:b=s2.heap.objs.size
     . subst h2;rw[eF] at e
       cases e;refine⟨_,hn,λg=>?_⟩;by_cases hg:g=f
       . subst hg;rw[if_pos rfl];rw[Q18,beq_self_eq_true];exact ry
       . rw[if_neg hg];rw[Q18,beq_false_of_ne hg];trivial
     . rw[eu h2] at e;refine(I2.hok b u e).stay (λc v af r=>hk c v ?_ r) (λc r=>?_) λc xs r=>?_
       . rintro rfl;rcases af with z|z
         . exact h1 z.symm
         . rw[U] at z;cases z
       . have n1:c≠a:=λz=>by rw[z,U] at r;cases r
         rw[eu n1,eu (eL r J)];exact r
       . have n1:c≠a:=λz=>by rw[z,U] at r;cases r
         rw[eu n1,eu (eL r J)];exact r
theorem Inv.JJ (I:Inv X pins σ H s){h':Heap}{e C:Addr}{us:List Value}(hm:Heap.MadeExcOf s.heap h' e (.ref C) us):H e=none/\Inv X pins σ (upd H e (lu e C)) { s with heap:=h' }:=by
 obtain⟨t,he,_,_⟩:=hm.there;have Y:s.heap.get? e=none:=hm.new
 have na:H e=none:=by
  cases q:H e with
  |none=>rfl
  |some o=>
   obtain⟨o',e'⟩:=(I.hok e o q).ex;rw[Y] at e';cases e'
 refine⟨na,I.call' (s':={ s with heap:=h' }) (ch:=[]) rfl ⟨λb U J n hb _=>hm.keeps b U J,λb U J n hb _=>⟨U.slots,hm.keeps b U J⟩,λb U J n _=>?_,λb U J _=>⟨U,hm.keeps b U J⟩,λb xs J=>?_,λb U u J=>?_,λb ps J=>?_⟩ (λb u J=>?_) I.bare (λb z=>absurd z (by simp))⟩
 . rw[eu (λz=>by rw[z,Y] at J;cases J)];exact n
 . rw[eu (eL J na)];exact J
 . rw[eu (eL J na)];exact J
 . exact⟨#[],by rw[eu (eL J na),Q22];exact J⟩
 . by_cases hb:b=e
   . subst hb;rw[eF] at J
     cases J;exact lu.ok ⟨_,_,he,rfl,rfl,rfl⟩
   . rw[eu hb] at J;refine(I.hok b u J).stay (λc v _ r=>hm.keeps c v r) (λc r=>?_) λc xs r=>?_
     . rw[eu (eL r na)];exact r
     . rw[eu (eL r na)];exact r
def CU (X:Cx) (R:Addr->Addr->Hp->Prop):Prop:=∀(pins:List (Addr × Obj)) (σ:St) (H:Hp) (s:Shared) (a C dx:Addr),Inv X pins σ H s->X.s₀.heap.get? a=none->H a=some (MadeX a C dx)->R C dx (rem H a)->X.xe (.ref a) s
def JK (C:Addr) (sp:Sp) (R:Addr->Addr->Hp->Prop) (t:TA):TS:=λ_ σ H=>t σ H λvs H1=>vs.length<=sizeLine/\∀a,H1 a=none->sp (.ref a::vs) (upd H1 a (lu a C)) (λv H2=>v=.non/\∃dx,H2 a=some (MadeX a C dx)/\R C dx (rem H2 a)) E0
theorem CV {x:Str}{C f:Addr}{fd:FuncData}{ps:List Str}{sp:Sp}{k:Nat}{B nid rX:String}{iX:List Value}{e:Expr}{es:List Expr}{p cpos pos:Pos}{t:TA}{R:Addr->Addr->Hp->Prop}(hex:X.ex=[])(Z:lX X.base C f iX nid)(FB:ExcBaseFacts B nid rX iX)(ai:W.keepIn X.K (.ref C)=true)
 (F:eE X.prog X.w X.K X.mg X.base eI k f fd ps sp) (hr:fV (k+1) X.A) (aj:X.calm=true) (hg:Gl X x) (hm:X.mg x=some (.ref C)) (hb:Binds X.K fd ps []) (hx:CU X R)
 (ha:PA X (e::es) t) (ak:(x == ("__debug__":Str))=false:=by decide) (he:starEach (e::es) X.env=(false,eval e X.env)::starEach es X.env:=by rfl) (al:(backTo cpos (starEach es X.env)).any (·.1)=false:=by rfl):
 PS X (.Raise (some (.Call (.Name x p) (e::es) [] cpos)) none pos) (JK C sp R t):=by
 intro pins s σ H D I h;rw[arm_exec_Raise]
 have key:wpAny (model X.prog X.w) X.A (eval (.Call (.Name x p) (e::es) [] cpos) X.env) (λv s1=>∃(e C:Addr) (oe:Obj) (t:Value) (r:Array Value),v=.ref e/\s1.heap.get? e=some oe/\oe.cls=.ref C/\oe.data=.fields #[t,.none,.none,.none,.bool false,.none]/\
  (∃tl N nm q bs U sn sub ab aa dd k0 k1 k2 k3 k5 nid,s1.heap.get? C=some (excClassObj nm q C N bs tl U sn sub ab aa dd k0 k1 k2 k3 k5 nid)/\tl.contains (.type "BaseException")=true)/\X.xe (.ref e) s1) X.xe s:=by
  refine wpAny_Call_Name_kw (qf I hg hm ?_ ak);refine W.callWith_K (h₀:=X.base) I.ok.mod.nh ai (e_ (ha cpos pins s σ H _ I h) λus s1 ⟨vs,H1,I1,r,hl,q⟩=>⟨I1.gG,?_⟩) he al;obtain⟨hp,g,d,tk,os⟩:=s1;refine Js FB (Z.keeps I1.bk) (λh' Y ac=>?_) (by show us.length<=sizeLine;rw[<-r.length];exact hl);have l0:X.s₀.heap.get? Y=none:=I1.nK hex ac.new;obtain⟨na,I2⟩:=I1.JJ ac;have hq:=q Y na;have r2:Vals (V.ref Y::vs) (Value.ref Y::us):=.cons rfl r
  have ag:(Value.ref Y::us++[]).length=ps.length:=by
   rw[Q0y,<-r2.length];exact F.len _ _ _ _ hq
  have ae:=hb _ (Value.ref Y::us) I2.gG ag;rw[Q0y] at ae;refine wpAny_call (codeAny_mono (F.run _ X.stack _ _ ⟨Value.ref Y::us,[]⟩ (Value.ref Y::us) _ _ E0 (hr.make C us []) (I2.env0.make C us []) ae r2 hq) λr' s' J=>?_)
  cases r' with
  |error e=>exact False.elim J
  |ok fl=>
   cases fl with
   |ret u=>
    obtain⟨v,H',I3,rv,ev,dx,af,hR⟩:=I2.after J;subst ev;obtain⟨oe,t',am,an,ao,ah⟩:=(I3.hok _ _ af).1;obtain⟨tl,N,nm,q,bs,U,sn,sub,ab,aa,dd,k0,k1,k2,k3,k5,mN,oI,z1,z2,z3,z4,z5,z6⟩:=Z.keeps I3.bk;exact⟨rv,⟨Y,C,oe,t',#[],rfl,am,an,ah,⟨tl,N,nm,q,bs,U,sn,sub,ab,aa,dd,k0,k1,k2,k3,k5,nid,z1,z4.hasType FB.hasBase⟩,hx pins σ H' s' Y C dx I3 l0 af hR⟩⟩
   |next=>exact False.elim J
   |brk=>exact False.elim J
   |cont=>exact False.elim J
 exact Q0 (wpAny_standAt (Jt (I.ok.hd aj) (Q0 (Q0n key (λv s1 q=>Q0 (wpAny_standAt (Q0c q))) λ_ _ z=>z))))
theorem Inv.JL (I:Inv X pins σ H s)(hex:X.ex=[]){a:Addr}{φ:Heap->Prop}(Y:X.s₀.heap.get? a=none)(J:H a=some (.ext φ)):Un (frs X.outer) [] X.H₀ (rem H a) X.s₀.heap s.heap/\gw X.prog X.w (rem H a) s.heap:=by
 have B:=I.base;rw[hex] at B;refine⟨⟨B.keep,B.slot,λb o e n hx=>?_,B.there,λb xs e=>?_,λb o u e=>?_,λb ps e=>?_⟩,λb u e=>?_⟩
 . rw[js (λz=>by rw[z,Y] at e;cases e)];exact B.free b o e n hx
 . have:=B.tups b xs e;rw[js (λz=>by rw[z,J] at this;cases this)];exact this
 . have:=B.i4 b o u e;rw[js (λz=>by rw[z,J] at this;cases this)];exact this
 . obtain⟨U,this⟩:=B.i5 b ps e;exact⟨U,by rw[js (λz=>by rw[z,J] at this;cases this)];exact this⟩
 . have nb:b≠a:=λz=>by rw[z,u0] at e;cases e
   rw[js nb] at e;refine(I.hok b u e).stay (λc v _ r=>r) (λc r=>?_) λc xs r=>?_
   . rw[js (λz=>by rw[z,J] at r;cases r)];exact r
   . rw[js (λz=>by rw[z,J] at r;cases r)];exact r
end
theorem u5 {H:Hp}{a b:Addr}(h:H b=none):rem H a b=none:=by
 unfold rem;split
 . rfl
 . exact h
theorem Inv.rem {X:Cx}{pins:List (Addr × Obj)}{σ:St}{H:Hp}{s:Shared}(I:Inv X pins σ H s)(hex:X.ex=[]){a:Addr}{φ:Heap->Prop}(U:X.s₀.heap.get? a=none)(Y:H a=some (.ext φ)):Inv X pins σ (L2.rem H a) s:=by
 obtain⟨un,J⟩:=I.JL hex U Y;refine⟨I.ok,I.os,I.bare,by rw[hex];exact un,I.loc,I.cell,u5 I.free,λx c e=>u5 (I.iC x c e),λp hp=>?_,J,I.len⟩;obtain⟨h1,h2,h3⟩:=I.pin p hp;exact⟨h1,u5 h2,h3⟩
theorem CY {P:Program}{w:World}{K:W.Frag}{mg:Str->Option Value}{base:Heap}{N:List Str}{qual:Str}{scope:Scope}{f:Addr}{cd:Value}{A:Around}{outer:List Env}{s₀:Shared}{H₀:Hp}{E:XK}:
 CU (fw (jH P w) P w K mg base N qual scope f cd A outer s₀ H₀ E) (λC dx H=>E (.ref C) (some dx) H):=λpins σ H s a C dx I Y J hE=>by
 obtain⟨oe,t,he,hc,aa,ab⟩:=(I.hok a _ J).1;have I':=I.rem rfl Y J;show wpAny (model P w) _ (leaving _ _) _ _ _;refine I'.JC rfl rfl rfl he hc aa ab rfl Y u0 λh2 T' t' ac ae af U=>?_;exact⟨a,T',C,some dx,Zr rfl ⟨t',Y,ac,u0,ae,I'.os,I'.bare,af,U,hE⟩⟩
section
variable {X:Cx}
def CZ (K:W.Frag) (ta:TE) (f:Str):TE:=λσ H Q=>ta σ H λx H1=>∃a C dx fs v,x=.ref a/\H1 a=some (lr a C (some dx))/\H1 dx=some (.xd fs)/\nL K C/\lY K C f/\fs.lookup f=some v/\Q v H1
theorem JM {e:Expr}{ta:TE}{f:Str}{pos:Pos}(he:PE X e ta)(hb:attributeBase e f X.env (eval e X.env)=eval e X.env):PE X (.Attribute e f pos) (CZ X.K ta f):=by
 intro pins s σ H Q I h;refine zR hb (e_ (he pins s σ H _ I h) λu s1 zq=>?_);obtain⟨x,H1,J,rx,a,C,dx,fs,v,ex,ea,ed,Z,Y,l,q⟩:=zq;subst ex;obtain rfl:u=Value.ref a:=rx;obtain⟨o,ho,hc,U,vs,aa⟩:=(J.hok a _ ea).1;obtain⟨mA,hn,hr⟩:=J.hok dx _ ed;obtain⟨u',hu,ru⟩:=iB.some_of (v:=v) (o:=mA f) (by rw[<-l];exact hr f);obtain⟨hp,g,d,tk,os⟩:=s1;exact Jy J.gG Z Y ho hc aa U hn.ns hu (W.handedOut_of (zQ ru)) ⟨v,H1,J.tok _,ru,q⟩
end
section
variable {X:Cx}{k:Nat}{f C:Addr}{fd:FuncData}{ps:List Str}{sp:Sp}{Ek:XK}{m:Str}{p pos apos:Pos}{e o:Expr}{es:List Expr}{t:TA}{te ta:TE}
theorem JN {pins:List (Addr × Obj)}{σ:St}{H:Hp}{s:Shared}{Q:VK}{us:List Value}{vs:List V}(F:eE X.prog X.w X.K X.mg X.base (jH X.prog X.w) k f fd ps sp)(Y:fV k X.A)(hb:Binds X.K fd ps [])
 (I:Inv X pins σ H s) (r:Vals vs us) (h:sp vs H Q Ek):wpAny (model X.prog X.w) X.A (call (.ref f) us) (EP X pins σ Q) (r8 X pins σ Ek) s:=by
 have hl:(us++[]).length=ps.length:=by rw[Q0y,<-r.length];exact F.len _ _ _ _ h
 have U:=hb s us I.gG hl;rw[Q0y] at U;refine wpAny_call (codeAny_mono (F.run X.A X.stack s H ⟨us,[]⟩ us vs Q Ek Y I.env0 U r h) λr' s' J=>?_)
 cases r' with
 |error e=>exact⟨H,s,I,J⟩
 |ok fl=>
  cases fl with
  |ret u=>exact I.after J
  |next=>exact False.elim J
  |brk=>exact False.elim J
  |cont=>exact False.elim J
theorem JO {pl:Sem Bool}(he:PE X.fB o ta)(c:Cls X.K C)(hm:Meth X.K C m f)(F:eE X.prog X.w X.K X.mg X.base (jH X.prog X.w) k f fd ps sp)(hr:fV k X.A)(hb:Binds X.K fd ps [])(ha:PA X.fB (e::es) t)
 (U:starEach (e::es) X.env=(false,eval e X.env)::starEach es X.env:=by rfl) (Y:(backTo pos (starEach es X.env)).any (·.1)=false:=by rfl)
 (ht:eval (.Call (.Attribute o m apos) (e::es) [] pos) X.env=(do
   let ov <-eval o X.env
   standAt apos.atName
   let(f,first) <-holding [ov] (getMethod ov m pl)
   callWith pos f first (backTo pos (starEach (e::es) X.env)) (backToKw pos (keywordEach [] X.env))):=by rfl):
 CP X Ek (.Call (.Attribute o m apos) (e::es) [] pos) (Fi C m sp [] Ek ta t):=by
 intro pins s σ H Q I h;refine W.methodCall_KW (pl:=pl) (Q0n (he pins s σ H _ (I.wish _) h) (λu s1 zq=>?_) λ_ _ z=>False.elim z) ht;obtain⟨x,H1,J,rx,a,dx,fs,ex,ea,l,q⟩:=zq;subst ex;obtain rfl:u=Value.ref a:=rx;have J:=J.jM;refine E_ J ea c hm l ?_;refine W.callWith_K (first:=[.ref a]) (h₀:=X.base) I.ok.mod.nh hm.kp (Q0n (ha pos pins s1 σ H1 _ (J.wish _) q) (λus s2 ⟨vs,H2,I2,r,q2⟩=>⟨I2.jM.gG,?_⟩) λ_ _ z=>False.elim z) U Y;exact JN (us:=.ref a::us) (vs:=.ref a::(vs++[])) F hr hb I2.jM (.cons rfl (by rw[Q0y];exact r)) q2
end
end L2
namespace Pb
open L2 PyProof.Rows
structure Dm (K:W.Frag) (x qual:Str) (ps:List Str) (st:Stmt) (f:Addr) (fd:FuncData):Prop where
 F:jS K x qual st f fd
 b:Binds K fd ps []
noncomputable abbrev C0:List Value:=[.type "ValueError",.type "Exception",.type "BaseException",.type "object"]
structure C1 (K:W.Frag) (mg:Str->Option Value) (base:Heap) (x:Str) (C fI:Addr):Prop where
 xi:lX base C fI C0 "ValueError.__new__"
 kp:W.keepIn K (.ref C)=true
 m:mg x=some (.ref C)
 fld:lY K C "way"
 cls:nL K C
 ty:W.typeIn K (.ref C)=some (.type "type")
 is:(W.clsIn K C).isSome=true
 bx:W.subIn K (.ref C) (.type "BaseException")=some true
 sub:W.subIn K (.ref C) (.ref C)=some true
abbrev r_ (K:W.Frag) (mg:Str->Option Value) (base:Heap) (C fI:Addr):Prop:=C1 K mg base "CantPut" C fI
theorem C2 {P:Program}{w:World}{K:W.Frag}{mg:Str->Option Value}{base:Heap}{x qual:Str}{st:Stmt}{f:Addr}{fd:FuncData}{N ps:List Str}{k:Nat}{sp:Sp}(F:jS K x qual st f fd)(S:fG N ps (eX st))(len:∀vs H Q E,sp vs H Q E->vs.length=ps.length)
 (J:∀(I:Value) (A:Around) (outer:List Env) (s:Shared) (H:Hp) (vs:List V) (Q:VK) (E:XK),fV k (A.deeper (envOfC qual (eX st) s.heap.objs.size f I))->sp vs H Q E->
   ∃t,iD (fw (jH P w) P w K mg base N qual (eX st) f I A outer s H E) (g_ st) t/\t { nx:=λ_ H'=>Q .non H',rt:=Q } (start N vs) H):eE P w K mg base (jH P w) (k+1) f fd ps sp:=by
 obtain⟨oc,od,kV,aa,pm,an,I,ct,ab,rfl,lk,U⟩:=F.ex;refine sV lk U S len λA outer s H vs Q E hr Y=>?_;exact J I A outer s H vs Q E hr Y
theorem JP {X:Cx}{K:W.Frag}{e:Expr}{ta:TE}{f:Str}{pos:Pos}(hK:X.K=K)(I:PE X e ta)(J:attributeBase e f X.env (eval e X.env)=eval e X.env):PE X (.Attribute e f pos) (CZ K ta f):=by
 subst hK;exact JM I J
structure pZ (K:W.Frag) (mg:Str->Option Value) (C fI fP:Addr):Prop where
 ct:Cls K C
 na:mx K C "look"
 JQ:Mk K C fI
 m:mg "Keep"=some (.ref C)
 p:Meth K C "put" fP
abbrev sd (H:Hp) (C v dx:Addr) (lv:V):Prop:=H v=some (.ins C dx [("look",lv)])
abbrev u6 (H:Hp) (pk pb:Addr) (key by_:Str):Prop:=H pk=some (.tup [.str "rows",.str key,.str by_,.ref pb])
structure ot (H:Hp) (lv:V) (L:Lo) (fs:Fs):Prop where
 at_:fM H lv L
 ok:L.ok (.eZ fs)
 dp:L.dp<3
theorem ot.mono {H H':Hp}{lv:V}{L:Lo}{fs:Fs}(h:ot H lv L fs)(t:Tu H H'):ot H' lv L fs:=⟨fM.mono t L h.at_,h.ok,h.dp⟩
structure jt (H:Hp) (pk pb:Addr) (key by_:Str) (xs:List V) (fs:Fs):Prop where
 at_:u6 H pk pb key by_
 tu:H pb=some (.tup xs)
 fa:FA H xs fs
 W:(Kd.rows key by_ fs).W
theorem jt.mono {H H':Hp}{pk pb:Addr}{key by_:Str}{xs:List V}{fs:Fs}(h:jt H pk pb key by_ xs fs)(t:Tu H H'):jt H' pk pb key by_ xs fs:=⟨t _ _ h.at_,t _ _ h.tu,FA.mono t fs h.fa,h.W⟩
theorem jt.ka {H:Hp}{pk pb:Addr}{key by_:Str}{xs:List V}{fs:Fs}(h:jt H pk pb key by_ xs fs):KA H (.ref pk) (.rows key by_ fs):=by
 unfold KA;exact⟨pk,pb,xs,rfl,h.at_,h.tu,h.fa⟩
theorem jt.w5 {H:Hp}{pk pb:Addr}{key by_:Str}{xs:List V}{fs:Fs}(h:jt H pk pb key by_ xs fs):fs.names.Nodup/\fs.names.length<=12/\fs.W/\fs.pl key/\(by_=""\/fs.pl by_):=by
 have:=h.W;unfold Kd.W at this;exact this
theorem jt.wr {H:Hp}{pk pb:Addr}{key by_:Str}{xs:List V}{fs:Fs}(h:jt H pk pb key by_ xs fs):(Kd.eZ fs).W:=by
 have:=h.w5;unfold Kd.W;exact⟨this.1,this.2.1,this.2.2.1⟩
noncomputable def fX {α:Type}(p:Ds->Bool):List Ds->List α->List α
 |m::ms,w::ws=>if p m then w::fX p ms ws else fX p ms ws
 |_,_=>[]
theorem C3 {α:Type}{p:Ds->Bool}{m:Ds}{w:α}:∀{ms:List Ds}{ws:List α},ms.length=ws.length->fX p (ms++[m]) (ws++[w])=fX p ms ws++if p m then [w] else []
 |[],[],_=>by
  show(if p m then w::[] else [])=[]++_;rw[Q3g]
 |[],_::_,h=>by cases h
 |_::_,[],h=>by cases h
 |x::ms,y::ws,h=>by
  have I:=C3 (p:=p) (m:=m) (w:=w) (ms:=ms) (ws:=ws) (Nat.succ.inj h);show(if p x then y::fX p (ms++[m]) (ws++[w]) else fX p (ms++[m]) (ws++[w]))=(if p x then y::fX p ms ws else fX p ms ws)++_;rw[I]
  cases p x <;> rfl
theorem C4 {α:Type}{p:Ds->Bool}{ms:List Ds}{ws:List α}{i:Nat}{m:Ds}{w:α}(hl:ms.length=ws.length)(I:ms[i]? =some m)(hw:ws[i]? =some w):fX p (ms.take (i+1)) (ws.take (i+1))=fX p (ms.take i) (ws.take i)++if p m then [w] else []:=by
 rw[take_add I,take_add hw];exact C3 (by rw[Q0l,Q0l,hl])
theorem se {α:Type}{p:Ds->Bool}{ms:List Ds}{ws:List α}{i:Nat}{m:Ds}{w:α}(hl:ms.length=ws.length)(I:ms[i]? =some m)(hw:ws[i]? =some w)(c:p m=true):fX p (ms.take (i+1)) (ws.take (i+1))=fX p (ms.take i) (ws.take i)++[w]:=by
 rw[C4 hl I hw,if_pos c]
theorem p6 {α:Type}{p:Ds->Bool}{ms:List Ds}{ws:List α}{i:Nat}{m:Ds}{w:α}(hl:ms.length=ws.length)(I:ms[i]? =some m)(hw:ws[i]? =some w)(c:¬p m=true):fX p (ms.take (i+1)) (ws.take (i+1))=fX p (ms.take i) (ws.take i):=by
 rw[C4 hl I hw,if_neg c,Q0y]
theorem sf {α:Type}{p:Ds->Bool}{ms:List Ds}{ws:List α}(hl:ms.length=ws.length):fX p (ms.take ws.length) (ws.take ws.length)=fX p ms ws:=by
 rw[Q0s,<-hl,Q0s]
theorem eU.kg {H:Hp}{p:Ds->Bool}:∀{ws:List V}{ms:List Ds}{fl:List (List Addr)},eU H ws ms fl->eU H (fX p ms ws) (ms.filter p) (fX p ms fl)
 |_,_,_,.nil=>.nil
 |_,_,_,.cons (b:=m) h r=>by
  have I:=eU.kg (p:=p) r;show eU H (if p m then _ else _) (List.filter p (m::_)) (if p m then _ else _);rw[Q1i];by_cases c:p m=true
  . rw[if_pos c,if_pos c,if_pos c];exact .cons h I
  . rw[if_neg c,if_neg c,if_neg c];exact I
theorem u7 {α:Type}{p:Ds->Bool}{x:α}:∀{ms:List Ds}{ws:List α},x∈fX p ms ws->x∈ws
 |[],[],h=>nomatch h
 |[],_::_,h=>nomatch h
 |_::_,[],h=>nomatch h
 |m::ms,w::ws,h=>by
  have h:x∈(if p m then w::fX p ms ws else fX p ms ws):=h;split at h
  . rcases List.mem_cons.mp h with e|e
    . rw[e];exact Q06
    . exact Q0b _ (u7 e)
  . exact Q0b _ (u7 h)
theorem C5 {p:Ds->Bool}{ms:List Ds}{fl:List (List Addr)}{c:Addr}(h:c∈(fX p ms fl).flatten):c∈fl.flatten:=by
 obtain⟨f,h1,h2⟩:=List.mem_flatten.mp h;exact List.mem_flatten.mpr ⟨f,u7 h1,h2⟩
theorem eU.row {H:Hp}{ws:List V}{ms:List Ds}{fl:List (List Addr)}(h:eU H ws ms fl){i:Nat}{x:V}(J:ws[i]? =some x):∃m f,ms[i]? =some m/\Own H x (.dct m) f:=by
 have hi:i<ws.length:=(List.getElem?_eq_some_iff.mp J).1;have U:=A3.at (a0:=V.non) (b0:=Ds.nil) (c0:=[]) h i hi;have ex:ws.getD i .non=x:=by rw[Q0d,J];rfl
 rw[ex] at U;have I:i<ms.length:=by rw[<-(A3.len h).1];exact hi
 exact⟨_,_,by rw[Q0d,Q02 I];rfl,U⟩
theorem eU.sm {H H':Hp}{ws:List V}{ms:List Ds}{fl:List (List Addr)}(h:eU H ws ms fl)(s:Same H H'):eU H' ws ms fl:=eU.keep (Tu.of s) h λc _ o e=>s c o e
theorem lZ {fs:Fs}{m:Ds}(h:fH fs m):eV (.eZ fs) (.dct m):=by
 unfold eV;exact⟨m,rfl,h⟩
theorem ou {H:Hp}{x:V}{m:Ds}{f:List Addr}{fs:Fs}{key:Str}(Y:Own H x (.dct m) f)(hF:fH fs m)(hk:fs.pl key):∃I,x=.ref I/\∀H',Same H H'->gf H' I (.str key) (some (kV (keyOf m key))):=by
 unfold Own at Y;obtain⟨I,kvs,fq,rfl,J,_,U⟩:=Y;refine⟨I,rfl,λH' s=>?_⟩;have:=gf.k (k:=Sum.inr key) (s _ _ J);rw[U.key hF hk] at this;exact this
noncomputable def lb (L:Lo) (m:Ds):Bool:=L.b (.dct m)
noncomputable def ff (L:Lo) (m:Ds):Bool:= !L.b (.dct m)
def C6 (C:Addr):Sp:=λvs H Q _=>∃v dx lv,vs=[.ref v,lv]/\H v=some (.ins C dx [])/\∀H',(∀c o,c≠v->H c=some o->H' c=some o)->sd H' C v dx lv->Q .non H'
def C7:Sp:=λvs H Q _=>∃pk pb key by_ D ws ms fl fs,vs=[.ref pk,.ref D]/\u6 H pk pb key by_/\H D=some (.lst ws)/\eU H ws ms fl/\ws.length<64/\(∀m∈ms,fH fs m)/\fs.pl key/\(ms.map λm=>keyOf m key).Nodup/\
 ∀a kvs H',Same H H'->H' a=some (.dK kvs)->kvs.map (·.1)=ms.map (λm=>keyOf m key)->Q (.ref a) H'
def u9 (K:W.Frag) (C:Addr):Sp:=λvs H Q _=>∃a I ws,vs=[.ref a,.ref I]/\H a=some (lu a C)/\eA K H I ws/\∀p dx H',p≠a->dx≠a->(∀c o,c≠a->H c=some o->H' c=some o)->H' a=some (MadeX a C dx)->H' dx=some (.xd [("way",.ref p)])->H' p=some (.lst ws)->Q .non H'
def C8 (ia:Addr) (n:Nat):Sp:=λvs H Q E=>∃I v k d fp r,vs=[I,v]/\KA H I k/\k.W/\Own H v d fp/\Rs n k d r/\(r=none->∀H',Same H H'->Q .non H')/\
 ∀pl,r=some pl->∀dx p H',Same H H'->H' dx=some (.xd [("way",.ref p)])->H' p=some (.lst (pl.map kV))->E (.ref ia) (some dx) H'
section
variable {P:Program}{w:World}{K:W.Frag}{mg:Str->Option Value}{base:Heap}
variable {C ia:Addr}
theorem JR:fG Xp Xp (eX (gj 25 0)):=fW
theorem JS (T:Tb mg)(OF:pZ K mg C I Y)(J:Dm K "__init__" "Keep.__init__" rd (gj 25 0) I U):eE P w K mg base eI (1) I U rd (C6 C):=by
 refine J.F.ok JR λvs H Q E h=>?_;obtain⟨v,dx,y,rfl,hv,q⟩:=h;refine⟨rfl,λaa A outer s nd hr hu=>?_⟩;refine⟨_,(eG (Fe (pv 0) (pv 1) rfl)),?_⟩
 ac_rfl
 refine(Zr rfl (Zr rfl ⟨v,C,dx,[],rfl,hv,OF.ct,OF.na,by decide,?_⟩));exact q _ (λc o hc e=>by rw[eu hc];exact e) eF
theorem JT:fG ["kind","rows","found","row"] XY (eX (top 16)):=fW
theorem JU (T:Tb mg)(J:Dn K mg "by_key" jd (top 16) U Y):eE P w K mg base eI (1) U Y jd (C7):=by
 refine J.F.ok JT λvs H Q E h=>?_;obtain⟨pk,pb,key,by_,D,ws,ms,fl,fs,rfl,ah,hD,aa,am,ac,ae,ai,q⟩:=h;refine⟨rfl,λan A outer s nd hr hu=>?_⟩
 refine⟨_,(en (eW 2 nd o8)
  (en (ie PassesOwn.never rfl (kB (pv 1)) (fQ (i:=3) nd rfl gq) (eG (mB hu (pv 2) (h9 hu (pv 3) (eK (pv 0) b_) (λ_ _=>rfl)) (pv 3) rfl)))
  (eG (eJ (pv 2))))),?_⟩
 ac_rfl
 have af:=(A3.len aa).1;intro p hp;have s0:Same H (upd H p (.dK [])):=Same.new hp;refine(Zr rfl ⟨D,rfl,⟨_,eA.of (s0 _ _ hD)⟩,zF (xs:=ws) (λi σ H'=>i<=ws.length/\∃y ek,σ=[some (.ref pk),some (.ref D),some (.ref p),y]/\Same H H'/\H' p=some (.dK ek)/\ek.map (·.1)=(ms.take i).map λm=>keyOf m key) ⟨Q04 _,_,[],rfl,s0,eF,rfl⟩ ?_ ?_ ?_⟩)
 . intro i σ H' _ zq;obtain⟨_,y,ek,rfl,s2,_⟩:=zq;exact eA.of (s2 _ _ hD)
 . intro i x σ H' hx zq;obtain⟨_,y,ek,rfl,s2,ab,I⟩:=zq;have hi:i<ws.length:=(List.getElem?_eq_some_iff.mp hx).1;obtain⟨m,f,hm,ho⟩:=aa.row hx;obtain⟨rr,rfl,gk⟩:=ou ho (ac m (Q0p hm)) ae
   have aj:gJ ek (keyOf m key)=none:=by
    have sv:=rD I (keyOf m key)
    have:jA key (ms.take i) (keyOf m key)=false:=by
     cases z:jA key (ms.take i) (keyOf m key) with
     |false=>rfl
     |true=>
      obtain⟨m',ak,e⟩:=List.any_eq_true.mp z;have e:=of_decide_eq_true e;obtain⟨j,hj,ej⟩:=Q13 ak;rw[Q0l] at hj;rw[Q19] at ej;have al:i<ms.length:=by omega
      have:=List.pairwise_iff_getElem.mp (List.pairwise_map.mp ai) j i (by omega) al (by omega);rw[ej,(List.getElem?_eq_some_iff.mp hm).2] at this;exact absurd e this
    rw[this] at sv
    cases z:gJ ek (keyOf m key) with
    |none=>rfl
    |some o=>rw[z] at sv;cases sv
   have ag:ek.length<sizeLine:=by
    have:=congrArg List.length I;rw[Q03,Q03,Q0l] at this;exact gz (by omega)
   refine(Zr rfl (Zr rfl (Zr rfl (Zr rfl ⟨pk,_,_,Zr rfl ⟨rfl,d_.of (s2 _ _ ah),rfl,rr,Zr rfl ⟨gk _ s2,p,Zr rfl ⟨jx.k ab ag,?_⟩⟩⟩⟩))));rw[pB aj];refine⟨hi,_,Zr rfl ⟨λc o e=>by rw[eu (eL e hp)];exact s2 _ _ e,eF,?_⟩⟩;rw[Q0i,I,take_add hm,Q0i];rfl
 . intro σ H' zq;obtain⟨_,y,ek,rfl,s2,ab,I⟩:=zq;rw[af,Q0s] at I;exact(Zr rfl (q p ek _ s2 ab I))
theorem JV:fG ["self","way"] ["self","way"] (eX (gj 3 0)):=fW
theorem JW (T:Tb mg)(XC:r_ K mg base ia I)(J:Dm K "__init__" "CantPut.__init__" nV (gj 3 0) I U):eE P w K mg base eI (1) I U nV (u9 K ia):=by
 refine J.F.ok JV λvs H Q E h=>?_;obtain⟨a,p0,ws,rfl,ha,hs,q⟩:=h;refine⟨rfl,λae A outer s nd hr hu=>?_⟩;refine⟨_,(eG (JI (pv 0) (oU FF (by rfl) T.mM boot_list (a_ (pv 1) c_)) rfl)),?_⟩
 ac_rfl
 refine(Zr rfl ⟨p0,Zr rfl ⟨.inl hs,λp hp=>?_⟩⟩);have Y:a≠p:=eL ha hp;refine(Zr rfl ⟨a,ia,rfl,by rw[eu Y];exact ha,XC.fld,λdx aa ab=>?_⟩);have ac:p≠dx:=eL (H:=upd H p (.lst ws)) eF aa;refine q p dx _ (Ne.symm Y) ab (λc o hc e=>?_) eF ?_ ?_
 . have e1:upd H p (.lst ws) c=some o:=by rw[eu (eL e hp)];exact e
   rw[eu hc,eu (eL e1 aa)];exact e1
 . rw[eu ab,eF]
 . rw[eu (Ne.symm Y),eu ac,eF]
theorem C9:fG ["kind","seen","place"] ["kind","seen"] (eX (top 18)):=fW
theorem JX (n j:Nat)(T:Tb mg)(XC:r_ K mg base ia I)(aa:Dn K mg "ask_fit" rf (top 18) ab ac)(ae:Dn K mg "misfit" je (top 7) af ag)(ah:eE P w K mg base eI (j+3) af ag je (m8 n))(J:Dm K "__init__" "CantPut.__init__" nV (gj 3 0) I U)(Y:eE P w K mg base eI (1) I U nV (u9 K ia)):eE P w K mg base (jH P w) (j+4) ab ac rf (C8 ia n):=by
 refine C2 aa.F C9 (λvs H Q E h=>?_) (λao A outer s H vs Q E hr h=>?_)
 . obtain⟨kv,v,k,d,fp,r,rfl,_⟩:=h;rfl
 obtain⟨kv,v,k,d,fp,r,rfl,hk,hW,hO,hR,q1,q2⟩:=h;have nd:=C9.nd
 refine⟨_,(en (eW 2 nd (eN ah hr ae (a_ (pv 0) (a_ (pv 1) c_))))
  (eG (eR (eP ml (pv 2) h8 (eM _)) (eG (CV rfl XC.xi PySem.F.excBase_ValueError XC.kp Y (hr.mono (by omega)) rfl rfl XC.m J.b CY (a_ (pv 2) c_))) eS))),?_⟩
 ac_rfl
 refine(Zr rfl (Zr rfl ⟨kv,v,k,d,fp,r,rfl,hk,hW,hO,hR,λu H1 s1 hu=>?_⟩))
 cases r with
 |none=>
  have hu:u=.non:=hu;subst hu;refine(Zr rfl ⟨rfl,Zr rfl ?_⟩);rw[decide_eq_true rfl];exact fk (q1 rfl _ s1)
 |some pl=>
  obtain⟨p0,rfl,aj⟩:=hu;refine(Zr rfl ⟨rfl,Zr rfl (fv (Zr rfl ⟨g6,λa ha=>?_⟩))⟩);refine⟨a,p0,pl.map kV,rfl,eF,eA.of (by rw[eu (eL aj ha)];exact aj),λp dx H' ak al keep am an hp=>⟨rfl,dx,am,?_⟩⟩;refine q2 pl rfl dx p _ (λc o e=>?_) (by rw[js al];exact an) (by rw[js ak];exact hp);have e1:=s1 c o e;have ai:=eL e1 ha;rw[js ai];exact keep c o ai (by rw[eu ai];exact e1)
end
end Pb
namespace L2
open Spec PyProof.Rows
section
variable {X:Cx}{N':List Str}{e:Expr}{t:TE}
structure ow (X:Cx) (N':List Str):Prop where
 len:N'.length=X.N.length
 old:∀(i:Nat) y,N'[i]? =some y->X.N[i]? =some y\/¬qe X.env.scope y
theorem Inv.JY {pins:List (Addr × Obj)}{σ:St}{H:Hp}{s:Shared}(r:ow X N')(I:Inv X pins σ H s):Inv { X with N:=N' } pins σ H s:=by
 refine⟨⟨I.ok.mod,I.ok.kind,I.ok.glob,I.ok.blt,I.ok.above,I.ok.inj,I.ok.has,I.ok.cab,I.ok.hd,I.ok.frames,I.ok.stk,I.ok.oK,I.ok.bs,I.ok.jh,I.ok.lA,I.ok.l8,I.ok.iN,I.ok.j1⟩,I.os,I.bare,I.base,?_,I.cell,I.free,I.iC,I.pin,I.hok,I.len.trans r.len.symm⟩;obtain⟨m,h1,h2⟩:=I.loc;refine⟨m,h1,λi x v hi U J=>?_⟩;rcases r.old i x hi with h|h
 . exact h2 i x v h U J
 . exact absurd J h
theorem Inv.JZ {pins:List (Addr × Obj)}{σ:St}{H:Hp}{s:Shared}(r:ow X N')(U:∀(i:Nat) v,X.N[i]? ≠N'[i]? ->σ[i]? ≠some (some v))(I:Inv { X with N:=N' } pins σ H s):Inv X pins σ H s:=by
 refine⟨⟨I.ok.mod,I.ok.kind,I.ok.glob,I.ok.blt,I.ok.above,I.ok.inj,I.ok.has,I.ok.cab,I.ok.hd,I.ok.frames,I.ok.stk,I.ok.oK,I.ok.bs,I.ok.jh,I.ok.lA,I.ok.l8,I.ok.iN,I.ok.j1⟩,I.os,I.bare,I.base,?_,I.cell,I.free,I.iC,I.pin,I.hok,I.len.trans r.len⟩;obtain⟨m,h1,h2⟩:=I.loc;refine⟨m,h1,λi x v hi Y J=>?_⟩;by_cases hn:X.N[i]? =N'[i]?
 . exact h2 i x v (by rw[<-hn];exact hi) Y J
 . exact absurd Y (U i v hn)
theorem ow.of {N:List Str}{sc:Scope}(U:X.N=N)(Y:X.env.scope=sc)(hl:N'.length=N.length)(hb:(List.zip N' N).all (λp=>p.1 == p.2 || ((sc.names.lookup p.1 != some .local) && (sc.names.lookup p.1 != some .cell) && (sc.names.lookup p.1 != some .free)))=true):ow X N':=by
 subst U;subst Y;refine⟨hl,λi y I=>?_⟩;have hi:=(List.getElem?_eq_some_iff.mp I).1;have J:X.N[i]? =some (X.N[i]'(by omega)):=Q02 _
 have hm:(y,X.N[i]'(by omega))∈List.zip N' X.N:=by
  refine Q0p (i:=i) ?_;rw[List.getElem?_zip_eq_some];exact⟨I,J⟩
 have:=List.all_eq_true.mp hb _ hm;simp only[Bool.or_eq_true,Bool.and_eq_true,beq_iff_eq,bne_iff_ne] at this;rcases this with h|⟨⟨h1,h2⟩,h3⟩
 . exact .inl (by rw[J,h])
 . exact .inr λz=>z.elim h1 λz=>z.elim h2 h3
end
def J0 (N N':List Str) (t:TS):TS:=λD σ H=>t { nx:=λI H'=>(∀(i:Nat) v,N[i]? ≠N'[i]? ->I[i]? ≠some (some v))/\D.nx I H',rt:=λ_ _=>False } σ H
theorem J1 {X:Cx}{N':List Str}{st:Stmt}{t:TS}(r:ow X N')(h:PS { X with N:=N' } st t):PS X st (J0 X.N N' t):=by
 intro pins s σ H D I q;refine e_ (h pins s σ H _ (I.JY r) q) λf s1 z=>?_
 cases f with
 |next=>
  obtain⟨J,H',U,Y,q'⟩:=z;exact⟨J,H',U.JZ r Y,q'⟩
 |ret u=>
  obtain⟨_,_,_,_,_,z⟩:=z;exact z.elim
 |brk=>
  obtain⟨_,_,_,z⟩:=z;exact z.elim
 |cont=>
  obtain⟨_,_,_,z⟩:=z;exact z.elim
theorem J3 {N N':List Str}{k:Nat}{z:Str}{σ:St}(e:N'=N.set k z)(J:σ[k]? =some none):∀(i:Nat) v,N[i]? ≠N'[i]? ->σ[i]? ≠some (some v):=λi v I h=>by
 by_cases c:i=k
 . rw[c,J] at h
   cases h
 . exact I (by rw[e,Q1r (Ne.symm c)])
end L2
namespace Pb
open L2 PyProof.Rows
def Kn (H H':Hp):Prop:=∀c o,(∀ps,o≠ .gF ps)->H c=some o->H' c=some o
theorem Kn.of {H H':Hp}(s:Same H H'):Kn H H':=λc o _ e=>s c o e
theorem Kn.iL {P:Addr}{I:Pos}{J:Str}{H H':Hp}(k:jX P H H')(hT:eY P I J H):Kn H H':=λc o U e=>by
 obtain⟨ps,Y⟩:=hT.tab;exact k c o (gZ e Y (U ps)) e
theorem Kn.tu {H H':Hp}(k:Kn H H'):Tu H H':=λc xs e=>k c _ (by intro ps z;cases z) e
theorem Kn.lst {H H':Hp}(k:Kn H H'){c:Addr}{xs:List V}(e:H c=some (.lst xs)):H' c=some (.lst xs):=k c _ (by intro ps z;cases z) e
theorem eU.kn {H H':Hp}{vs:List V}{rs:List Ds}{fl:List (List Addr)}(h:eU H vs rs fl)(k:Kn H H'):eU H' vs rs fl:=eU.keep k.tu h λc hc o e=>k c o (by
 intro ps z;rcases eU.mu h c hc with⟨_,q⟩|⟨_,q⟩ <;> rw[e] at q <;> rw[z] at q <;> cases q) e
theorem sg {H:Hp}{D:Addr}{vs:List V}{ms:List Ds}{fl:List (List Addr)}(I:H D=some (.lst vs))(h:eU H vs ms fl):Own H (.ref D) (.lst (gh ms)) (D::fl.flatten):=by
 unfold Own;exact⟨D,vs,Zr rfl ⟨I,rfl,eU.own h⟩⟩
theorem eU.app {H:Hp}{I:List V}{J:List Ds}{U:List (List Addr)}(h2:eU H I J U):∀{v1:List V}{Y:List Ds}{f1:List (List Addr)},eU H v1 Y f1->eU H (v1++I) (Y++J) (f1++U)
 |_,_,_,.nil=>h2
 |_,_,_,.cons h r=>.cons h (eU.app h2 r)
theorem C_:∀{a b:List Ds},gh a=gh b->a=b
 |[],[],_=>rfl
 |[],_::_,h=>by cases h
 |_::_,[],h=>by cases h
 |x::a,y::b,h=>by
  injection h with _ h1 h2
  injection h1 with h1
  rw[h1,C_ h2]
noncomputable def g9 (L:Lo) (key:Str) (tk:List Key) (m:Ds):Bool:= !lb L m || inV (kV (keyOf m key)) (tk.map kV)
noncomputable def iY (L:Lo) (key:Str) (tk:List Key) (r:Option (List Key)) (ss:List Ds):Option (List Key):=match r with
 |some pl=>some pl
 |none=>(ss.findIdx? (g9 L key tk)).map λ(i:Nat)=>[Sum.inl (i:Int)]
theorem Dd {L:Lo}{key:Str}{tk:List Key}{ss:List Ds}{i:Nat}{m:Ds}(J:ss[i]? =some m)(U:g9 L key tk m=true)(I:∀j m,j<i->ss[j]? =some m->g9 L key tk m=false):iY L key tk none ss=some [Sum.inl (i:Int)]:=by
 have hi:=(List.getElem?_eq_some_iff.mp J).1
 have e:ss.findIdx? (g9 L key tk)=some i:=by
  rw[List.findIdx?_eq_some_iff_getElem];refine⟨hi,by rw[(List.getElem?_eq_some_iff.mp J).2];exact U,λj Y=>?_⟩;rw[I j _ Y (Q02 (by omega))]
  decide
 unfold iY;dsimp only;rw[e];rfl
theorem u_ {L:Lo}{key:Str}{tk:List Key}{ss:List Ds}(I:∀m∈ss,g9 L key tk m=false):iY L key tk none ss=none:=by
 have e:ss.findIdx? (g9 L key tk)=none:=by
  rw[List.findIdx?_eq_none_iff];exact λm J=>by rw[I m J]
 unfold iY;dsimp only;rw[e];rfl
noncomputable def fC (key:Str) (ms:List Ds):List Key:=ms.map λm=>keyOf m key
structure kh (n:Nat) (H:Hp) (pk pb:Addr) (key by_:Str) (xs:List V) (fs:Fs) (lv:V) (L:Lo) (D:Addr) (ws:List V) (ms:List Ds) (fl:List (List Addr)) (w:V) (d:Pb.D) (fp:List Addr) (r:Option (List Key)) (ss:List Ds):Prop where
 k:jt H pk pb key by_ xs fs
 l:ot H lv L fs
 a1:H D=some (.lst ws)
 r1:eU H ws ms fl
 l1:ms.length<=10
 sj:∀m∈ms,fH fs m
 Df:(fC key ms).Nodup
 o:Own H w d fp
 rs:Rs n (.rows key by_ fs) d r
 eq:r=none->d=.lst (gh ss)
 l2:ss.length<=5
def Du (H:Hp) (t:Addr) (r:Option (List Key)) (ms:List Ds):Prop:=match r with
 |none=>∃D vs fl,H t=some (.tup [.str "done",.ref D])/\H D=some (.lst vs)/\eU H vs ms fl
 |some pl=>∃p,H t=some (.tup [.str "refused",.ref p])/\H p=some (.lst (pl.map kV))
theorem Du.kn {H H':Hp}{t:Addr}{r:Option (List Key)}{ms:List Ds}(h:Du H t r ms)(k:Kn H H'):Du H' t r ms:=by
 cases r with
 |none=>
  obtain⟨D,vs,fl,h1,h2,I⟩:=h;exact⟨D,vs,fl,k.tu _ _ h1,k.lst h2,I.kn k⟩
 |some pl=>
  obtain⟨p,h1,h2⟩:=h;exact⟨p,k.tu _ _ h1,k.lst h2⟩
section
variable {n:Nat}{H:Hp}{pk pb:Addr}{key by_:Str}{xs:List V}{fs:Fs}{lv:V}{L:Lo}{D:Addr}{ws:List V}{ms:List Ds}{fl:List (List Addr)}{w:V}{d:Pb.D}{fp:List Addr}{r:Option (List Key)}{ss:List Ds}
theorem kh.sn (X:kh n H pk pb key by_ xs fs lv L D ws ms fl w d fp none ss):∃I J U,w=.ref I/\H I=some (.lst J)/\eU H J ss U/\(∀m∈ss,fH fs m)/\(fC key ss).Nodup:=by
 have e:=X.eq rfl;have Y:=X.o;have hf:=X.rs.1;rw[e] at Y hf;unfold Own at Y;obtain⟨I,J,fq,rfl,hD,_,hO⟩:=Y;obtain⟨U,hr,_⟩:=eQ.rows hO;unfold eV at hf;obtain⟨rs,e2,h1,_,h3⟩:=hf
 cases C_ (Pb.D.lst.inj e2);exact⟨I,J,U,rfl,hD,hr,h1,h3⟩
theorem kh.kn (X:kh n H pk pb key by_ xs fs lv L D ws ms fl w d fp none ss)(U:∀m∈ss,g9 L key (fC key (ms.filter (ff L))) m=false):(fC key (ss++ms.filter (ff L))).Nodup:=by
 obtain⟨_,_,_,_,_,_,_,h⟩:=X.sn;unfold fC;rw[Q0i];refine List.nodup_append.mpr ⟨h,X.Df.sublist (List.filter_sublist.map _),λx Y y I e=>?_⟩;obtain⟨m,hm,rfl⟩:=List.mem_map.mp Y;have J:=U m hm;unfold g9 at J;rw[<-e] at I;have I:keyOf m key∈fC key (ms.filter (ff L)):=I;rw[rV.mpr I,Bool.or_true] at J
 cases J
end
def Dg (ia:Addr) (n:Nat) (Pi C:Addr):Sp:=λvs H Q E=>∃v dx pk pb key by_ xs fs lv L D ws ms fl w d fp r ss,vs=[.ref v,.ref pk,.ref D,w]/\sd H C v dx lv/\kh n H pk pb key by_ xs fs lv L D ws ms fl w d fp r ss/\eY Pi ke kf H/\
 (iY L key (fC key (ms.filter (ff L))) r ss=none->∀U I J H',jX Pi H H'->eY Pi ke kf H'->H' U=some (.lst I)->eU H' I (gp key by_ (ss++ms.filter (ff L))) J->Q (.ref U) H')/\
 ∀pl,iY L key (fC key (ms.filter (ff L))) r ss=some pl->∀dx p H',Same H H'->H' dx=some (.xd [("way",.ref p)])->H' p=some (.lst (pl.map kV))->E (.ref ia) (some dx) H'
def Di (n:Nat) (Pi C:Addr):Sp:=λvs H Q _=>∃v dx pk pb key by_ xs fs lv L D ws ms fl w d fp r ss,vs=[.ref v,.ref pk,.ref D,w]/\sd H C v dx lv/\kh n H pk pb key by_ xs fs lv L D ws ms fl w d fp r ss/\eY Pi ke kf H/\
 ∀I H',jX Pi H H'->eY Pi ke kf H'->Du H' I (iY L key (fC key (ms.filter (ff L))) r ss) (gp key by_ (ss++ms.filter (ff L)))->Q (.ref I) H'
section
variable {P:Program}{w:World}{K:W.Frag}{mg:Str->Option Value}{base:Heap}
variable {C Pi ia:Addr}
theorem Dj:fG Xi Xl (eX (gj 25 3)):=fW
theorem J4 (n j:Nat)(T:Tb mg)(OF:pZ K mg C au ab)(XC:r_ K mg base ia I)(ae:Dm K "put" "Keep.put" rg (gj 25 3) ab af)(aa:Dn K mg "ask_fit" rf (top 18) aq ar)(aj:eE P w K mg base (jH P w) j aq ar rf (C8 ia n))(ah:Dn K mg "holds" mR (top 21) aH aI)(ai:eE P w K mg base eI (5) aH aI mR (j_ 3))(aw:Dn K mg "by_key" jd (top 16) ax ay)(az:eE P w K mg base eI (1) ax ay jd (C7))(ak:Dn K mg "in_order" jd (top 15) al am)(an:eE P w K mg base eI (8) al am jd (rR Pi ke kf))(J:Dm K "__init__" "CantPut.__init__" nV (gj 3 0) I U)(Y:eE P w K mg base eI (1) I U nV (u9 K ia))(hj:8<=j):eE P w K mg base (jH P w) (j+1) ab af rg (Dg ia n Pi C):=by
 refine C2 ae.F Dj (λvs H Q E h=>?_) (λbi A outer s H vs Q E hr h=>?_)
 . obtain⟨v,dx,pk,pb,key,by_,xs,fs,lv,L,D,ws,ms,fl,w,d,fp,r,ss,rfl,_⟩:=h;rfl
 obtain⟨v,dx,pk,pb,key,by_,xs,fs,lv,L,D,ws,ms,fl,w,d,fp,r,ss,rfl,hV,X,hT,q1,q2⟩:=h;have nd:=Dj.nd;have hu:=tK hr
 refine⟨_,(en (kx (nA aj (hr.mono (by omega)) rfl aa.m aa.F.kp aa.b .nil (JA λ_ _ _ z=>z) (a_ (pv 1) (a_ (pv 3) c_))))
  (en (J1 (N':=["self","kind","source","seen","hidden","hidden_keys","number","~7"]) (ow.of (N:=Xi) (sc:=eX (gj 25 3)) rfl rfl rfl (by decide +kernel)) (nH (i:=4) (show(["self","kind","source","seen","hidden","hidden_keys","number","~7"]:List Str).Nodup by decide +kernel) rfl (Or.inl rfl) (g:=(gX 0)) (tt:=(qi (tB (jw _ _ _ (gy (zS K (fF 1) "look") (gy (fF 0) iu)))))) (te:=(fF 0)) (own:=["row"]) rfl (jb (N:=["self","kind","source","seen","hidden","hidden_keys","number","~7"]) (sc:=eX (gj 25 3))) (kB (pv 2)) (λ_ _ _ _ _=>(fQ (i:=0) (show(["row","self","kind","source","seen","hidden","hidden_keys","number","~7"]:List Str).Nodup by decide +kernel) rfl (Or.inl rfl) (.inr rfl))) (λ_ _ _ _ _=>(mD (hU (gN (eN ai hr ah (a_ (zT (pv 1) rfl) (a_ (pv 0) c_))))))) (λ_ _ _ _ _=>(pv 0))))
  (en (eW 5 nd (eN az hr aw (a_ (pv 1) (a_ (pv 4) c_))))
  (en (ie PassesOwn.leaving rfl (tO rfl T.uh (a_ (pv 3) c_)) (i7 rfl (gQ (fQ (i:=6) nd rfl gq) (gQ (fQ (i:=7) nd rfl gq) i6))) (eG (eR (PW.pt (ic (hU (gN (eN ai hr ah (a_ (zT (pv 0) rfl) (a_ (pv 7) c_))))) (ib (qg (tH hu (h9 hu (pv 7) (eK (pv 1) b_) (λ_ _=>rfl)) (pv 5)) (by with_unfolding_all rfl))))) (eG (CV rfl XC.xi PySem.F.excBase_ValueError XC.kp Y (hr.mono (by omega)) rfl rfl XC.m J.b CY (a_ (fY (a_ (pv 6) c_)) c_))) eS)))
  (eG (eJ (eN an hr ak (a_ (pv 1) (a_ (eB ig (pv 3) (pv 4)) c_))))))))),?_⟩
 ac_rfl
 obtain⟨bj,bm,bn,aE,a5⟩:=X.k.w5;refine(Zr rfl (Zr rfl ⟨.ref pk,w,_,d,fp,r,rfl,X.k.ka,X.k.W,X.o,X.rs,λer H1 s1=>?_,λpl er ac p H' s' ao hp=>q2 pl (by rw[er];rfl) ac p H' s' ao hp⟩));subst er;obtain⟨D2,w2,f2,rfl,aP,aQ,aF,bo⟩:=X.sn;have aG:=(A3.len X.r1).1;have bg:=(A3.len aQ).1;have a6:=X.l1;have bp:=X.l2;have aX:=s1 _ _ hV;have aJ:=X.l.mono (Tu.of s1);have fT:=X.r1.sm s1;refine(Zr rfl ⟨D,rfl,⟨_,eA.of (s1 _ _ X.a1)⟩,lW (oo (eA.of (s1 _ _ X.a1))) (λi=>fX (ff L) (ms.take i) (ws.take i)) (by omega) (λp hp=>?_) (λi x hx add skip=>?_)⟩)
 case refine_2=>
  obtain⟨m,f,hm,ho⟩:=fT.row hx;refine⟨rfl,Zr rfl ⟨v,C,dx,_,Zr rfl ⟨aX,OF.ct,OF.na,rfl,Zr rfl ⟨lv,x,L,.eZ fs,.dct m,f,rfl,aJ.at_,aJ.ok,ho,lZ (X.sj m (Q0p hm)),aJ.dp,Zr rfl (fJ (λc=>(Zr rfl (add _ (se aG.symm hm hx c)))) (λc=>skip (p6 aG.symm hm hx c)))⟩⟩⟩⟩
 rw[sf aG.symm];refine⟨J3 (k:=7) (z:="~7") rfl rfl,?_⟩;have s2:=s1.trans (Same.new (o:=.lst (fX (ff L) ms ws)) hp);have aT:=eF (H:=H1) (a:=p) (o:=.lst (fX (ff L) ms ws));generalize upd H1 p (.lst (fX (ff L) ms ws))=H2 at s2 aT;have aU:eU H2 (fX (ff L) ms ws) (ms.filter (ff L)) (fX (ff L) ms fl):=(X.r1.sm s2).kg;have bh:=(A3.len aU).1;have bq:(ms.filter (ff L)).length<=10:=Q0e (Q16 _ _) a6;have aY:∀m∈ms.filter (ff L),fH fs m:=λm hm=>X.sj m (List.mem_filter.mp hm).1;clear aX aJ fT s1;refine(Zr rfl (Zr rfl ⟨pk,pb,key,by_,p,_,_,_,fs,rfl,s2 _ _ X.k.at_,aT,aU,by omega,aY,aE,X.Df.sublist (List.filter_sublist.map _),λa kvs H3 s3 ha a7=>?_⟩));have aA:=s2.trans s3;have a8:=aQ.sm aA;refine(Zr rfl ⟨D2,rfl,⟨_,eA.of (aA _ _ aP)⟩,uT (xs:=w2) (λi σ H'=>(∃x y,σ=[some (.ref v),some (.ref pk),some (.ref D),some (.ref D2),some (.ref p),some (.ref a),x,y])/\Same H3 H'/\∀j m,j<i->ss[j]? =some m->g9 L key (fC key (ms.filter (ff L))) m=false) ⟨⟨_,_,rfl⟩,Same.refl _,λj m hj=>absurd hj (Q1l _)⟩ ?_ ?_ ?_⟩)
 . rintro i σ H' _ ⟨⟨x,y,rfl⟩,s4,_⟩;exact eA.of (s4 _ _ (aA _ _ aP))
 . rintro i x σ H' t hx ⟨⟨_,_,rfl⟩,s4,aK⟩ ht;have s5:=s4.trans (Same.new (o:=.tup [.int i,x]) ht);refine⟨t,Zr rfl ⟨d_.of eF,rfl,_,Zr rfl ⟨_,Zr rfl ⟨rfl,?_⟩⟩⟩⟩;have aB:=aA.trans s5;generalize upd H' t (.tup [.int i,x])=H5 at s5 aB;obtain⟨m,f,hm,ho⟩:=a8.row hx;have aZ:=Q0p hm
   have out:∀(p0:Addr) (av:H5 p0=none) (a0:Addr) (ag:upd H5 p0 (.lst [.int i]) a0=none),g9 L key (fC key (ms.filter (ff L))) m=true->∀(p ac:Addr) (H':Hp),p≠a0->ac≠a0->(∀c o,c≠a0->upd (upd H5 p0 (.lst [.int i])) a0 (lu a0 ia) c=some o->H' c=some o)->H' ac=some (.xd [("way",.ref p)])->H' p=some (.lst [.int i])->E (.ref ia) (some ac) (rem H' a0):=λp0 av a0 ag a3 p ac H' aC aD keep ao hp=>by
    refine q2 _ (Dd hm a3 aK) ac p _ (λc o e=>?_) (by rw[js aD];exact ao) (by rw[js aC];exact hp);have e5:=aB _ _ e;have e6:upd H5 p0 (.lst [.int i]) c=some o:=by rw[eu (eL e5 av)];exact e5
    have aV:=eL e6 ag;rw[js aV];exact keep c o aV (by rw[eu aV];exact e6)
   refine(Zr rfl ⟨v,C,dx,_,Zr rfl ⟨aB _ _ hV,OF.ct,OF.na,rfl,Zr rfl ⟨lv,x,L,.eZ fs,.dct m,f,rfl,(X.l.mono (Tu.of aB)).at_,X.l.ok,ho.same s5,lZ (aF m aZ),X.l.dp,?_⟩⟩⟩)
   cases hb:L.b (.dct m) with
   |false=>
    refine⟨false,rfl,fv (fv ?_)⟩;refine(Zr rfl ⟨g6,λp0 av=>⟨g6,λa0 ag=>?_⟩⟩);refine⟨a0,p0,Zr rfl ⟨eF,eA.of (by rw[eu (eL (H:=upd H5 p0 (.lst [.int i])) eF ag)];exact eF),λp ac H' aC aD keep aW ao hp=>⟨rfl,ac,aW,out p0 av a0 ag ?_ p ac H' aC aD keep ao hp⟩⟩⟩;unfold g9 lb;rw[hb];rfl
   |true=>
    refine⟨true,rfl,fk ?_⟩;obtain⟨rr,rfl,gk⟩:=ou ho (aF m aZ) aE
    have a9:(gJ kvs (keyOf m key)).isSome=inV (kV (keyOf m key)) ((fC key (ms.filter (ff L))).map kV):=by
     have sv:=rD a7 (keyOf m key);rw[sv]
     cases z:jA key (ms.filter (ff L)) (keyOf m key) with
     |true=>
      obtain⟨m',ap,e⟩:=List.any_eq_true.mp z;rw[rV.mpr (show keyOf m key∈fC key (ms.filter (ff L)) from by rw[<-of_decide_eq_true e];exact Q1d (f:=λm=>keyOf m key) ap)]
     |false=>
      cases y:inV (kV (keyOf m key)) ((fC key (ms.filter (ff L))).map kV) with
      |false=>rfl
      |true=>
       obtain⟨m',ap,e⟩:=List.mem_map.mp (rV.mp y);have:jA key (ms.filter (ff L)) (keyOf m key)=true:=List.any_eq_true.mpr ⟨m',ap,decide_eq_true e⟩;rw[z] at this;cases this
    refine(Zr rfl (Zr rfl ⟨pk,_,_,Zr rfl ⟨rfl,d_.of (aB _ _ X.k.at_),rfl,rr,Zr rfl ⟨gk _ s5,Zr rfl ⟨a,Zr rfl ⟨gf.k (s5 _ _ ha),Zr rfl ?_⟩⟩⟩⟩⟩));rw[a9]
    cases hi:inV (kV (keyOf m key)) ((fC key (ms.filter (ff L))).map kV) with
    |true=>
     refine fv ?_;refine(Zr rfl ⟨g6,λp0 av=>⟨g6,λa0 ag=>?_⟩⟩);refine⟨a0,p0,Zr rfl ⟨eF,eA.of (by rw[eu (eL (H:=upd H5 p0 (.lst [.int i])) eF ag)];exact eF),λp ac H' aC aD keep aW ao hp=>⟨rfl,ac,aW,out p0 av a0 ag ?_ p ac H' aC aD keep ao hp⟩⟩⟩;unfold g9;rw[hi,Bool.or_true]
    |false=>
     refine fk ⟨⟨_,_,rfl⟩,s5,λj m' hj ap=>?_⟩;by_cases e:j=i
     . rw[e,hm] at ap
       cases ap;unfold g9 lb;rw[hb,hi];rfl
     . exact aK j m' (by omega) ap
 . rintro σ H' ⟨⟨_,_,rfl⟩,s4,aK⟩
   have aM:∀m∈ss,g9 L key (fC key (ms.filter (ff L))) m=false:=λm hm=>by
    obtain⟨j,hj,e⟩:=Q13 hm;exact aK j m (by omega) (by rw[Q02 hj,e])
   have a2:=aA.trans s4;have a4:=(s3.trans s4) _ _ aT;refine(Zr rfl (Zr rfl (Zr rfl ⟨D2,p,_,Zr rfl ⟨rfl,a2 _ _ aP,a4,Q0k (gz (by omega)),λl hl=>?_⟩⟩)));have s6:Same H' (upd H' l (.lst (w2++fX (ff L) ms ws))):=Same.new hl;have aL:=a2.trans s6;refine⟨pk,l,pb,key,by_,fs,_,ss++ms.filter (ff L),Zr rfl ⟨aL _ _ X.k.at_,eF,eU.app ((aU.sm (s3.trans s4)).sm s6) (aQ.sm aL),by rw[Q05];omega,hT.same aL,?_,aE,a5,X.kn aM,λD' ba bb H7 bc bd _ be bf _=>q1 (u_ aM) D' ba bb H7 (λc o hc e=>bc c o hc (aL c o e)) bd be bf⟩⟩;intro m hm;rcases List.mem_append.mp hm with e|e
   . exact aF m e
   . exact aY m e
theorem J5:fG ["_law_view","_law_kind_here","_law_source","_law_seen","_law_way_here","_law_made","e"] XV (eX (top 49)):=fW
theorem J6 (n j:Nat)(T:Tb mg)(OF:pZ K mg C af I)(XC:r_ K mg base ia ae)(aa:Dn K mg "_law_put" rh (top 49) ab ac)(U:Dm K "put" "Keep.put" rg (gj 25 3) I Y)(J:eE P w K mg base (jH P w) j I Y rg (Dg ia n Pi C)):eE P w K mg base eI (j+1) ab ac rh (Di n Pi C):=by
 have CT:=OF.ct;have ah:=OF.p;refine aa.F.ok J5 λvs H Q E h=>?_;obtain⟨v,dx,pk,pb,key,by_,xs,fs,lv,L,D,ws,ms,fl,w,d,fp,r,ss,rfl,hV,X,hT,q⟩:=h;refine⟨rfl,λaq A outer s nd hr hu=>?_⟩;let Ek:XK:=λCv dd H'=>Cv=.ref ia/\∃pl dx p,iY L key (fC key (ms.filter (ff L))) r ss=some pl/\dd=some dx/\H' dx=some (.xd [("way",.ref p)])/\H' p=some (.lst (pl.map kV))/\Same H H';have ak:∀C' dd H',Ek (.ref C') dd H'->W.subIn K (.ref C') (.ref ia)=some true:=λC' dd H' z=>by rw[z.1];exact XC.sub
 refine⟨_,(en (eW 4 nd h8)
  (en (eW 5 nd h8)
  (en (JG (Ek:=Ek) (i:=6) rfl rfl (JD (i:=5) nd rfl (.inl rfl) (JO (pv 0) CT ah J (hr.mono (by omega)) U.b (a_ (pv 1) (a_ (pv 2) (a_ (pv 3) c_))))) rfl XC.m XC.ty XC.is XC.bx ak nd rfl rfl (λa=>(eG (eW 4 nd (JP (K:=K) rfl (pv 6) rfl)))))
  (en (eR (eP zN (pv 4) h8 (eM _)) (eG (eJ (gc (a_ fg (a_ (pv 5) c_))))) eS)
  (eG (eJ (gc (a_ fg (a_ (pv 4) c_))))))))),?_⟩
 ac_rfl
 refine⟨?_,λa C' dd H' na hE=>?_⟩
 . refine(Zr rfl ⟨v,dx,Zr rfl ⟨hV,rfl,Zr rfl (Zr rfl (Zr rfl ⟨v,dx,pk,pb,key,by_,xs,fs,lv,L,D,ws,ms,fl,w,d,fp,r,ss,rfl,hV,X,hT,λer D' al am H' kp an ao ap=>?_,λpl er ag p H' s' ai hp=>⟨rfl,pl,ag,p,er,rfl,ai,hp,s'⟩⟩))⟩⟩);refine(Zr rfl ⟨rfl,Zr rfl (fv (Zr rfl ⟨gn,λtq aj=>?_⟩))⟩);have s1:Same H' (upd H' tq (.tup [.str "done",.ref D'])):=Same.new aj;refine q tq _ (kp.trans (Kp.of s1)) (an.same s1) ?_;rw[er];exact⟨D',al,am,eF,s1 _ _ ao,ap.sm s1⟩
 . obtain⟨e,pl,ag,p,er,rfl,ai,hp,s'⟩:=hE;injection e with e
   subst e;have s1:Same H' (upd H' a (lr a C' (some ag))):=Same.new na;refine(Zr rfl ⟨a,C',ag,_,.ref p,rfl,eF,s1 _ _ ai,XC.cls,XC.fld,rfl,?_⟩);refine(Zr rfl ⟨rfl,Zr rfl (fk (Zr rfl ⟨gn,λtq aj=>?_⟩))⟩);have s2:=s1.trans (Same.new (o:=.tup [.str "refused",.ref p]) aj);have s3:=s'.trans s2;refine q tq _ (Kp.of s3) (hT.same s3) ?_;rw[er];exact⟨p,eF,s2 _ _ hp⟩
end
inductive OL (H:Hp):List V->List D->Prop
 |nil:OL H [] []
 |cons {v:V} {d:D} {f:List Addr} {vs:List V} {L:List D} (h:Own H v d f) (t:OL H vs L):OL H (v::vs) (d::L)
theorem OL.len {H:Hp}{vs:List V}{L:List D}(h:OL H vs L):vs.length=L.length:=by
 induction h with
 |nil=>rfl
 |cons _ _ I=>rw[Q0j,Q0j,I]
theorem OL.app {H:Hp}{a b:List V}{A B:List D}(h:OL H a A)(k:OL H b B):OL H (a++b) (A++B):=by
 induction h with
 |nil=>exact k
 |cons h _ I=>exact .cons h I
theorem OL.take {H:Hp}{a:List V}{A:List D}(h:OL H a A)(i:Nat):OL H (a.take i) (A.take i):=by
 induction h generalizing i with
 |nil=>rw[Q3h,Q3h];exact .nil
 |cons h _ I=>
  cases i with
  |zero=>exact .nil
  |succ i=>exact .cons h (I i)
theorem OL.drop {H:Hp}{a:List V}{A:List D}(h:OL H a A)(i:Nat):OL H (a.drop i) (A.drop i):=by
 induction h generalizing i with
 |nil=>rw[Q3i,Q3i];exact .nil
 |cons h t I=>
  cases i with
  |zero=>exact .cons h t
  |succ i=>exact I i
theorem OL.same {H H':Hp}{a:List V}{A:List D}(h:OL H a A)(s:Same H H'):OL H' a A:=by
 induction h with
 |nil=>exact .nil
 |cons h _ I=>exact .cons (h.same s) I
theorem OL.own {H:Hp}{a:List V}{A:List D}(h:OL H a A):∃fp,eQ H a (jg A) fp:=by
 induction h with
 |nil=>exact⟨[],by unfold jg eQ;exact⟨rfl,rfl⟩⟩
 |@cons v d f vs L h _ I=>
  obtain⟨fp,h2⟩:=I;exact⟨f++fp,by unfold jg eQ;exact⟨v,vs,f,fp,rfl,rfl,h,h2⟩⟩
theorem OL.rows {H:Hp}:∀{vs:List V}{ms:List Ds}{fl:List (List Addr)},eU H vs ms fl->OL H vs (ms.map D.dct)
 |_,_,_,.nil=>.nil
 |_,_,_,.cons h t=>.cons h (OL.rows t)
theorem OL.lst {H:Hp}{p:Addr}{vs:List V}{L:List D}(hp:H p=some (.lst vs))(h:OL H vs L):∃fp,Own H (.ref p) (.lst (jg L)) fp:=by
 obtain⟨fp,h⟩:=h.own;exact⟨p::fp,by unfold Own;exact⟨p,vs,fp,rfl,hp,rfl,h⟩⟩
theorem p7:∀(l:List D) (i:Nat),(jg l).at i=l[i]?
 |[],i=>by cases i <;> rfl
 |d::r,0=>rfl
 |d::r,i+1=>p7 r i
theorem sr:∀l:List D,(jg l).len=l.length
 |[]=>rfl
 |d::r=>by
  show(jg r).len+1=r.length+1;rw[sr r]
theorem Dk {key by_:Str}{a b:Ds}(h:iV key by_ a b):¬iV key by_ b a:=λh2=>by
 have z:=pj _ _ _ h h2;rw[qJ] at z
 cases z
theorem J7 {key by_:Str}{a:Ds}:¬iV key by_ a a:=λh=>Dk h h
structure km (n:Nat) (key y:Str) (fs:Fs) (ms:List Ds):Prop where
 ok:∀m∈ms,fH fs m/\m.dep<=n/\m.Sm
 kq:ms.Pairwise (iV key y)
 kn:(ms.map λm=>keyOf m key).Nodup
 len:ms.length<=30
theorem J8 {A B:List D}{i:Nat}(h:i<A.length):(A++B)[i]? =A[i]? :=Q1u h
theorem va {ms:List Ds}{i:Nat}(h:i<ms.length):(ms.map D.dct)[i]? =some (.dct (ms.getD i .nil)):=by
 rw[Q0r,Q0d,Q02 h];rfl
theorem vb {n i:Nat}{key y:Str}{fs:Fs}{ms:List Ds}{e:D}{B:List D}{p:List Key}(h:km n key y fs ms)(hi:i<ms.length)(Y:B.length<=60)(J:gL (n+1) (.eZ fs) e p):gL (n+1) (.rows key y fs) (.lst (jg ((ms.map D.dct).take i++[e]++B))) (Sum.inl (i:Int)::p):=by
 have I:((ms.map D.dct).take i).length=i:=by rw[Q0l,Q03];omega
 refine .pU (rs:=ms) ?_ (Q0k hi) (λj U=>?_) h.ok h.kq h.kn (e:=e) ?_ J
 . rw[sr,Q05,Q05,I];have:=h.len;show i+1+B.length<=100;omega
 . rw[p7,Q0q,J8 (by omega),Q3j,if_pos U,va (by omega)]
 . rw[p7,Q0q,Q14 (by omega),I,Q2m];rfl
theorem getD_mem {ms:List Ds}{i:Nat}(h:i<ms.length):ms.getD i .nil∈ms:=by
 rw[Q0d,Q02 h];exact Q0u _
theorem J9 {n i:Nat}{key y:Str}{fs:Fs}{ms:List Ds}(h:km n key y fs ms)(hi:i<ms.length):gL (n+1) (.rows key y fs) (.lst (jg ((ms.map D.dct).take (i+1)++[.dct (ms.getD i .nil)]++(ms.map D.dct).drop (i+1)))) [Sum.inl ((i+1:Nat):Int)]:=by
 have Y:(ms.map D.dct).take (i+1)++[.dct (ms.getD i .nil)]++(ms.map D.dct).drop (i+1)=(ms.take (i+1)++[ms.getD i .nil]++ms.drop (i+1)).map D.dct:=by
  rw[Q0i,Q0i,Q3k,Q3l];rfl
 rw[Y];have J:(ms.take (i+1)).length=i+1:=by rw[Q0l];omega
 have I:(ms.take (i+1)++[ms.getD i .nil]++ms.drop (i+1)).length=ms.length+1:=by
  rw[Q05,Q05,J,Q11];show i+1+1+(ms.length - (i+1))=_;omega
 have U:(ms.take (i+1)++[ms.getD i .nil]++ms.drop (i+1)).take (i+1)=ms.take (i+1):=by
  rw[Q0q,Q3m (by omega),Q1e (by omega)]
 have g:∀(l:List Ds) (k:Nat),l.getD k .nil=(l[k]?).getD .nil:=λl k=>Q0d ..;refine .og (rs:=ms.take (i+1)++[ms.getD i .nil]++ms.drop (i+1)) ?_ (Nat.succ_pos i) (by rw[I];omega) (λj hj=>?_) (λm hm=>?_) ?_ ?_ ?_
 . rw[sr,Q03,I];have:=h.len;omega
 . rw[p7,va (by rw[I];omega)]
 . rcases List.mem_append.mp hm with z|z
   . rcases List.mem_append.mp z with z|z
     . exact h.ok m (Q3n z)
     . rw[List.mem_singleton.mp z];exact h.ok _ (getD_mem hi)
   . exact h.ok m (Q3o z)
 . rw[U];exact h.kq.sublist (Q1f _ _)
 . rw[U];exact h.kn.sublist ((Q1f _ _).map _)
 . have e1:(ms.take (i+1)++[ms.getD i .nil]++ms.drop (i+1)).getD (i+1 - 1) .nil=ms.getD i .nil:=by
    rw[g,g,Q0q,Q1u (by omega),Q3j,if_pos (by omega),Q2n]
   have e2:(ms.take (i+1)++[ms.getD i .nil]++ms.drop (i+1)).getD (i+1) .nil=ms.getD i .nil:=by
    rw[g,Q0q,Q14 (by omega),J,Q2m];rfl
   rw[e1,e2];exact J7
theorem J_ {n i:Nat}{key y:Str}{fs:Fs}{ms:List Ds}(h:km n key y fs ms)(h0:0<i)(hi:i<ms.length):gL (n+1) (.rows key y fs) (.lst (jg ((ms.map D.dct).take (i - 1)++[.dct (ms.getD i .nil),.dct (ms.getD (i - 1) .nil)]++(ms.map D.dct).drop (i+1)))) [Sum.inl (i:Int)]:=by
 obtain⟨k,rfl⟩:∃k,i=k+1:=⟨i - 1,by omega⟩;rw[Q2n]
 have el:(ms.map D.dct).take k++[.dct (ms.getD (k+1) .nil),.dct (ms.getD k .nil)]++(ms.map D.dct).drop (k+1+1)=(ms.take k++[ms.getD (k+1) .nil,ms.getD k .nil]++ms.drop (k+1+1)).map D.dct:=by
  rw[Q0i,Q0i,Q3k,Q3l];rfl
 rw[el];have I:(ms.take k).length=k:=by rw[Q0l];omega
 have U:(ms.take k++[ms.getD (k+1) .nil,ms.getD k .nil]++ms.drop (k+1+1)).length=ms.length:=by
  rw[Q05,Q05,I,Q11];show k+2+(ms.length - (k+2))=_;omega
 have Y:(ms.take k++[ms.getD (k+1) .nil,ms.getD k .nil]++ms.drop (k+1+1)).take (k+1)=ms.take k++[ms.getD (k+1) .nil]:=by
  rw[Q0q,List.take_append,Q1e (by omega),I,Q3p];rfl
 have J:(ms.take k++[ms.getD (k+1) .nil]).Sublist ms:=by
  have e:ms=ms.take k++ms.drop k:=(Q3q k ms).symm;rw[e,Q3m (by omega),Q1e (by omega)];refine List.Sublist.append (List.Sublist.refl _) (List.singleton_sublist.mpr ?_);rw[<-e,Q0d,Q02 hi];exact List.mem_iff_getElem.mpr ⟨1,by rw[Q11];omega,by rw[List.getElem_drop];rfl⟩
 have g:∀(l:List Ds) (k:Nat),l.getD k .nil=(l[k]?).getD .nil:=λl k=>Q0d ..;refine .og (rs:=ms.take k++[ms.getD (k+1) .nil,ms.getD k .nil]++ms.drop (k+1+1)) ?_ h0 (by rw[U];omega) (λj hj=>?_) (λm hm=>?_) ?_ ?_ ?_
 . rw[sr,Q03,U];have:=h.len;omega
 . rw[p7,va (by rw[U];omega)]
 . rcases List.mem_append.mp hm with z|z
   . rcases List.mem_append.mp z with z|z
     . exact h.ok m (Q3n z)
     . rcases List.mem_cons.mp z with z|z
       . rw[z];exact h.ok _ (getD_mem hi)
       . rw[List.mem_singleton.mp z];exact h.ok _ (getD_mem (by omega))
   . exact h.ok m (Q3o z)
 . rw[Y];exact h.kq.sublist J
 . rw[Y];exact h.kn.sublist (J.map _)
 . have e1:(ms.take k++[ms.getD (k+1) .nil,ms.getD k .nil]++ms.drop (k+1+1)).getD (k+1 - 1) .nil=ms.getD (k+1) .nil:=by
    rw[g,Q0q,Q14 (by omega),I,Q2n,Q2m];rfl
   have e2:(ms.take k++[ms.getD (k+1) .nil,ms.getD k .nil]++ms.drop (k+1+1)).getD (k+1) .nil=ms.getD k .nil:=by
    rw[g,Q0q,Q14 (by omega),I,Q3p];rfl
   rw[e1,e2];refine Dk ?_;have:=List.pairwise_iff_getElem.mp h.kq k (k+1) (by omega) hi (by omega);rw[g,g,Q02 hi,Q02 (show k<ms.length by omega)];exact this
theorem Ka {n:Nat}{e:D}(I:e=.non\/e=.boo true):∀k:Kd,gL (n+1) k e []:=by
 have h1:∀z,e≠ .int z:=λz=>by rcases I with rfl|rfl <;> (intro h;cases h)
 have h2:∀z,e≠ .str z:=λz=>by rcases I with rfl|rfl <;> (intro h;cases h)
 have U:∀z,e≠ .dct z:=λz=>by rcases I with rfl|rfl <;> (intro h;cases h)
 have Y:∀z,e≠ .lst z:=λz=>by rcases I with rfl|rfl <;> (intro h;cases h)
 have J:∀z,e≠ .tup z:=λz=>by rcases I with rfl|rfl <;> (intro h;cases h)
 intro k
 cases k with
 |num=>exact .num h1
 |fE=>exact .fE h2
 |eZ fs=>exact .mY λm z=>absurd z (U m)
 |rows key by_ fs=>exact .rows0 Y
 |tree k=>exact .pV λxs as z=>absurd z (J xs)
 |gA fs=>exact .pW λxs z=>absurd z (J xs)
theorem Kb {n:Nat}{fs:Fs}{m:Ds}{x:Str}(I:x∈fs.names):gL (n+1) (.eZ fs) (.dct (m.del x)) []:=
 .mY λJ e=>.inr ⟨x,I,by cases e;exact Ds.uL _ _⟩
theorem Kc {n i:Nat}{fs:Fs}{m:Ds}{x:Str}{k:Kd}{e:D}(he:e=.non\/e=.boo true)(I:fs.names.Nodup)(U:fs.at i=some (x,k))(Y:fH fs m)(hd:m.dep<=n+1)(hs:m.Sm):gL (n+1+1) (.eZ fs) (.dct (m.upd x e)) [Sum.inr x]:=by
 have aa:x∈m.names:=by rw[Y.names];exact Fs.oh (Fs.jU I U)
 refine .pT (by rw[Ds.rO];exact Y.names) U (λj z q hj hz=>?_) (Ds.rP e aa) (Ka he k);obtain⟨d,hg,J⟩:=Y.get (Fs.jU I hz)
 have ab:z≠x:=λw=>by
  subst w;have:=Fs.uY I hz U;omega
 exact⟨d,by rw[Ds.uM ab];exact hg,J,Q0e (Ds.qW hg) hd,Ds.rE hs hg⟩
end Pb
namespace L2
open Spec PyProof.Rows
end L2
namespace Pb
open L2 PyProof.Rows
def Kt (b:Addr) (H H':Hp):Prop:=∀c o,c≠b->(∀ps,o≠ .gF ps)->H c=some o->H' c=some o
theorem Kt.of {b:Addr}{H H':Hp}(s:Same H H'):Kt b H H':=λc o _ _ e=>s c o e
theorem Kt.sb {b:Addr}{H H':Hp}(s:SB b H H'):Kt b H H':=λc o hc _ e=>s c o hc e
theorem Kt.trans {b:Addr}{H H1 H2:Hp}(x:Kt b H H1)(y:Kt b H1 H2):Kt b H H2:=λc o hc I e=>y c o hc I (x c o hc I e)
theorem Kt.tu {b:Addr}{H H':Hp}{l:List V}(k:Kt b H H')(I:H b=some (.lst l)):Tu H H':=λc xs e=>k c _ (gZ e I (by intro z;cases z)) (by intro ps z;cases z) e
theorem Kt.lst {b c:Addr}{H H':Hp}{xs:List V}(k:Kt b H H')(hc:c≠b)(e:H c=some (.lst xs)):H' c=some (.lst xs):=k c _ hc (by intro ps z;cases z) e
theorem eU.kt {b:Addr}{H H':Hp}{l vs:List V}{rs:List Ds}{fl:List (List Addr)}(h:eU H vs rs fl)(k:Kt b H H')(I:H b=some (.lst l))(J:b ∉ fl.flatten):eU H' vs rs fl:=eU.keep (k.tu I) h λc hc o e=>k c o (λz=>J (by rw[<-z];exact hc)) (by
 intro ps z;rcases eU.mu h c hc with⟨_,q⟩|⟨_,q⟩ <;> rw[e] at q <;> rw[z] at q <;> cases q) e
structure Fr (Pt Ps Pi Po:Addr):Prop where
 ts:Pt≠Ps
 ti:Pt≠Pi
 to:Pt≠Po
 si:Ps≠Pi
 so:Ps≠Po
 io:Pi≠Po
structure RW (K:W.Frag) (Pt Ps Pi Po a b:Addr) (ns:List Int) (n:Int) (H:Hp):Prop where
 g:G0 K H a b ns n
 v:eY Pt gU gW H
 s:eY Ps oj om H
 i:eY Pi ke kf H
 o:eY Po lU lV H
section
variable {K:W.Frag}{Pt Ps Pi Po a b:Addr}{ns:List Int}{n n':Int}{H H':Hp}
theorem RW.same (h:RW K Pt Ps Pi Po a b ns n H)(s:Same H H'):RW K Pt Ps Pi Po a b ns n H':=⟨h.g.go (SB.of s) (s _ _ h.g.at_) (Q1a _),h.v.same s,h.s.same s,h.i.same s,h.o.same s⟩
theorem RW.sb (h:RW K Pt Ps Pi Po a b ns n H)(s:SB b H H')(I:H' b=some (.lst [.int n']))(J:n<=n'):RW K Pt Ps Pi Po a b ns n' H':=⟨h.g.go s I J,h.v.sb h.g.at_ s,h.s.sb h.g.at_ s,h.i.sb h.g.at_ s,h.o.sb h.g.at_ s⟩
theorem RW.ft (F:Fr Pt Ps Pi Po)(h:RW K Pt Ps Pi Po a b ns n H)(x:fj b Pt H H')(I:H' b=some (.lst [.int n']))(J:n<=n')(hT:eY Pt gU gW H'):RW K Pt Ps Pi Po a b ns n' H':=
 ⟨fj.g0 x h.g h.v I J,hT,h.s.kp x h.g.at_ h.v F.ts,h.i.kp x h.g.at_ h.v F.ti,h.o.kp x h.g.at_ h.v F.to⟩
theorem _root_.L2.eY.jF {P I J c:Addr}{lp U Y:Pos}{ql aa ab:Str}{l:List V}(h:eY P lp ql H)(x:lq c I J H H')(hc:H c=some (.lst l))(h1:eY I U aa H)(h2:eY J Y ab H)(n1:I≠P)(n2:J≠P):eY P lp ql H':=by
 obtain⟨p1,e1⟩:=h1.tab;obtain⟨p2,e2⟩:=h2.tab;have k:∀d o,d≠I->d≠J->(∀xs,o≠ .lst xs)->H d=some o->H' d=some o:=λd o a b ho e=>x d o (λz=>z.elim (λz=>by rw[z,hc] at e;cases e;exact ho _ rfl) λz=>z.elim a b) e;rcases h with e|⟨d,e,f⟩
 . exact .inl (k _ _ (Ne.symm n1) (Ne.symm n2) (by intro xs z;cases z) e)
 . exact .inr ⟨d,k _ _ (Ne.symm n1) (Ne.symm n2) (by intro xs z;cases z) e,k _ _ (gZ f e1 (by intro z;cases z)) (gZ f e2 (by intro z;cases z)) (by intro xs z;cases z) f⟩
theorem lq.kt {c:Addr}(x:lq c Pt Ps H H')(h1:eY Pt gU gW H)(h2:eY Ps oj om H):Kt c H H':=λd o hc I e=>by
 obtain⟨J,U⟩:=h1.tab;obtain⟨p2,Y⟩:=h2.tab;exact x d o (λz=>z.elim hc λz=>z.elim (gZ e U (I J)) (gZ e Y (I p2))) e
theorem RW.jF (F:Fr Pt Ps Pi Po)(h:RW K Pt Ps Pi Po a b ns n H)(x:lq b Pt Ps H H')(I:H' b=some (.lst [.int n']))(U:n<=n')(hT:eY Pt gU gW H')(J:eY Ps oj om H'):RW K Pt Ps Pi Po a b ns n' H':=by
 have k:=lq.kt x h.v h.s;refine⟨⟨?_,h.g.len,I,by have:=h.g.pos;omega⟩,hT,J,h.i.jF x h.g.at_ h.v h.s F.ti F.si,h.o.jF x h.g.at_ h.v h.s F.to F.so⟩;rcases h.g.jm with⟨o,e⟩|e
 . exact .inl ⟨o,k a _ (gZ e h.g.at_ (by intro z;cases z)) (by intro ps z;cases z) e⟩
 . exact .inr e
theorem RW.ki (F:Fr Pt Ps Pi Po)(h:RW K Pt Ps Pi Po a b ns n H)(x:jX Pi H H')(hT:eY Pi ke kf H'):RW K Pt Ps Pi Po a b ns n H':=by
 obtain⟨ps,I⟩:=h.i.tab;have k:=Kn.iL x h.i;refine⟨⟨?_,h.g.len,k.lst h.g.at_,h.g.pos⟩,h.v.iL x I (Ne.symm F.ti),h.s.iL x I (Ne.symm F.si),hT,h.o.iL x I F.io⟩;rcases h.g.jm with⟨o,e⟩|e
 . exact .inl ⟨o,k a _ (by intro ps z;cases z) e⟩
 . exact .inr e
theorem RW.ko (F:Fr Pt Ps Pi Po)(h:RW K Pt Ps Pi Po a b ns n H)(x:jX Po H H')(hT:eY Po lU lV H'):RW K Pt Ps Pi Po a b ns n H':=by
 obtain⟨ps,I⟩:=h.o.tab;have k:=Kn.iL x h.o;refine⟨⟨?_,h.g.len,k.lst h.g.at_,h.g.pos⟩,h.v.iL x I (Ne.symm F.to),h.s.iL x I (Ne.symm F.so),h.i.iL x I (Ne.symm F.io),hT⟩;rcases h.g.jm with⟨o,e⟩|e
 . exact .inl ⟨o,k a _ (by intro ps z;cases z) e⟩
 . exact .inr e
end
structure Rr (key by_:Str) (fs:Fs) (ms:List Ds):Prop where
 ok:∀m∈ms,kb fs m
 kn:(ms.map λm=>keyOf m key).Nodup
 len:ms.length<=30
 kq:ms.Pairwise (iV key by_)
theorem Rr.of {key by_:Str}{fs:Fs}{room:Nat}{ps:List Key}{n:Int}{q:List Ds × Int}(h:oi fs key room ps n q)(U:ps.Nodup)(aa:ps.length<=30):Rr key by_ fs (gp key by_ q.1):=by
 have J:=iK key by_ q.1;have kn:=h.keys.nodup U;have I:((gp key by_ q.1).map λm=>keyOf m key).Nodup:=(J.map _).nodup_iff.mpr kn;refine⟨λm Y=>h.ok m (J.mem_iff.mp Y),I,?_,px (mK key by_ q.1) I⟩;have:=h.keys.length_le;rw[Q03] at this;rw[J.length_eq];omega
theorem Rr.ms {key by_:Str}{fs:Fs}{ms:List Ds}(h:Rr key by_ fs ms)(J:fs.dB<=12):km (12+1) key by_ fs ms:=
 ⟨λm I=>by
   have:=h.ok m I;have s:=this.2.2;unfold D.Sm at s;exact⟨this.1,by have:=this.2.1;omega,s.2⟩,h.kq,h.kn,by have:=h.len;omega⟩
theorem km.rs {N:Nat}{key y:Str}{fs:Fs}{ms:List Ds}(I:km (N+1) key y fs ms)(U:fs.names.length<=12):Rs (N+3) (.rows key y fs) (.lst (gh ms)) none:=by
 have Y:=I.len;refine⟨?_,?_,?_⟩
 . show eV _ _;unfold eV;exact⟨ms,rfl,λm J=>(I.ok m J).1,I.kq,I.kn⟩
 . have:=qT (l:=ms) (n:=N+1) λm J=>(I.ok m J).2.1;simp only[D.dep];omega
 . unfold D.Sm;refine⟨by rw[pO];omega,rF λm J=>?_⟩;unfold D.Sm;exact⟨by rw[<-mW,(I.ok m J).1.names];omega,(I.ok m J).2.2⟩
structure RV (b:Addr) (H:Hp) (D:Addr) (vs:List V) (ms:List Ds) (fl:List (List Addr)):Prop where
 at_:H D=some (.lst vs)
 r:eU H vs ms fl
 nb:∀c∈D::fl.flatten,c≠b
theorem RV.kt {b D:Addr}{H H':Hp}{l vs:List V}{ms:List Ds}{fl:List (List Addr)}(h:RV b H D vs ms fl)(k:Kt b H H')(I:H b=some (.lst l)):RV b H' D vs ms fl:=
 ⟨k.lst (h.nb D Q06) h.at_,h.r.kt k I λz=>h.nb b (Q0b _ z) rfl,h.nb⟩
def CS (F:Nat->List V) (n:Nat) (H:Hp) (i m:Nat) (ys:List V) (H':Hp):Prop:=m=n - i/\i<=n/\ys=F i/\(F i).length<=i/\Same H H'
theorem CS.add {F:Nat->List V}{n i:Nat}{H H2:Hp}{y:V}(I:i<n)(hl:(F i).length<=i)(s:Same H H2)(e:F (i+1)=F i++[y]):∃J,J<n - i/\CS F n H (i+1) J (F i++[y]) H2:=
 ⟨_,Q2j _ _ I,rfl,I,e.symm,by rw[e,Q05];exact Q3d hl,s⟩
theorem Ke {K:PySem.W.Frag}{a b:Addr}{xs ys:List V}{H:Hp}{S:List V->Hp->Prop}{C:(Nat->Nat->List V->Hp->Prop)->Nat->Nat->List V->V->Hp->Prop}(el:xs.length=ys.length)(ha:∀H',Same H H'->eA K H' a xs)(hb:∀H',Same H H'->eA K H' b ys)(F:Nat->List V)(aa:xs.length<=1000)
 (q:∀H',Same H H'->S (F xs.length) H') (step:∀i x y p H',Same H H'->H' p=some (.tup [x,y])->xs[i]? =some x->ys[i]? =some y->i<xs.length->(F i).length<=i->C (CS F xs.length H) i (xs.length - i) (F i) (.ref p) H') (h0:F 0=[]:=by rfl):
 ∃W:Nat->Nat->List V->Hp->Prop,(∃m,W 0 m [] H)/\∀i m zs H',W i m zs H'->((pq K a b).stop i H'/\S zs H')\/((pq K a b).go i H'/\zs.length<sizeLine/\∀x I,(pq K a b).jN i H' x I->C W i m zs x I):=by
 refine⟨CS F xs.length H,(Zr rfl ⟨Q04 _,h0.symm,by rw[h0];exact Q00 0,Same.refl _⟩),?_⟩;rintro i m zs H' ⟨rfl,hi,rfl,hl,s⟩;have U:=ha H' s;have Y:=hb H' s;by_cases J:i<xs.length
 . refine .inr ⟨⟨xs,ys,xs[i],ys[i],U,Y,Q02 J,Q02 (by omega)⟩,gz (by omega),λx I y=>?_⟩;obtain⟨p,x1,x2,hp,rfl,e1,e2,rfl⟩:=y;exact step i x1 x2 p _ (s.trans (Same.new hp)) eF (e1 _ U) (e2 _ Y) J hl
 . cases Q3e hi (Q17 J);exact .inl ⟨⟨xs,ys,U,Y,.inl (Q00 _)⟩,q _ s⟩
theorem Dl (i:Nat):(List.replicate (i+1) true).map V.bl=(List.replicate i true).map V.bl++[V.bl true]:=by
 rw[List.replicate_succ',Q0i];rfl
def Dq (n:Nat) (H:Hp) (k:Kd) (v1 v2:V):Prop:=∃I J,v1=.ref I/\v2=.ref J/\
 ((∃U p2,∃pl:List Key,H I=some (.tup [.str "refused",.ref U])/\H J=some (.tup [.str "refused",.ref p2])/\H U=some (.lst (pl.map kV))/\H p2=some (.lst (pl.map kV))/\pl.length<=101)\/
  ∃Y u2 d f1 f2,H I=some (.tup [.str "done",Y])/\H J=some (.tup [.str "done",u2])/\Own H Y d f1/\Own H u2 d f2/\eV k d/\d.dep<=n/\d.Sm)
def Dv:Sp:=λvs H Q _=>∃I p2,∃pl:List Key,vs=[.ref I,.ref p2]/\H I=some (.lst (pl.map kV))/\H p2=some (.lst (pl.map kV))/\pl.length<=101/\∀H',Same H H'->Q (.bl true) H'
def Dw (n:Nat):Sp:=λvs H Q _=>∃I v1 J k,vs=[I,v1,J]/\KA H I k/\k.W/\Dq n H k v1 J/\∀H',Same H H'->Q (.bl true) H'
variable {P:Program}{w:World}{K:W.Frag}{mg:Str->Option Value}{base:Heap}
theorem Kf:fG XQ XQ (eX (top 39)):=fW
theorem Kg (T:Tb mg)(I:Dn K mg "_law_way" rj (top 39) J U):eE P w K mg base eI (1) J U rj (Dv):=by
 refine I.F.ok Kf λvs H Q E h=>?_;obtain⟨p1,p2,pl,rfl,h1,h2,aa,q⟩:=h;refine⟨rfl,λab A outer s nd hr hu=>?_⟩
 refine⟨_,(en (eR (PW.pt (ic (hU (gN (fA iy (by rfl) T.iz boot_isinstance (a_ (pv 0) (a_ (iq (v:=.ty "list") rfl T.mM boot_list rfl) c_))))) (ib (eP jO (fA gO (by rfl) T.gB PySem.boot_len (a_ (pv 0) c_)) (fA gO (by rfl) T.gB PySem.boot_len (a_ (pv 1) c_)) (eM _))))) (eG (eJ ip)) eS)
  (eG (eJ (fA (qD rfl) (by rfl) T.q9 boot_all (a_ (lF (g:=(oP K 2 (kz (gX 0) (kz (gX 1) oO)))) (tt:=kM) (te:=(zA (gI kH (fF 0) (fF 1)) (zB (sW (λxs H Q=>∃x T t b,xs=[x,.ty T]/\iP K H x t/\W.kitOne K t (.type T)=some b/\Q (.bl b) H) (gy (fF 0) (gy (tC (.ty "bool")) iu)))))) (own:=["_law_a","_law_b"]) rfl (jb (N:=XQ) (sc:=eX (top 39))) (tZ rfl T.ui (a_ (pv 0) (a_ (pv 1) c_))) (λ_ _ _ _ _=>(i7 rfl (gQ (fQ (i:=0) (show(Xo:List Str).Nodup by decide +kernel) rfl (Or.inl rfl) (.inr rfl)) (gQ (fQ (i:=1) (show(Xo:List Str).Nodup by decide +kernel) rfl (Or.inl rfl) (.inr rfl)) i6)))) (λ_ _ _ _ _=>mC) (λ_ _ _ _ _=>(lB (iO fi (pv 0) (pv 1) (eM _)) (ku (qj (fA iy (by rfl) T.iz boot_isinstance (a_ (pv 0) (a_ (iq (v:=.ty "bool") rfl T.um boot_bool rfl) c_)))))))) c_))))),?_⟩
 ac_rfl
 refine(Zr rfl ⟨_,_,_,true,rfl,.lst h1,rfl,true,rfl,fk ?_⟩);refine(Zr rfl ⟨p1,Zr rfl ⟨.inl (eA.of h1),Zr rfl ⟨p2,Zr rfl ⟨.inl (eA.of h2),rfl,Zr rfl (kL rfl ?_)⟩⟩⟩⟩);refine(Zr rfl (Zr rfl ⟨p1,p2,rfl,⟨_,eA.of h1⟩,⟨_,eA.of h2⟩,Ke rfl (λH' s=>eA.of (s _ _ h1)) (λH' s=>eA.of (s _ _ h2)) (λi=>(List.replicate i true).map V.bl) (by rw[Q03];omega) (λH' s p hp=>⟨p,Zr rfl ⟨eA.of eF,?_⟩⟩) (λi x y p H' s hp hx hy Y hl=>?_)⟩))
 . rw[uZ];exact q _ (s.trans (Same.new hp))
 . obtain⟨z,hz,rfl⟩:=Option.map_eq_some_iff.mp (List.getElem?_map.symm.trans hx);rw[hx] at hy
   cases hy;refine⟨p,Zr rfl ⟨d_.of hp,rfl,_,Zr rfl ⟨_,Zr rfl ⟨rfl,rfl,yes (fv ?_)⟩⟩⟩⟩;refine(Zr rfl (Zr rfl ⟨by cases z <;> rfl,Zr rfl ?_⟩));rw[decide_eq_true rfl]
   cases z with
   |inl z=>exact fv (Zr rfl ⟨_,_,_,false,rfl,.int z,rfl,false,rfl,CS.add Y hl s (Dl i)⟩)
   |inr z=>exact fv (Zr rfl ⟨_,_,_,false,rfl,.str z,rfl,false,rfl,CS.add Y hl s (Dl i)⟩)
theorem Kh:fG XG XG (eX (top 50)):=fW
theorem Ki (n:Nat)(T:Tb mg)(I:Dn K mg "_law_same_end" jW (top 50) J U)(ae:Dn K mg "_law_way" rj (top 39) af ag)(ah:eE P w K mg base eI (1) af ag rj (Dv))(Y:Dn K mg "_law_alike" jW (top 38) aa ab)(ac:eE P w K mg base eI (n+1) aa ab jW (pY n)):eE P w K mg base eI (n+2) J U jW (Dw n):=by
 refine I.F.ok Kh λvs H Q E h=>?_;obtain⟨kv,v1,v2,k,rfl,hk,hW,⟨t1,t2,rfl,rfl,hE⟩,q⟩:=h;refine⟨rfl,λak A outer s nd hr hu=>?_⟩
 refine⟨_,(en (eR (eP jO (eK (pv 1) b_) (eK (pv 2) b_) (eM _)) (eG (eJ ip)) eS)
  (en (eR (eP fi (eK (pv 2) b_) fg (eM _)) (eG (eJ (eN ah hr ae (a_ (eK (pv 1) b_) (a_ (eK (pv 2) b_) c_))))) eS)
  (eG (eJ (eN ac hr Y (a_ (pv 0) (a_ (eK (pv 1) b_) (a_ (eK (pv 2) b_) c_)))))))),?_⟩
 ac_rfl
 rcases hE with⟨p1,p2,pl,h1,h2,l1,l2,ai⟩|⟨u1,u2,d,f1,f2,h1,h2,o1,o2,hF,hd,aj⟩
 . refine(Zr rfl ⟨t1,_,_,Zr rfl ⟨rfl,d_.of h1,rfl,Zr rfl ⟨t2,_,_,Zr rfl ⟨rfl,d_.of h2,rfl,rfl,Zr rfl (kL rfl ?_)⟩⟩⟩⟩);refine(Zr rfl ⟨t2,_,_,Zr rfl ⟨rfl,d_.of h2,rfl,rfl,Zr rfl ?_⟩⟩);rw[decide_eq_true rfl];refine fv ?_;exact(Zr rfl ⟨t1,_,_,Zr rfl ⟨rfl,d_.of h1,rfl,Zr rfl ⟨t2,_,_,Zr rfl ⟨rfl,d_.of h2,rfl,p1,p2,pl,rfl,l1,l2,ai,q⟩⟩⟩⟩)
 . refine(Zr rfl ⟨t1,_,_,Zr rfl ⟨rfl,d_.of h1,rfl,Zr rfl ⟨t2,_,_,Zr rfl ⟨rfl,d_.of h2,rfl,rfl,Zr rfl (kL rfl ?_)⟩⟩⟩⟩);refine(Zr rfl ⟨t2,_,_,Zr rfl ⟨rfl,d_.of h2,rfl,rfl,Zr rfl ?_⟩⟩);rw[show decide (V.str "done"=V.str "refused")=false by decide +kernel];refine fk ?_;exact(Zr rfl (Zr rfl ⟨t1,_,_,Zr rfl ⟨rfl,d_.of h1,rfl,Zr rfl ⟨t2,_,_,Zr rfl ⟨rfl,d_.of h2,rfl,kv,u1,u2,k,d,f1,f2,rfl,hk,hW,o1,o2,hF,hd,aj,q⟩⟩⟩⟩))
theorem eU.Kj {H:Hp}{ws:List V}{ms:List Ds}{fl:List (List Addr)}(h:eU H ws ms fl){i:Nat}{x:V}(I:ws[i]? =some x):∃m f,ms[i]? =some m/\f∈fl/\Own H x (.dct m) f:=by
 have hi:i<ws.length:=(List.getElem?_eq_some_iff.mp I).1;have J:=A3.at (a0:=V.non) (b0:=Ds.nil) (c0:=[]) h i hi;have ex:ws.getD i .non=x:=by rw[Q0d,I];rfl
 rw[ex] at J;obtain⟨U,Y⟩:=A3.len h;refine⟨_,_,by rw[Q0d,Q02 (by omega:i<ms.length)];rfl,?_,J⟩;rw[Q0d,Q02 (by omega:i<fl.length)];exact Q0u _
theorem fj.kt {b P:Addr}{I:Pos}{J:Str}{H H':Hp}(x:fj b P H H')(hT:eY P I J H):Kt b H H':=λc o hc U e=>by
 obtain⟨ps,Y⟩:=hT.tab;exact x c o (λz=>z.elim hc (gZ e Y (U ps))) e
theorem Own.kt {b:Addr}{H H':Hp}{l:List V}{v:V}{d:D}{fp:List Addr}(h:Own H v d fp)(k:Kt b H H')(I:H b=some (.lst l))(J:∀c∈fp,c≠b):Own H' v d fp:=h.keep (k.tu I) d λc hc o e=>k c o (J c hc) (by
 intro ps z;rcases Own.alive d h c hc with⟨_,q⟩|⟨_,q⟩ <;> rw[e] at q <;> rw[z] at q <;> cases q) e
structure LF (Pt b pv:Addr) (H0:Hp) (fs:Fs) (n:Int) (nv:V) (f7:List V) (H:Hp):Prop where
 kp:fj b Pt H0 H
 hb:H b=some (.lst [.int n])
 T:eY Pt gU gW H
 at_:H pv=some (.lst f7)
 near:∃m f,Own H nv (.dct m) f/\(∀c∈f,c≠b/\c≠pv)/\fH fs m/\iM fs m
 lv:∀u∈f7,∃L:Lo,fM H u L/\L.ok (.eZ fs)/\L.dp<=0
section
variable {Pt b pv:Addr}{H0:Hp}{fs:Fs}{n n':Int}{nv:V}{f7:List V}{H H':Hp}
theorem LF.mv (h:LF Pt b pv H0 fs n nv f7 H)(I:pv≠b)(x:fj b Pt H H')(J:H' b=some (.lst [.int n']))(hT:eY Pt gU gW H'):LF Pt b pv H0 fs n' nv f7 H':=by
 have k:=fj.kt x h.T;obtain⟨m,f,h1,h2,U⟩:=h.near;refine⟨h.kp.trans x,J,hT,k.lst I h.at_,⟨m,f,h1.kt k h.hb λc hc=>(h2 c hc).1,h2,U⟩,λu Y=>?_⟩;obtain⟨L,a,c⟩:=h.lv u Y;exact⟨L,fM.mono (k.tu h.hb) L a,c⟩
theorem LF.add (h:LF Pt b pv H0 fs n nv f7 H)(I:pv≠b)(U:H0 pv=none){u:V}{L:Lo}(Y:fM H u L)(J:L.ok (.eZ fs))(hd:L.dp<=0):LF Pt b pv H0 fs n nv (f7++[u]) (upd H pv (.lst (f7++[u]))):=by
 have tu:Tu H (upd H pv (.lst (f7++[u]))):=Tu.wr λxs z=>by rw[h.at_] at z;cases z
 obtain⟨m,f,h1,h2,h3⟩:=h.near;refine⟨λc o hc e=>by rw[eu (eL e U)];exact h.kp c o hc e,by rw[eu (Ne.symm I)];exact h.hb,h.T.wr (.inl ⟨_,h.at_⟩),eF,⟨m,f,h1.keep tu _ λc hc o e=>by rw[eu (h2 c hc).2];exact e,h2,h3⟩,λz hz=>?_⟩;rcases List.mem_append.mp hz with e|e
 . obtain⟨L,a,c⟩:=h.lv z e;exact⟨L,fM.mono tu L a,c⟩
 . rw[List.mem_singleton.mp e];exact⟨L,fM.mono tu L Y,J,hd⟩
end
def Dx (K:W.Frag) (Pt:Addr):Sp:=λvs H Q _=>∃a b ns n pk pb key by_ xs fs I wr J U,vs=[.ref a,.ref b,.ref pk,.ref I]/\G0 K H a b ns n/\eY Pt gU gW H/\jt H pk pb key by_ xs fs/\fs.dep<=2/\H I=some (.lst wr)/\eU H wr J U/\(∀c∈I::U.flatten,c≠b)/\wr.length<=60/\(∀m∈J,fH fs m/\iM fs m)/\n+20000<=1000000000000/\
 ∀lv L n' H',fj b Pt H H'->H' b=some (.lst [.int n'])->n<=n'->n'<=n+20000->eY Pt gU gW H'->ot H' lv L fs->Q lv H'
theorem Kk:fG ["_law_script","_law_at","_law_kind_here","_law_rows_here","_law_places_here","_law_near","_law_leaves","_law_k","_law_place"] XF (eX (top 51)):=fW
theorem Kl {Pt:Addr}(T:Tb mg)(U:Dn K mg "_law_look_for" lL (top 51) aa ab)(I:Dn K mg "_law_next" fo (top 27) aq ar)(J:eE P w K mg base eI (1) aq ar fo (jn K))(ac:Dn K mg "_law_places" mS (top 41) ae af)(ag:eE P w K mg base eI (4) ae af mS (pS 3))(al:Dn K mg "_law_value" hZ (top 37) am an)(ao:eE P w K mg base eI (125) am an hZ (k_ K Pt 60))(ah:Dn K mg "_law_simple" ra (top 43) ai aj)(ak:eE P w K mg base eI (47) ai aj ra (B6 K Pt))(au:Dn K mg "_law_look" k8 (top 44) av aw)(ax:eE P w K mg base eI (4) av aw k8 (pR K 2)):eE P w K mg base eI (130) aa ab lL (Dx K Pt):=by
 refine U.F.ok Kk λvs H Q E h=>?_;obtain⟨a,b,ns,n,pk,pb,key,by_,xs,fs,Dr,wr,mr,fr,rfl,g,hT,hK,br,bF,a9,aC,b4,bG,hn,q⟩:=h;refine⟨rfl,λb5 A outer s nd hr hu=>?_⟩
 refine⟨_,(en (eW 4 nd (eN ag hr ac (a_ (gc (a_ fg (a_ (eK (pv 2) b_) c_))) (a_ (gc c_) c_))))
  (en (eW 5 nd (eN ao hr al (a_ (pv 0) (a_ (pv 1) (a_ (gc (a_ fg (a_ (eK (pv 2) b_) c_))) (a_ b_ c_))))))
  (en (eW 6 nd (fY c_))
  (en (ie PassesOwn.never rfl (kE rfl T.kW (a_ b_ c_)) (fQ (i:=7) nd rfl gq) (en (eR (eP jP (fA gO (by rfl) T.gB PySem.boot_len (a_ (pv 3) c_)) b_ (eM _)) (eG (eW 5 nd (gK (pv 3) (eB fm (eN J hr I (a_ (pv 0) (a_ (pv 1) c_))) (fA gO (by rfl) T.gB PySem.boot_len (a_ (pv 3) c_)))))) eS)
  (en (eW 8 nd (gK (pv 4) (eB fm (eN J hr I (a_ (pv 0) (a_ (pv 1) c_))) (fA gO (by rfl) T.gB PySem.boot_len (a_ (pv 4) c_)))))
  (eG (kx (lE PySem.F.plainAttrs_list PySem.F.slot_list_append PySem.F.type_list_append mz (pv 6) (a_ (eN ak hr ah (a_ (pv 0) (a_ (pv 1) (a_ (pv 8) (a_ (pv 5) c_))))) c_)))))))
  (eG (eJ (eN ax hr au (a_ (pv 0) (a_ (pv 1) (a_ (pv 6) (a_ b_ c_))))))))))),?_⟩
 ac_rfl
 have hb:=g.at_;obtain⟨b6,bH,ba,bt,b7⟩:=hK.w5
 have b8:1<=(Kd.eZ fs).lf:=by
  obtain⟨k,bI,bJ⟩:=bt;exact Fs.BV bJ bI
 have b9:(fs.cB:Int)<=14400:=by
  have h1:=nS fs 1 ba br;have h2:CB 1=1200:=rfl;have h3:fs.names.length * CB 1<=12 * CB 1:=Q0z _ bH;omega
 have bK:mu (.eZ fs) 1<=60:=by have:=rz (.eZ fs) 1;simp only[Kd.dep] at this;omega
 have bu:(Kd.eZ fs).dep<=3:=by simp only[Kd.dep];omega
 refine(Zr rfl ⟨pk,_,_,Zr rfl ⟨rfl,d_.of hK.at_,rfl,gn,λt ht=>⟨Q04 _,λp0 aZ=>?_⟩⟩⟩);have t1:Same H (upd H t (.tup [.str "record",.ref pb])):=Same.new ht;have a1:=eF (H:=H) (a:=t) (o:=.tup [.str "record",.ref pb]);generalize upd H t (.tup [.str "record",.ref pb])=H1 at t1 a1 aZ;have t2:Same H1 (upd H1 p0 (.tup [])):=Same.new aZ;have a2:=eF (H:=H1) (a:=p0) (o:=.tup []);generalize upd H1 p0 (.tup [])=H2 at t2 a2;have aE:=t1.trans t2
 have bb:∀H',Same H H'->∀c,H' c=some (.tup [.str "record",.ref pb])->KA H' (.ref c) (.eZ fs):=λH' s' c hc=>by
  unfold KA;exact⟨c,pb,xs,rfl,hc,s' _ _ hK.tu,FA.mono (Tu.of s') fs hK.fa⟩
 refine⟨.ref t,p0,[],.eZ fs,rfl,bb _ aE t (t2 _ _ a1),hK.wr,bu,by decide,by decide,a2,λlp ay H3 s3 bc aQ bv aT=>?_⟩;have a3:=aE.trans s3;have az:H2 lp=none:=bc;clear a1 a2 bc ht aZ;refine(Zr rfl (Zr rfl (Zr rfl ⟨pk,_,_,Zr rfl ⟨rfl,d_.of (a3 _ _ hK.at_),rfl,gn,λt' bd=>?_⟩⟩)));have t4:Same H3 (upd H3 t' (.tup [.str "record",.ref pb])):=Same.new bd;have a4:=eF (H:=H3) (a:=t') (o:=.tup [.str "record",.ref pb]);generalize upd H3 t' (.tup [.str "record",.ref pb])=H4 at t4 a4;have ap:=a3.trans t4;have bL:kc (.eZ fs) 1<=14400:=by simp only[kc,Kd.cB];omega
 refine⟨a,b,ns,n,.ref t',.eZ fs,1,rfl,g.go (SB.of ap) (ap _ _ hb) (Q1a _),hT.same ap,bb _ ap t' a4,hK.wr,by decide,bK,by omega,λbe H5 bf a5 aF aD aL ca bM=>?_⟩;have c5:=lK ns (.eZ fs) 1 n (by decide);have ev:(val ns (.eZ fs) 1 n).1=.dct (fc ns fs 1 n).1:=by simp only[val]
 rw[ev] at aL;have cb:((Kd.eZ fs).cB:Int)<=14400:=by simp only[Kd.cB];omega
 generalize (val ns (.eZ fs) 1 n).2=n5 at *;have aK:=lJ ns fs ba 1 n (by decide);have aU:iM fs (fc ns fs 1 n).1:=iM.val hK.wr (by decide);generalize (fc ns fs 1 n).1=m5 at *;have aM:=fj.kt a5 (hT.same ap);have aJ:Kt b H H5:=(Kt.of ap).trans aM;have aV:fj b Pt H H5:=(Kp.of ap).trans a5;have bw:H5 lp=some (.lst ay):=aM.lst (λz=>by rw[z,aE _ _ hb] at az;cases az) (t4 _ _ aQ);have bx:lp≠b:=λz=>by rw[z,aE _ _ hb] at az;cases az
 have bz:∀v∈ay,jD H5 (.eZ fs) [] v:=λv hv=>jD.mono ((Tu.of t4).trans (aM.tu (ap _ _ hb))) (aT v hv);have bg:eU H5 wr mr fr:=a9.kt aJ hb λz=>aC b (Q0b _ z) rfl;have aW:=aJ.lst (aC Dr Q06) bF;have g5:G0 K H5 a b ns n5:=fj.g0 aV g hT aF (by omega);have bh:∀c∈bf,c≠b:=λc hc z=>by have:=bM c hc;rw[z,ap _ _ hb] at this;cases this
 clear a5 aM aJ aT aQ az a4 t4 a3 s3 aE t1 t2 ev bL bd;refine⟨Q04 _,λpv aG=>?_⟩;have s6:Same H5 (upd H5 pv (.lst [])):=Same.new aG;have aA:pv≠b:=Ne.symm (eL aF aG)
 have L0:LF Pt b pv H5 fs n5 be [] (upd H5 pv (.lst [])):=⟨Kp.of s6,s6 _ _ aF,aD.same s6,eF,⟨m5,bf,aL.same s6,λc hc=>⟨bh c hc,λz=>by
  obtain⟨o,e⟩:=(Own.alive _ aL c hc).ex;rw[z,aG] at e;cases e⟩,aK,aU⟩,λu hu=>nomatch hu⟩
 clear s6 aL bh aK aU;have cc:=g5.pos;refine(Zr rfl ⟨by decide,by decide,kF (n:=Int.toNat 3) (λi σ H'=>∃(x z:Option V) (nv:V) (f7:List V) (n6:Int),σ=[some (.ref a),some (.ref b),some (.ref pk),some (.ref Dr),some (.ref lp),some nv,some (.ref pv),x,z]/\LF Pt b pv H5 fs n6 nv f7 H'/\n5<=n6/\n6<=n5+5 * i/\f7.length=i) ?_ ?_ ?_⟩)
 . exact⟨_,_,be,[],n5,rfl,L0,Q1a _,by omega,rfl⟩
 . intro i σ H' hi zq;obtain⟨x,z,nv,f7,n6,rfl,X,w1,w2,aP⟩:=zq;have hi:i<3:=hi;have gg:∀{H1:Hp} {n1:Int} {aB:V} {bN:List V},LF Pt b pv H5 fs n1 aB bN H1->n5<=n1->G0 K H1 a b ns n1:=λY bO=>fj.g0 Y.kp g5 aD Y.hb bO;dsimp only[gX];refine Cj (A:=ky _ _ _) (λbi H1=>∃aB n7 y,bi=[some (.ref a),some (.ref b),some (.ref pk),some (.ref Dr),some (.ref lp),some aB,some (.ref pv),y,z]/\LF Pt b pv H5 fs n7 aB f7 H1/\n6<=n7/\n7<=n6+1) ?_ (λhB=>?_);rotate_left
   . have bA:=(fj.kt X.kp aD).lst (aC Dr Q06) aW;refine(Zr rfl ⟨Dr,Zr rfl ⟨.inl (eA.of bA),_,Zr rfl ⟨rfl,Zr rfl (fJ (λc=>?_) (λc=>hB _ _ ⟨nv,n6,Zr rfl ⟨X,Q1a _,by omega⟩⟩))⟩⟩⟩);have bB:(0:Int)<(wr.length:Int):=of_decide_eq_true c;refine(Zr rfl (Zr rfl (Zr rfl ⟨a,b,ns,n6,rfl,gg X w1,by omega,λr H1 r0 r1 bj bP=>?_⟩)));have Y:=X.mv aA (SB.ft bj) bP (X.T.sb X.hb bj);have kY:=fj.kt Y.kp aD;have aX:=kY.lst (aC Dr Q06) aW;have z0:=Q0g r (show((wr.length:Nat):Int)≠0 by omega);have z1:=Q0h r bB;obtain⟨j,hj⟩:∃j:Nat,r % ((wr.length:Nat):Int)=(j:Int):=⟨(r % ((wr.length:Nat):Int)).toNat,by omega⟩;have aH:j<wr.length:=by omega
     have bQ:eU H1 wr mr fr:=bg.kt kY aF λz=>aC b (Q0b _ z) rfl;obtain⟨m,f,hm,bR,ho⟩:=bQ.Kj (Q02 aH);have bm:=bG m (Q0p hm);refine(Zr rfl ⟨Dr,Zr rfl ⟨.inl (eA.of aX),_,Zr rfl ⟨rfl,(by show(0:Int)<_;omega),Dr,_,_,wr[j],rfl,rfl,eA.of aX,(by rw[hj];exact gY (Q02 aH)),?_⟩⟩⟩);refine hB _ _ ⟨wr[j],n6+1,Zr rfl ⟨⟨Y.kp,Y.hb,Y.T,Y.at_,⟨m,f,ho,λc hc=>?_,bm.1,bm.2⟩,Y.lv⟩,by omega,Q1a _⟩⟩;have bn:c∈fr.flatten:=List.mem_flatten.mpr ⟨f,bR,hc⟩;refine⟨aC c (Q0b _ bn),λz=>?_⟩;obtain⟨o,e⟩:=(eU.mu bg c bn).ex;rw[z,aG] at e;cases e
   intro bi H1 zq;obtain⟨aB,n7,y,rfl,Y,u1,u2⟩:=zq;refine(Zr rfl (Zr rfl (Zr rfl ⟨a,b,ns,n7,rfl,gg Y (by omega),by omega,λr H2 r0 r1 aI a6=>?_⟩)));have Z:=Y.mv aA (SB.ft aI) a6 (Y.T.sb Y.hb aI);have kZ:=fj.kt Z.kp aD;have aY:=kZ.lst bx bw;have cd:(ay.length:Int)=((Kd.eZ fs).lf:Int):=by rw[bv]
   have z0:=Q0g r (show((ay.length:Nat):Int)≠0 by omega);have z1:=Q0h r (show(0:Int)<((ay.length:Nat):Int) by omega);obtain⟨j,hj⟩:∃j:Nat,r % ((ay.length:Nat):Int)=(j:Int):=⟨(r % ((ay.length:Nat):Int)).toNat,by omega⟩;have aH:j<ay.length:=by omega
   obtain⟨tl,pp,bS,ps,kl,bT,et,ht,bo,bU,bC,bp,a7,a8⟩:=jD.mono (kZ.tu aF) (bz _ (Q0u aH));have a7:ps=bT:=by rw[a7];rfl
   subst a7;refine(Zr rfl ⟨lp,Zr rfl ⟨.inl (eA.of aY),_,Zr rfl ⟨rfl,(by show(0:Int)<_;omega),lp,_,_,V.ref tl,rfl,rfl,eA.of aY,(by rw[hj];exact gY (by rw[Q02 aH,et])),?_⟩⟩⟩);obtain⟨m,f,bV,bW,bX,bY⟩:=Z.near;obtain⟨e,hA,bZ⟩:=rH (lZ bX) a8;refine(Zr rfl ⟨.inl ⟨rfl,_,eA.of Z.at_⟩,Zr rfl (Zr rfl (Zr rfl (Zr rfl ⟨a,b,ns,n7+1,tl,pp,bS,kl,aB,ps,.dct m,f,e,rfl,gg Z (by omega),Z.T,ht,bo,bU,bC,bp,bV,λc hc=>(bW c hc).1,hA,bZ,bY ps kl e a8 hA bp,by omega,λl lk n8 H3 jF b1 x1 x2 b2 hl bD=>?_⟩)))⟩);have Z3:=Z.mv aA jF b1 b2;have bE:=(fj.kt jF Z.T).tu Z.hb _ _ bo;refine⟨pv,_,Zr rfl ⟨rfl,Z3.at_,gz (by omega),?_⟩⟩;refine⟨_,_,aB,f7++[.ref l],n8,rfl,Z3.add aA aG (L:=.leaf ps lk) (by unfold fM;exact⟨l,pp,rfl,hl,bE⟩) ⟨kl,a8,bD⟩ (Q00 _),by omega,by omega,by rw[Q05,aP];rfl⟩
 . intro σ H' zq;obtain⟨x,z,nv,f7,n6,rfl,X,w1,w2,aP⟩:=zq;have w2:n6<=n5+5 * 3:=w2;have aP:f7.length=3:=aP;have bq:(cl 2:Int)=7:=rfl;refine(Zr rfl (Zr rfl (Zr rfl ⟨a,b,ns,n6,pv,f7,.eZ fs,rfl,fj.g0 X.kp g5 aD X.hb w1,X.at_,aA,by omega,by omega,X.lv,by rw[bq];omega,λv L n7 H2 aI a6 y1 y2 hL b3 ce=>?_⟩)));rw[bq] at y2;exact q v L n7 H2 (aV.trans (X.kp.trans (SB.ft aI))) a6 (by omega) (by omega) (X.T.sb X.hb aI) ⟨hL,b3,by omega⟩
theorem swap_eq {key by_:Str}{a b:List Ds}(kn:(fC key (b++a)).Nodup):gp key by_ (a++b)=gp key by_ (b++a):=
 pz ((iK key by_ (a++b)).trans List.perm_append_comm) (mK key by_ _) kn
def Dy (n:Nat) (Po:Addr):Sp:=λvs H Q _=>∃pk pb key by_ xs fs lv L D ws ms fl w u d fp r ss,vs=[.ref pk,lv,.ref D,w,u]/\kh n H pk pb key by_ xs fs lv L D ws ms fl w d fp r ss/\jE H u r/\eY Po lU lV H/\
 ∀td H',jX Po H H'->eY Po lU lV H'->Du H' td (iY L key (fC key (ms.filter (ff L))) r ss) (gp key by_ (ss++ms.filter (ff L)))->Q (.ref td) H'
section
variable {P:Program}{w:World}{K:W.Frag}{mg:Str->Option Value}{base:Heap}
variable {Po:Addr}
theorem Km:fG XH XN (eX (top 53)):=fW
theorem Ko (n:Nat)(T:Tb mg)(ag:Dn K mg "_law_due" rm (top 53) ah ai)(I:Dn K mg "_law_true" k7 (top 45) ae af)(J:eE P w K mg base eI (5) ae af k7 (j_ 3))(U:Dn K mg "_law_sorted" pI (top 52) Y aa)(ab:eE P w K mg base eI (8) Y aa pI (rR Po lU lV)):eE P w K mg base eI (9) ah ai rm (Dy n Po):=by
 refine ag.F.ok Km λvs H Q E h=>?_;obtain⟨pk,pb,key,by_,xs,fs,lv,L,D,ws,ms,fl,w,u,d,fp,r,ss,rfl,X,hP,hT,q⟩:=h;refine⟨rfl,λaQ A outer s nd hr hu=>?_⟩
 refine⟨_,(en (eR (eP ml (pv 4) h8 (eM _)) (eG (eJ (gc (a_ fg (a_ (pv 4) c_))))) eS)
  (en (nH (i:=5) nd rfl gq (g:=(gX 0)) (tt:=(qi (tB (jw _ _ _ (gy (fF 2) (gy (fF 0) iu)))))) (te:=(fF 0)) (own:=["_law_row"]) rfl (jb (N:=XH) (sc:=eX (top 53))) (kB (pv 2)) (λ_ _ _ _ _=>(fQ (i:=0) (show(XO:List Str).Nodup by decide +kernel) rfl (Or.inl rfl) (.inr rfl))) (λ_ _ _ _ _=>(mD (hU (gN (eN J hr I (a_ (pv 2) (a_ (pv 0) c_))))))) (λ_ _ _ _ _=>(pv 0)))
  (en (nH (i:=6) nd rfl gq (g:=(gX 0)) (tt:=kM) (te:=(qC (fF 0) (gI (i9 K) (fF 1) (tC (.int 1))))) (own:=["_law_row"]) rfl (jb (N:=XH) (sc:=eX (top 53))) (kB (pv 5)) (λ_ _ _ _ _=>(fQ (i:=0) (show(XO:List Str).Nodup by decide +kernel) rfl (Or.inl rfl) (.inr rfl))) (λ_ _ _ _ _=>mC) (λ_ _ _ _ _=>(h9 hu (pv 0) (eK (pv 1) b_) (λ_ _=>rfl))))
  (en (ie PassesOwn.never rfl (kE rfl T.kW (a_ (fA gO (by rfl) T.gB PySem.boot_len (a_ (pv 3) c_)) c_)) (fQ (i:=7) nd rfl gq) (eG (eR (PW.pt (ic (eP FE (h9 hu (gK (pv 3) (pv 7)) (eK (pv 0) b_) (λ_ _=>rfl)) (pv 6) (by with_unfolding_all rfl)) (ib (hU (gN (eN J hr I (a_ (pv 1) (a_ (gK (pv 3) (pv 7)) c_)))))))) (eG (eJ (gc (a_ fg (a_ (fY (a_ (pv 7) c_)) c_))))) eS)))
  (eG (eJ (gc (a_ fg (a_ (eN ab hr U (a_ (pv 0) (a_ (eB ig (pv 5) (pv 3)) c_))) c_))))))))),?_⟩
 ac_rfl
 cases r with
 |some pl=>
  obtain⟨l,rfl,hl⟩:=hP;refine(Zr rfl ⟨rfl,Zr rfl (fv (Zr rfl ⟨gn,λt ht=>?_⟩))⟩);have s1:Same H (upd H t (.tup [.str "refused",.ref l])):=Same.new ht;exact q t _ (Kp.of s1) (hT.same s1) ⟨l,eF,s1 _ _ hl⟩
 |none=>
  have hP:u=.non:=hP;subst hP;refine(Zr rfl ⟨rfl,Zr rfl ?_⟩);rw[decide_eq_true rfl];refine fk ?_;obtain⟨aT,aU,aV,ak,aF⟩:=X.k.w5;obtain⟨D2,w2,f2,rfl,an,ax,al,aW⟩:=X.sn;have am:=(A3.len X.r1).1;have aP:=(A3.len ax).1;have aG:=X.l1;have aX:=X.l2;refine(Zr rfl ⟨D,rfl,⟨_,eA.of X.a1⟩,lW (oo (eA.of X.a1)) (λi=>fX (ff L) (ms.take i) (ws.take i)) (by omega) (λDh az=>?_) (λi x hx add skip=>?_)⟩)
  case refine_2=>
   obtain⟨m,f,hm,ho⟩:=X.r1.row hx;exact⟨rfl,Zr rfl (Zr rfl ⟨lv,x,L,.eZ fs,.dct m,f,rfl,X.l.at_,X.l.ok,ho,lZ (X.sj m (Q0p hm)),X.l.dp,Zr rfl (fJ (λc=>(Zr rfl (add _ (se am.symm hm hx c)))) (λc=>skip (p6 am.symm hm hx c)))⟩)⟩
  rw[sf am.symm];have s1:Same H (upd H Dh (.lst (fX (ff L) ms ws))):=Same.new az;have ac:=eF (H:=H) (a:=Dh) (o:=.lst (fX (ff L) ms ws));generalize upd H Dh (.lst (fX (ff L) ms ws))=H1 at s1 ac;have ao:eU H1 (fX (ff L) ms ws) (ms.filter (ff L)) (fX (ff L) ms fl):=(X.r1.sm s1).kg;have aD:=(A3.len ao).1;have aY:(ms.filter (ff L)).length<=10:=Q0e (Q16 _ _) aG;have aA:∀m∈ms.filter (ff L),fH fs m:=λm hm=>X.sj m (List.mem_filter.mp hm).1;have aH:=λaj=>X.kn aj;generalize ms.filter (ff L)=mh at *;generalize fX (ff L) ms ws=wh at *;generalize fX (ff L) ms fl=fh at *;refine(Zr rfl ⟨Dh,rfl,⟨_,eA.of ac⟩,lW (oo (eA.of ac)) (λi=>(fC key (mh.take i)).map kV) (by omega) (λDt ap=>?_) (λi x hx add skip=>?_)⟩)
  case refine_2=>
   obtain⟨m,f,hm,ho⟩:=ao.row hx;obtain⟨rr,rfl,gk⟩:=ou ho (aA m (Q0p hm)) ak;refine⟨rfl,yes (fv (Zr rfl (Zr rfl ⟨pk,_,_,Zr rfl ⟨rfl,d_.of (s1 _ _ X.k.at_),rfl,rr,Zr rfl ⟨gk _ (Same.refl _),add _ ?_⟩⟩⟩)))⟩;unfold fC;rw[take_add hm,Q0i,Q0i];rfl
  rw[aD,Q0s];have s2:=s1.trans (Same.new (o:=.lst ((fC key mh).map kV)) ap);have ar:upd H1 Dt (.lst ((fC key mh).map kV)) Dh=some (.lst wh):=by rw[eu (eL ac ap)];exact ac
  have au:=ao.sm (Same.new (o:=.lst ((fC key mh).map kV)) ap);have av:=eF (H:=H1) (a:=Dt) (o:=.lst ((fC key mh).map kV));generalize upd H1 Dt (.lst ((fC key mh).map kV))=H2 at s2 av ar au;clear ao ac az ap s1;refine(Zr rfl ⟨D2,Zr rfl ⟨.inl (eA.of (s2 _ _ an)),Zr rfl ⟨by omega,by omega,kF (n:=Int.toNat (w2.length:Int)) (λi σ H'=>H'=H2/\(∃x,σ=[some (.ref pk),some lv,some (.ref D),some (.ref D2),some .non,some (.ref Dh),some (.ref Dt),x])/\∀j m,j<i->ss[j]? =some m->g9 L key (fC key mh) m=false) ⟨rfl,⟨_,rfl⟩,λj m hj=>absurd hj (Q1l _)⟩ ?_ ?_⟩⟩⟩)
  . rintro i σ H' hi ⟨rfl,⟨_,rfl⟩,aj⟩;have hi:i<w2.length:=hi;have hx:=Q02 hi;obtain⟨m,f,hm,ho⟩:=(ax.sm s2).row hx;have aB:=Q0p hm;obtain⟨rr,ex,gk⟩:=ou ho (al m aB) ak;rw[ex] at hx ho;have aC:gv w2 (0+(i:Int))=some (.ref rr):=by rw[Int.zero_add];exact gY hx
    have out:g9 L key (fC key mh) m=true->∀p,H' p=none->∀t,upd H' p (.lst [.int (0+(i:Int))]) t=none->Q (.ref t) (upd (upd H' p (.lst [.int (0+(i:Int))])) t (.tup [.str "refused",.ref p])):=λaE p hp t ht=>by
     have s3:Same H' (upd H' p (.lst [.int (0+(i:Int))])):=Same.new hp;have s4:=s3.trans (Same.new (o:=.tup [.str "refused",.ref p]) ht);have s5:=s2.trans s4;refine q t _ (Kp.of s5) (hT.same s5) ?_;rw[Dd hm aE aj];refine⟨p,eF,?_⟩;rw[eu (eL (H:=upd H' p (.lst [.int (0+(i:Int))])) eF ht),eF,Int.zero_add];rfl
    refine(Zr rfl (Zr rfl ⟨D2,_,_,Zr rfl ⟨rfl,eA.of (s2 _ _ an),aC,Zr rfl ⟨pk,_,_,Zr rfl ⟨rfl,d_.of (s2 _ _ X.k.at_),rfl,rr,Zr rfl ⟨gk _ (Same.refl _),Zr rfl ⟨Dt,Zr rfl ⟨.inl (eA.of av),rW _,flat_keys,Zr rfl (fJ (λc=>?_) (λc=>?_))⟩⟩⟩⟩⟩⟩⟩))
    . have c:inV (kV (keyOf m key)) ((fC key mh).map kV)=true:=c;refine fv (Zr rfl ⟨g6,λp hp=>⟨gn,λt ht=>out ?_ p hp t ht⟩⟩);unfold g9;rw[c,Bool.or_true]
    . have c:inV (kV (keyOf m key)) ((fC key mh).map kV)=false:=by
       cases e:inV (kV (keyOf m key)) ((fC key mh).map kV) with
       |false=>rfl
       |true=>exact absurd e c
      refine(Zr rfl (Zr rfl (Zr rfl ⟨D2,_,_,Zr rfl ⟨rfl,eA.of (s2 _ _ an),aC,lv,.ref rr,L,.eZ fs,.dct m,f,rfl,(X.l.mono (Tu.of s2)).at_,X.l.ok,ho,lZ (al m aB),X.l.dp,?_⟩⟩)))
      cases hb:L.b (.dct m) with
      |false=>
       refine⟨false,rfl,fv (Zr rfl ⟨g6,λp hp=>⟨gn,λt ht=>out ?_ p hp t ht⟩⟩)⟩;unfold g9 lb;rw[hb];rfl
      |true=>
       refine⟨true,rfl,fk ⟨rfl,⟨_,rfl⟩,λj m' hj ay=>?_⟩⟩;by_cases e:j=i
       . rw[e,hm] at ay
         cases ay;unfold g9 lb;rw[hb,c];rfl
       . exact aj j m' (by omega) ay
  . rintro σ H' ⟨rfl,⟨_,rfl⟩,aj⟩
    have aw:∀m∈ss,g9 L key (fC key mh) m=false:=λm hm=>by
     obtain⟨j,hj,e⟩:=Q13 hm;have aI:j<Int.toNat (w2.length:Int):=by omega
     exact aj j m aI (by rw[Q02 hj,e])
    have kn:=aH aw;refine(Zr rfl (Zr rfl (Zr rfl ⟨Dh,D2,_,Zr rfl ⟨rfl,ar,s2 _ _ an,Q0k (gz (by omega)),λl hl=>?_⟩⟩)));have s3:Same H' (upd H' l (.lst (wh++w2))):=Same.new hl;have aq:=s2.trans s3;refine⟨pk,l,pb,key,by_,fs,_,mh++ss,Zr rfl ⟨aq _ _ X.k.at_,eF,eU.app (ax.sm aq) (au.sm s3),by rw[Q05];omega,hT.same aq,λm hm=>?_,ak,aF,(List.perm_append_comm.map _).nodup_iff.mpr kn,λDz vz fz H4 aJ aK _ aL aM _=>⟨gn,λt ht=>?_⟩⟩⟩
    . rcases List.mem_append.mp hm with e|e
      . exact aA m e
      . exact al m e
    have s5:Same H4 (upd H4 t (.tup [.str "done",.ref Dz])):=Same.new ht;refine q t _ (λc o hc e=>s5 _ _ (aJ c o hc (aq c o e))) (aK.same s5) ?_;rw[u_ aw,<-swap_eq kn];exact⟨Dz,vz,fz,eF,s5 _ _ aL,aM.sm s5⟩
end
end Pb
namespace L2
structure iZ (X:Cx) (e:Expr) (t:TE):Prop where
 w:PE X e t
def su:List TE->TA
 |[]=>iu
 |t::r=>gy t (su r)
inductive g7 (X:Cx):List Expr->List TE->Prop
 |nil:g7 X [] []
 |cons {e:Expr} {es:List Expr} {t:TE} {ts:List TE} (h:iZ X e t) (hs:∀es,starEach (e::es) X.env=(false,eval e X.env)::starEach es X.env) (r:g7 X es ts):g7 X (e::es) (t::ts)
section
variable {X:Cx}{e:Expr}{es:List Expr}{te:TE}{ts:List TE}{pos:Pos}
theorem g7.pa (h:g7 X es ts):PA X es (su ts):=by
 induction h with
 |nil=>exact c_
 |cons h I _ J=>exact a_ h.w J (I _)
theorem g7.lst (h:g7 X es ts):iZ X (.List es pos) (zV (su ts)):=⟨fY h.pa⟩
theorem g7.tup {I}(h:g7 X es ts):iZ X (.Tuple es I pos) (oS (su ts)):=⟨gc h.pa⟩
theorem iZ.ix {r:R2}{a b:Expr}{ta tb:TE}(I:oV X r)(J:iZ X a ta)(U:PE X b tb)(Y:qB b):iZ X (.Subscript a b pos) (gI r ta tb):=⟨kI I J.w U Y⟩
structure DA (X:Cx) (ss:List Stmt) (t:TS):Prop where
 w:iD X ss t
theorem iZ.ret (h:iZ X e te):DA X [.Return (some e) pos] (sM te):=⟨eG (eJ h.w)⟩
theorem Kq {c:Expr}{a b:List Stmt}{tc:TT}{t u:TS}(hc:PT X c tc)(I:DA X a t)(J:iD X b u):PS X (.If c a b pos) (ky tc t u):=eR hc I.w J
end
end L2
namespace Pb
open L2 PyProof.Rows
theorem oy {tA tB:TE}{D:Ends}{σ:L2.St}{H:Hp}(h:tA σ H λx H1=>tB σ H1 λy H2=>2<=sizeLine/\∀p,H2 p=none->D.rt (.ref p) (upd H2 p (.tup [x,y]))):sM (oS (gy tA (gy tB iu))) D σ H:=h
theorem p8 {K:W.Frag}{σ:L2.St}{H:Hp}{Q:VK}{tB:TE}{q3:Nat}{tI tJ:TE}{pr:Addr}{ws:List V}{L L2:List D}{i j:Nat}(h3:σ[q3]? =some (some (.ref pr)))(Y:H pr=some (.lst ws))(hL:OL H ws L)(hl:L.length<=60)
 (hI:∀(H1:Hp) (J:VK),J (.int (i:Int)) H1->tI σ H1 J) (hJ:∀(H1:Hp) (J:VK),J (.int (j:Int)) H1->tJ σ H1 J)
 (hB:∀(H1:Hp) (J:VK),Same H H1->(∀p I H',Same H1 H'->H' p=some (.lst I)->OL H' I L2->J (.ref p) H')->tB σ H1 J) (h2:L2.length<=2)
 (q:∀p fp H',Same H H'->Own H' (.ref p) (.lst (jg (L.take i++L2++L.drop j))) fp->Q (.ref p) H'):
 gI tE (gI tE (s_ (tw K) (fF q3) sX (sY tI)) tB) (s_ (tw K) (fF q3) (sY tJ) sX) σ H Q:=by
 have ah:=hL.len;refine⟨_,h3,hI _ _ (Zr rfl ⟨pr,ws,rfl,eA.of Y,λp1 ac=>?_⟩)⟩;rw[Jp];have s1:Same H (upd H p1 (.lst (ws.take i))):=Same.new ac;have g1:=eF (H:=H) (a:=p1) (o:=.lst (ws.take i));generalize upd H p1 (.lst (ws.take i))=H1 at s1 g1;refine hB H1 _ s1 λp2 I H2 s2 g2 o2=>?_;have l2:=o2.len;refine⟨p1,p2,_,Zr rfl ⟨rfl,s2 _ _ g1,g2,Q0k (gz (by rw[Q0l];omega)),λp3 ae=>?_⟩⟩;have s3:Same H2 (upd H2 p3 (.lst (ws.take i++I))):=Same.new ae;have g3:=eF (H:=H2) (a:=p3) (o:=.lst (ws.take i++I));generalize upd H2 p3 (.lst (ws.take i++I))=H3 at s3 g3;have aa:=(s1.trans s2).trans s3;refine⟨_,h3,hJ _ _ (Zr rfl ⟨pr,ws,rfl,eA.of (aa _ _ Y),λp4 af=>?_⟩)⟩;rw[Jq];have s4:Same H3 (upd H3 p4 (.lst (ws.drop j))):=Same.new af;have g4:=eF (H:=H3) (a:=p4) (o:=.lst (ws.drop j));generalize upd H3 p4 (.lst (ws.drop j))=H4 at s4 g4;refine⟨p3,p4,_,Zr rfl ⟨rfl,s4 _ _ g3,g4,Q0k (gz (by rw[Q05,Q0l,Q11];omega)),λp5 ag=>?_⟩⟩;have s5:Same H4 (upd H4 p5 (.lst (ws.take i++I++ws.drop j))):=Same.new ag;have U:=(aa.trans s4).trans s5;have ho:=((hL.same U).take i).app ((o2.same ((s3.trans s4).trans s5))) |>.app ((hL.same U).drop j);obtain⟨fp,ab⟩:=ho.lst eF;exact q p5 fp _ U ab
theorem OL.pick {H:Hp}{vs:List V}{L:List D}{z:Int}(h:OL H vs L)(h0:0<=z)(h1:z<L.length):∃v d f,gv vs z=some v/\d∈L/\Own H v d f/\d=L.getD z.toNat .non:=by
 obtain⟨j,rfl⟩:∃j:Nat,z=(j:Int):=⟨z.toNat,by omega⟩
 have:∀{vs:List V} {L:List D},OL H vs L->∀j:Nat,j<L.length->∃v d f,vs[j]? =some v/\d∈L/\Own H v d f/\d=L.getD j .non:=by
  intro vs L h
  induction h with
  |nil=>intro j I;exact absurd I (by simp)
  |@cons v d f vs L h _ J=>
   intro j I
   cases j with
   |zero=>exact⟨v,d,f,rfl,Q06,h,rfl⟩
   |succ j=>
    obtain⟨U,d',Y,a,b,c,e⟩:=J j (by simpa using I);exact⟨U,d',Y,a,Q0b _ b,c,e⟩
 obtain⟨v,d,f,a,b,c,e⟩:=this h j (by omega);exact⟨v,d,f,gY a,b,c,by rw[Q1w];exact e⟩
theorem DB:∀l:List Addr,∃b:Addr,∀c∈l,c<b
 |[]=>⟨0,λc h=>by cases h⟩
 |a::r=>by
  obtain⟨b,h⟩:=DB r;refine⟨max (a+1) b,λc hc=>?_⟩;rcases List.mem_cons.mp hc with e|e
  . rw[e];exact Q09 (Q10 _) (Q1z _ _)
  . exact Q09 (h c e) (Q2 _ _)
theorem eO.Kr {H:Hp}{kvs:List (Key × V)}{m:Ds}{fp:List Addr}{x:Str}(h:eO H kvs m fp):∃I,eO H (kK kvs (Sum.inr x)) (m.del x) I:=by
 obtain⟨b,J⟩:=DB fp;obtain⟨I,h',_⟩:=iW.del (b:=b) (x:=x) ⟨fp,h,λz=>Q0m _ (J b z)⟩;exact⟨I,h'⟩
def DC (K:W.Frag) (N:Nat):Sp:=λvs H Q _=>∃a b ns n pk pb key y xs fs I ws ms fl,vs=[.ref a,.ref b,.ref pk,.ref I]/\G0 K H a b ns n/\n<=1000000000000/\u6 H pk pb key y/\H pb=some (.tup xs)/\FA H xs fs/\(Kd.rows key y fs).W/\H I=some (.lst ws)/\eU H ws ms fl/\km (N+1) key y fs ms/\b ∉ fl.flatten/\I≠b/\
 ∀t w u d fp r H',SB b H H'->H' b=some (.lst [.int (n+1)])->H' t=some (.tup [w,u])->Own H' w d fp->Rs (N+3) (.rows key y fs) d r->(r=none->d=.lst (gh ms))->jE H' u r->(∀pl,r=some pl->pl.length<=100)->Q (.ref t) H'
variable {P:Program}{w:World}{K:W.Frag}{mg:Str->Option Value}{base:Heap}
theorem Ks:fG ["_law_script","_law_at","_law_kind_here","_law_rows_here","_law_m","_law_n","_law_row","_law_name"] XF (eX (top 48)):=fW
theorem Ku (N:Nat)(T:Tb mg)(ab:Dn K mg "_law_spoilt" lL (top 48) ac ae)(af:Dn K mg "_law_next" fo (top 27) ag ah)(ai:eE P w K mg base eI (1) ag ah fo (lM K)):eE P w K mg base eI (2) ac ae lL (DC K N):=by
 refine ab.F.ok Ks λvs H Q E h=>?_;obtain⟨a,b,ns,n,pk,pb,key,y,xs,fs,pr,ws,ms,fl,rfl,g,hn,a2,a3,a4,hW,a5,aJ,hM,a6,aU,q⟩:=h;refine⟨rfl,λbw A outer s nd hr hu=>?_⟩
 refine⟨_,(en (eW 4 nd (eN ai hr af (a_ (pv 0) (a_ (pv 1) c_))))
  (en (eR (eP fi (eB fm (pv 4) b_) b_ (eM _)) (eG (eJ (gc (a_ (pv 3) (a_ h8 c_))))) eS)
  (en (Kq (PW.pt (ic (eP fi (eB fm (eB gm (pv 4) b_) b_) b_ (eM _)) (ib (eP fi (fA gO (by rfl) T.gB PySem.boot_len (a_ (pv 3) c_)) b_ (eM _))))) (iZ.ret (g7.tup (g7.cons (iZ.ix Ac (g7.lst (g7.cons (iZ.mk h8) (λ_=>rfl) (g7.cons (iZ.mk o8) (λ_=>rfl) (g7.cons (iZ.mk fg) (λ_=>rfl) (g7.cons (g7.tup g7.nil) (λ_=>rfl) (g7.cons (iZ.mk b_) (λ_=>rfl) (g7.cons (iZ.mk ip) (λ_=>rfl) g7.nil))))))) (eB fm (eB gm (pv 4) b_) b_) (λ_ _=>rfl)) (λ_=>rfl) (g7.cons (g7.lst g7.nil) (λ_=>rfl) g7.nil)))) eS)
  (en (eW 5 nd (eB fm (eB gm (pv 4) b_) (fA gO (by rfl) T.gB PySem.boot_len (a_ (pv 3) c_))))
  (en (eW 6 nd (oU Iz (by rfl) T.uq boot_dict (a_ (gK (pv 3) (pv 5)) c_)))
  (en (eR (eP fi (eB fm (eB gm (pv 4) b_) b_) b_ (eM _)) (eG (eJ (gc (a_ (eB ig (eB ig (iS jR (pv 3) iQ (iR (pv 5))) (fY (a_ (gK (fY (a_ h8 (a_ (fY c_) (a_ fg (a_ b_ c_))))) (eB fm (eB gm (pv 4) b_) b_)) c_))) (iS jR (pv 3) (iR (eB hX (pv 5) b_)) iQ)) (a_ (fY (a_ (pv 5) c_)) c_))))) eS)
  (en (eR (eP fi (eB fm (eB gm (pv 4) b_) b_) b_ (eM _)) (eG (eJ (gc (a_ (eB ig (eB ig (iS jR (pv 3) iQ (iR (eB hX (pv 5) b_))) (fY (a_ (pv 6) c_))) (iS jR (pv 3) (iR (eB hX (pv 5) b_)) iQ)) (a_ (fY (a_ (eB hX (pv 5) b_) c_)) c_))))) eS)
  (en (eR (PW.pt (ma (eP fi (eB fm (eB gm (pv 4) b_) b_) b_ (eM _)) (nq (eP jP (pv 5) b_ (eM _))))) (eG (eJ (gc (a_ (eB ig (eB ig (iS jR (pv 3) iQ (iR (eB jv (pv 5) b_))) (fY (a_ (gK (pv 3) (pv 5)) (a_ (gK (pv 3) (eB jv (pv 5) b_)) c_)))) (iS jR (pv 3) (iR (eB hX (pv 5) b_)) iQ)) (a_ (fY (a_ (pv 5) c_)) c_))))) eS)
  (en (eW 7 nd (eK (eK (eK (pv 2) b_) (eB fm (eB gm (pv 4) b_) (fA gO (by rfl) T.gB PySem.boot_len (a_ (eK (pv 2) b_) c_)))) b_))
  (en (eR (eP fi (eB fm (eB gm (pv 4) b_) b_) b_ (eM _)) (en (kx (lE PySem.F.plainAttrs_dict PySem.F.slot_dict_pop PySem.F.type_dict_pop IB (pv 6) (a_ (pv 7) c_)))
  (eG (eJ (gc (a_ (eB ig (eB ig (iS jR (pv 3) iQ (iR (pv 5))) (fY (a_ (pv 6) c_))) (iS jR (pv 3) (iR (eB hX (pv 5) b_)) iQ)) (a_ (fY (a_ (pv 5) c_)) c_)))))) eS)
  (en (mB hu (pv 6) (pv 7) (gK (fY (a_ h8 (a_ ip c_))) (eB fm (eB gm (pv 4) b_) b_)) rfl)
  (eG (eJ (gc (a_ (eB ig (eB ig (iS jR (pv 3) iQ (iR (pv 5))) (fY (a_ (pv 6) c_))) (iS jR (pv 3) (iR (eB hX (pv 5) b_)) iQ)) (a_ (fY (a_ (pv 5) (a_ (pv 7) c_))) c_)))))))))))))))),?_⟩
 ac_rfl
 refine(Zr rfl (Zr rfl ⟨a,b,ns,n,rfl,g,hn,λH1 au a7=>?_⟩));have a8:=qR ns (n+1);generalize nx ns (n+1)=m at a8;have az:=au.tu g.at_;have aa:eU H1 ws ms fl:=eU.keep az aJ λc hc o e=>au c o (λz=>a6 (by rw[<-z];exact hc)) e;have hL:=OL.rows aa;have Y:H1 pr=some (.lst ws):=au _ _ aU a5;have aC:=az _ _ a2;have aD:=az _ _ a3;have aE:=FA.mono az fs a4;have bx:ws.length=ms.length:=(A3.len aa).1;have av:(ms.map D.dct).length<=60:=by rw[Q03];have:=hM.len;omega
 have bz:=hM.len;unfold Kd.W at hW;obtain⟨aF,bA,bB,aV,bC⟩:=hW
 have ret:∀(w u:V) (U:Hp) (d:D) (fp:List Addr) (r:Option (List Key)),Same H1 U->Own U w d fp->Rs (N+3) (.rows key y fs) d r->(r=none->d=.lst (gh ms))->jE U u r->(∀pl,r=some pl->pl.length<=100)->2<=sizeLine/\∀p,U p=none->Q (.ref p) (upd U p (.tup [w,u])):=λw u U d fp r s5 hO hR hl hP aW=>
  ⟨by decide,λp hp=>by
    have sp:Same U (upd U p (.tup [w,u])):=Same.new hp;refine q p w u d fp r _ (λc o hc e=>sp _ _ (s5 _ _ (au c o hc e))) (sp _ _ (s5 _ _ a7)) eF (hO.same sp) hR hl ?_ aW
    cases r with
    |none=>exact hP
    |some pl=>
     obtain⟨l,e,hl⟩:=hP;exact⟨l,e,sp _ _ hl⟩⟩
 clear q g au hn;refine(Zr rfl ⟨_,Zr rfl ⟨rfl,(by show(0:Int)<_;decide),rfl,Zr rfl (fJ (λc=>?_) (λc=>?_))⟩⟩)
 . refine oy (Zr rfl ?_);refine ret (.ref pr) .non H1 (.lst (gh ms)) _ none (Same.refl _) (sg Y aa) ⟨?_,?_,?_⟩ (λ_=>rfl) rfl (λpl e=>by cases e)
   . change eV _ _;unfold eV;exact⟨ms,rfl,λm hm=>(hM.ok m hm).1,hM.kq,hM.kn⟩
   . have:=qT (l:=ms) (n:=N+1) λm hm=>(hM.ok m hm).2.1;simp only[D.dep];omega
   . unfold D.Sm;refine⟨by rw[pO];omega,rF λm hm=>?_⟩;unfold D.Sm;exact⟨by rw[<-mW,(hM.ok m hm).1.names];omega,(hM.ok m hm).2.2⟩
 have Ri:∀{d:D} {pl:List Key},gL (N+2) (.rows key y fs) d pl->pl.length<=100->Rs (N+3) (.rows key y fs) d (some pl):=λh hl=>⟨h.up,by omega⟩;refine(Zr rfl ⟨_,Zr rfl ⟨rfl,⟨by decide,by decide⟩,_,Zr rfl ⟨rfl,(by show(0:Int)<6;decide),rfl,Zr rfl (fJ (λc1=>fv ?Kv) (λc1=>(Zr rfl ⟨pr,Zr rfl ⟨.inl (eA.of Y),rfl,Zr rfl (fJ (λc2=>?bad2) (λc2=>?go))⟩⟩)))⟩⟩⟩)
 case Kv|bad2=>
  refine λp1 h1=>⟨Q04 _,λp2 h2=>⟨jr (show 6<=2000 by decide),λp3 h3=>?_⟩⟩;have s1:=Same.new (o:=.dK []) h1;have s2:=Same.new (o:=.tup []) h2;have s3:=Same.new (o:=.lst [.non,.ref p1,.str "",.ref p2,.int 0,.bl true]) h3;have g1:=s3 _ _ (s2 _ _ (eF (H:=H1) (a:=p1) (o:=.dK [])));have g2:=s3 _ _ (eF (H:=upd H1 p1 (.dK [])) (a:=p2) (o:=.tup []));have g3:=eF (H:=upd (upd H1 p1 (.dK [])) p2 (.tup [])) (a:=p3) (o:=.lst [.non,.ref p1,.str "",.ref p2,.int 0,.bl true]);have ao:=(s1.trans s2).trans s3;generalize upd (upd (upd H1 p1 (.dK [])) p2 (.tup [])) p3 (.lst [.non,.ref p1,.str "",.ref p2,.int 0,.bl true])=G at g1 g2 g3 ao
  have hO:OL G [.non,.ref p1,.str "",.ref p2,.int 0,.bl true] [.non,.dct .nil,.str "",.tup .nil,.int 0,.boo true]:=by
   refine .cons (f:=[]) ?_ (.cons (f:=[p1]) ?_ (.cons (f:=[]) ?_ (.cons (f:=[]) ?_ (.cons (f:=[]) ?_ (.cons (f:=[]) ?_ .nil)))))
   . unfold Own;exact⟨rfl,rfl⟩
   . unfold Own;exact⟨p1,[],[],rfl,g1,rfl,by unfold eO;exact⟨rfl,rfl⟩⟩
   . unfold Own;exact⟨rfl,rfl⟩
   . unfold Own;exact⟨p2,[],rfl,g2,by unfold eQ;exact⟨rfl,rfl⟩⟩
   . unfold Own;exact⟨rfl,rfl⟩
   . unfold Own;exact⟨rfl,rfl⟩
  have z0:0<=m / 12 % 6/\m / 12 % 6<6:=⟨Q0g _ (by decide),Q0h _ (by decide)⟩;obtain⟨u,d,f,aw,aA,ax,_⟩:=hO.pick z0.1 z0.2;refine(Zr rfl ⟨_,Zr rfl ⟨rfl,⟨by decide,by decide⟩,_,Zr rfl ⟨rfl,(by show(0:Int)<6;decide),p3,_,_,u,rfl,rfl,eA.of g3,aw,?_⟩⟩⟩);refine⟨Q04 _,λp4 h4=>?_⟩;have s4:=Same.new (o:=.lst []) h4
  have a9:∀xs,d≠ .lst xs:=by
   intro xs z;subst z;simp at aA
  exact ret u (.ref p4) _ d f (some []) (ao.trans s4) (ax.same s4) (Ri (.rows0 a9) (by decide)) (λe=>by cases e) ⟨p4,rfl,eF⟩ (λpl e=>by cases e;decide)
 have bD:0<ws.length:=by
  rcases Nat.eq_zero_or_pos ws.length with z|z
  . exact absurd (decide_eq_true (show V.int (ws.length:Nat)=V.int 0 by rw[z];rfl)) c2
  . exact z
 obtain⟨i,ei⟩:∃i:Nat,m / 12 % (ws.length:Int)=(i:Int):=⟨(m / 12 % (ws.length:Int)).toNat,by have:=Q0g (m / 12) (show(ws.length:Int)≠0 by omega);omega⟩;have hi:i<ws.length:=by have:=Q0h (m / 12) (show(0:Int)<ws.length by omega);omega
 have ap:i<ms.length:=by omega
 have row:∀j,j<ws.length->∃rr kvs fq,ws[j]? =some (.ref rr)/\H1 rr=some (.dK kvs)/\eO H1 kvs (ms.getD j .nil) fq:=λj hj=>by
  have h:=A3.at (a0:=V.non) (b0:=Ds.nil) (c0:=[]) aa j hj;unfold Own at h;obtain⟨rr,kvs,fq,e,aB,_,aj⟩:=h;exact⟨rr,kvs,fq,by rw[<-e,Q0d,Q02 hj];rfl,aB,aj⟩
 obtain⟨rr,kvs,fq,ba,aB,aj⟩:=row i hi;have aK:gv ws (m / 12 % (ws.length:Int))=some (.ref rr):=by rw[ei];exact gY ba
 have aq:=hM.ok _ (getD_mem ap);refine(Zr rfl ⟨_,Zr rfl ⟨rfl,⟨by decide,by decide⟩,Zr rfl ⟨pr,Zr rfl ⟨.inl (eA.of Y),_,Zr rfl ⟨rfl,by omega,?_⟩⟩⟩⟩⟩);refine(Zr rfl (Zr rfl ⟨pr,_,_,Zr rfl ⟨rfl,eA.of Y,aK,rr,kvs,rfl,aB,λl hl=>?_⟩⟩));have s2:Same H1 (upd H1 l (.dK kvs)):=Same.new hl;have ar:=eF (H:=H1) (a:=l) (o:=.dK kvs);generalize upd H1 l (.dK kvs)=H2 at s2 ar;have am:=s2 _ _ Y;have aG:=hL.same s2
 have bb:∀I,Same H2 I->Own I (.ref l) (.dct (ms.getD i .nil)) (l::fq):=λI s3=>by
  unfold Own;exact⟨l,kvs,fq,rfl,s3 _ _ ar,rfl,eO.same (s2.trans s3) aj⟩
 have vI:∀(I:Hp) (J:VK),J (.int (i:Int)) I->J (.int (m / 12 % (ws.length:Int))) I:=λI J h=>by rw[ei];exact h
 have vJ:∀(I:Hp) (J:VK),J (.int ((i+1:Nat):Int)) I->J (.int (m / 12 % (ws.length:Int)+1)) I:=λI J h=>by rw[ei];exact h
 have bl:∀k,((ms.map D.dct).drop k).length<=60:=λk=>by rw[Q11,Q03];omega
 have ll:∀(j k:Nat) (L2:List D),L2.length<=2->((ms.map D.dct).take j++L2++(ms.map D.dct).drop k).length<64:=λj k L2 h2=>by
  rw[Q05,Q05,Q0l,Q11,Q03];have:=Nat.min_le_right j ms.length;have:=Nat.min_le_left j ms.length;omega
 have an:∀(w:V) (fp:List Addr) (U:Hp) (L2:List D) (j k:Nat) (pl:List Key),Same H1 U->Own U w (.lst (jg ((ms.map D.dct).take j++L2++(ms.map D.dct).drop k))) fp->L2.length<=2->gL (N+2) (.rows key y fs) (.lst (jg ((ms.map D.dct).take j++L2++(ms.map D.dct).drop k))) pl->pl.length<=100->∀ay:List V,ay=pl.map kV->∀p4,U p4=none->2<=sizeLine/\∀p,upd U p4 (.lst ay) p=none->Q (.ref p) (upd (upd U p4 (.lst ay)) p (.tup [w,.ref p4])):=λw fp U L2 j k pl s5 hO h2 bc aL ay e4 p4 h4=>by
  have s6:=Same.new (o:=.lst ay) h4;exact ret w (.ref p4) _ _ fp (some pl) (s5.trans s6) (hO.same s6) (Ri bc aL) (λe=>by cases e) ⟨p4,rfl,by rw[eF,e4]⟩ (λbE e=>by cases e;exact aL)
 refine(Zr rfl ⟨_,Zr rfl ⟨rfl,⟨by decide,by decide⟩,_,Zr rfl ⟨rfl,(by show(0:Int)<6;decide),rfl,Zr rfl (fJ (λc3=>?_) (λc3=>?_))⟩⟩⟩)
 . -- a br bu is no row
   have z0:0<=m / 420 % 4/\m / 420 % 4<4:=⟨Q0g _ (by decide),Q0h _ (by decide)⟩
   have aM:([D.non,.lst .nil,.str "row",.int 7].getD (m / 420 % 4).toNat .non)∈[D.non,.lst .nil,.str "row",.int 7]:=by
    rw[Q0d,Q02 (by show(m / 420 % 4).toNat<4;omega)];exact Q0u _
   have aX:∀m',([D.non,.lst .nil,.str "row",.int 7].getD (m / 420 % 4).toNat .non)≠ .dct m':=λm' z=>by
    rw[z] at aM;simp at aM
   refine oy (p8 (q3:=3) (i:=i) (j:=i+1) (L2:=[[D.non,.lst .nil,.str "row",.int 7].getD (m / 420 % 4).toNat .non]) rfl am aG av (λI J h=>(Zr rfl (vI I J h))) (λI J h=>(Zr rfl ⟨_,Zr rfl ⟨rfl,vJ I J h⟩⟩)) (λI J s3 k=>?_) (show 1<=2 by decide) λp fp U s5 hO=>?_)
   . refine⟨Q04 _,λq1 h1=>⟨jr (show 4<=2000 by decide),λq2 h2=>?_⟩⟩;have t1:=Same.new (o:=.lst []) h1;have t2:=Same.new (o:=.lst [.non,.ref q1,.str "row",.int 7]) h2;have g1:=t2 _ _ (eF (H:=I) (a:=q1) (o:=.lst []));have g2:=eF (H:=upd I q1 (.lst [])) (a:=q2) (o:=.lst [.non,.ref q1,.str "row",.int 7]);have aP:=t1.trans t2;generalize upd (upd I q1 (.lst [])) q2 (.lst [.non,.ref q1,.str "row",.int 7])=G at g1 g2 aP
     have hO:OL G [.non,.ref q1,.str "row",.int 7] [.non,.lst .nil,.str "row",.int 7]:=by
      refine .cons (f:=[]) ?_ (.cons (f:=[q1]) ?_ (.cons (f:=[]) ?_ (.cons (f:=[]) ?_ .nil)))
      . unfold Own;exact⟨rfl,rfl⟩
      . unfold Own;exact⟨q1,[],[],rfl,g1,rfl,by unfold eQ;exact⟨rfl,rfl⟩⟩
      . unfold Own;exact⟨rfl,rfl⟩
      . unfold Own;exact⟨rfl,rfl⟩
     obtain⟨u,d,f,aw,aA,ax,bd⟩:=hO.pick z0.1 z0.2;refine(Zr rfl ⟨_,Zr rfl ⟨rfl,⟨by decide,by decide⟩,_,Zr rfl ⟨rfl,(by show(0:Int)<4;decide),q2,_,_,u,rfl,rfl,eA.of g2,aw,g6,λq3 h3=>?_⟩⟩⟩);have t3:=Same.new (o:=.lst [u]) h3;exact k q3 [u] _ (aP.trans t3) eF (.cons (by rw[<-bd];exact ax.same t3) .nil)
   . exact(Zr rfl ⟨g6,λp4 h4=>an (.ref p) fp U _ i (i+1) [Sum.inl (i:Int)] (s2.trans s5) hO (show 1<=2 by decide) (vb hM ap (bl _) (.mY λm' e=>absurd e (aX m'))) (show 1<=100 by decide) _ (by rw[<-ei];rfl) p4 h4⟩)
 refine(Zr rfl ⟨_,Zr rfl ⟨rfl,⟨by decide,by decide⟩,_,Zr rfl ⟨rfl,(by show(0:Int)<6;decide),rfl,Zr rfl (fJ (λc4=>?_) (λc4=>?_))⟩⟩⟩)
 . -- a row twice
   refine oy (p8 (q3:=3) (i:=i+1) (j:=i+1) (L2:=[.dct (ms.getD i .nil)]) rfl am aG av (λI J h=>(Zr rfl ⟨_,Zr rfl ⟨rfl,vJ I J h⟩⟩)) (λI J h=>(Zr rfl ⟨_,Zr rfl ⟨rfl,vJ I J h⟩⟩)) (λI J s3 k=>(Zr rfl ⟨g6,λq3 h3=>?_⟩)) (show 1<=2 by decide) λp fp U s5 hO=>?_)
   . have t3:=Same.new (o:=.lst [.ref l]) h3;exact k q3 [.ref l] _ t3 eF (.cons (bb _ (s3.trans t3)) .nil)
   . exact(Zr rfl ⟨_,Zr rfl ⟨rfl,g6,λp4 h4=>an (.ref p) fp U _ (i+1) (i+1) [Sum.inl ((i+1:Nat):Int)] (s2.trans s5) hO (show 1<=2 by decide) (J9 hM ap) (show 1<=100 by decide) _ (by show [V.int (m / 12 % (ws.length:Int)+1)]=[V.int ((i+1:Nat):Int)];rw[ei];rfl) p4 h4⟩⟩)
 refine(Zr rfl ⟨_,Zr rfl ⟨rfl,⟨by decide,by decide⟩,_,Zr rfl ⟨rfl,(by show(0:Int)<6;decide),rfl,Zr rfl (fJ (λc5=>(Zr rfl ⟨_,Zr rfl ⟨rfl,Zr rfl (fJ (λc6=>?turn) (λc6=>?name1))⟩⟩)) (λc5=>fk ?name2))⟩⟩⟩)
 case turn=>
  have h0:0<i:=by
   have:=of_decide_eq_true c6;rw[ei] at this;omega
  have vK:∀(I:Hp) (J:VK),J (.int ((i - 1:Nat):Int)) I->J (.int (m / 12 % (ws.length:Int) - 1)) I:=λI J h=>by
   rw[ei,show(i:Int) - 1=((i - 1:Nat):Int) by omega];exact h
  obtain⟨r0,be,aQ,e0,bf,bg⟩:=row (i - 1) (by omega);have aY:gv ws (m / 12 % (ws.length:Int) - 1)=some (.ref r0):=by rw[ei,show(i:Int) - 1=((i - 1:Nat):Int) by omega];exact gY e0
  refine oy (p8 (q3:=3) (i:=i - 1) (j:=i+1) (L2:=[.dct (ms.getD i .nil),.dct (ms.getD (i - 1) .nil)]) rfl am aG av (λI J h=>(Zr rfl ⟨_,Zr rfl ⟨rfl,vK I J h⟩⟩)) (λI J h=>(Zr rfl ⟨_,Zr rfl ⟨rfl,vJ I J h⟩⟩)) (λI J s3 k=>(Zr rfl (Zr rfl ⟨pr,_,_,Zr rfl ⟨rfl,eA.of (s3 _ _ am),aK,Zr rfl (Zr rfl ⟨_,Zr rfl ⟨rfl,pr,_,_,Zr rfl ⟨rfl,eA.of (s3 _ _ am),aY,gn,λq3 h3=>?_⟩⟩⟩)⟩⟩))) (show 2<=2 by decide) λp fp U s5 hO=>?_)
  . have t3:=Same.new (o:=.lst [.ref rr,.ref r0]) h3;have ao:=(s2.trans s3).trans t3;refine k q3 [.ref rr,.ref r0] _ t3 eF (.cons (f:=rr::fq) ?_ (.cons (f:=r0::aQ) ?_ .nil))
    . unfold Own;exact⟨rr,kvs,fq,rfl,ao _ _ aB,rfl,eO.same ao aj⟩
    . unfold Own;exact⟨r0,be,aQ,rfl,ao _ _ bf,rfl,eO.same ao bg⟩
  . exact(Zr rfl ⟨g6,λp4 h4=>an (.ref p) fp U _ (i - 1) (i+1) [Sum.inl (i:Int)] (s2.trans s5) hO (show 2<=2 by decide) (J_ hM h0 ap) (show 1<=100 by decide) _ (by rw[<-ei];rfl) p4 h4⟩)
 case name1|name2=>
  have bh:=FA.len fs aE
  have bF:0<xs.length:=by
   obtain⟨k,e,_⟩:=aV;rw[bh];exact List.length_pos_of_mem (Fs.oh e)
  obtain⟨j,ej⟩:∃j:Nat,m / 420 % (xs.length:Int)=(j:Int):=⟨(m / 420 % (xs.length:Int)).toNat,by have:=Q0g (m / 420) (show(xs.length:Int)≠0 by omega);omega⟩;have hj:j<xs.length:=by have:=Q0h (m / 420) (show(0:Int)<xs.length by omega);omega
  obtain⟨cj,uj,x,k,bi,aH,bj,bG⟩:=FA.get fs aE (Q02 hj);have aZ:gv xs (m / 420 % (xs.length:Int))=some (.ref cj):=by rw[ej];exact gY (by rw[Q02 hj,bi])
  have aT:x∈fs.names:=Fs.oh (Fs.jU aF aH);have bm:x∈(ms.getD i .nil).names:=by rw[aq.1.names];exact aT
  refine(Zr rfl ⟨pk,_,_,Zr rfl ⟨rfl,d_.of (s2 _ _ aC),rfl,Zr rfl ⟨_,Zr rfl ⟨rfl,⟨by decide,by decide⟩,Zr rfl ⟨pk,_,_,Zr rfl ⟨rfl,d_.of (s2 _ _ aC),rfl,pb,Zr rfl ⟨.inr (d_.of (s2 _ _ aD)),_,Zr rfl ⟨rfl,by omega,pb,_,_,Zr rfl ⟨rfl,d_.of (s2 _ _ aD),aZ,cj,_,_,Zr rfl ⟨rfl,d_.of (s2 _ _ bj),rfl,?_⟩⟩⟩⟩⟩⟩⟩⟩⟩⟩);obtain⟨dv,bn,_⟩:=aq.1.get (Fs.jU aF aH);obtain⟨v0,f0,bo,_⟩:=eO.val _ aj bn;have bv:pr≠l:=eL Y hl;have S4:∀ak,Same H1 (upd H2 l (.dK ak)):=λak c o e=>by rw[eu (eL e hl)];exact s2 c o e
  have bp:∀(ak:List (Key × V)) (m2:Ds) (al:List Addr) (U:Hp),eO H1 ak m2 al->Same (upd H2 l (.dK ak)) U->Own U (.ref l) (.dct m2) (l::al):=λak m2 al U hO s5=>by
   unfold Own;exact⟨l,ak,al,rfl,s5 _ _ eF,rfl,eO.same ((S4 ak).trans s5) hO⟩
  refine(Zr rfl ⟨_,Zr rfl ⟨rfl,⟨by decide,by decide⟩,_,Zr rfl ⟨rfl,(by show(0:Int)<6;decide),rfl,Zr rfl (fJ (λc7=>?_) (λc7=>?_))⟩⟩⟩)
  . -- a field a1
    refine⟨_,rfl,.inr (.inr (.inl ⟨rfl,.inl ⟨_,ar⟩⟩)),_,rfl,l,_,Sum.inr x,v0,rfl,rfl,ar,bo,?_⟩;obtain⟨al,aI⟩:=aj.Kr (x:=x);have s4:=S4 (kK kvs (Sum.inr x));refine oy (p8 (q3:=3) (i:=i) (j:=i+1) (L2:=[.dct ((ms.getD i .nil).del x)]) rfl (s4 _ _ Y) (hL.same s4) av (λI J h=>⟨_,rfl,vI I J h⟩) (λI J h=>⟨_,rfl,_,_,rfl,rfl,vJ I J h⟩) (λI J s3 k=>⟨_,rfl,g6,λq3 h3=>?vc⟩) (show 1<=2 by decide) λp fp U s5 hO=>?fin2)
    case vc=>
     have t3:=Same.new (o:=.lst [.ref l]) h3;exact k q3 [.ref l] _ t3 eF (.cons (bp _ _ _ _ aI (s3.trans t3)) .nil)
    case fin2=>
     exact(Zr rfl ⟨g6,λp4 h4=>an (.ref p) fp U _ i (i+1) [Sum.inl (i:Int)] (s4.trans s5) hO (show 1<=2 by decide) (vb hM ap (bl _) (Kb aT)) (show 1<=100 by decide) _ (by rw[<-ei];rfl) p4 h4⟩)
  . -- a field a1 bt
    have z0:0<=m / 5040 % 2/\m / 5040 % 2<2:=⟨Q0g _ (by decide),Q0h _ (by decide)⟩
    obtain⟨u,e,aw,aA,ax⟩:∃u e,gv [V.non,.bl true] (m / 5040 % 2)=some u/\(e=D.non\/e=.boo true)/\∀H,Own H u e []:=by
     rcases(by omega:m / 5040 % 2=0\/m / 5040 % 2=1) with z|z
     . exact⟨.non,.non,by rw[z];exact gY (j:=0) rfl,.inl rfl,λH=>by unfold Own;exact⟨rfl,rfl⟩⟩
     . exact⟨.bl true,.boo true,by rw[z];exact gY (j:=1) rfl,.inr rfl,λH=>by unfold Own;exact⟨rfl,rfl⟩⟩
    refine⟨gn,λq0 h0=>(Zr rfl ⟨_,Zr rfl ⟨rfl,⟨by decide,by decide⟩,_,Zr rfl ⟨rfl,(by show(0:Int)<2;decide),q0,_,_,u,rfl,rfl,eA.of eF,aw,?_⟩⟩⟩)⟩;have bH:l≠q0:=eL ar h0;have sq:Same H2 (upd H2 q0 (.lst [.non,.bl true])):=Same.new h0;have bq:kvs.length<sizeLine:=by rw[eO.len aj,aq.1.names];exact gz (by omega)
    refine(Zr rfl (Zr rfl ⟨l,Zr rfl ⟨jx.k (k:=Sum.inr x) (sq _ _ ar) bq,?_⟩⟩));obtain⟨al,aI,_⟩:=aj.rS (ax H1) bm;have s4:Same H1 (upd (upd H2 q0 (.lst [.non,.bl true])) l (.dK (putK kvs (Sum.inr x) u))):=λc o e=>by rw[eu (eL e hl)];exact sq _ _ (s2 c o e)
    refine oy (p8 (q3:=3) (i:=i) (j:=i+1) (L2:=[.dct ((ms.getD i .nil).upd x e)]) rfl (s4 _ _ Y) (hL.same s4) av (λI J h=>⟨_,rfl,vI I J h⟩) (λI J h=>⟨_,rfl,_,_,rfl,rfl,vJ I J h⟩) (λI J s3 k=>⟨_,rfl,g6,λq3 h3=>?vc⟩) (show 1<=2 by decide) λp fp U s5 hO=>?fin2)
    case vc=>
     have t3:=Same.new (o:=.lst [.ref l]) h3;refine k q3 [.ref l] _ t3 eF (.cons (f:=l::al) ?_ .nil);unfold Own;exact⟨l,_,al,rfl,t3 _ _ (s3 _ _ eF),rfl,eO.same ((s4.trans s3).trans t3) aI⟩
    case fin2=>
     exact(Zr rfl (Zr rfl ⟨gn,λp4 h4=>an (.ref p) fp U _ i (i+1) [Sum.inl (i:Int),Sum.inr x] (s4.trans s5) hO (show 1<=2 by decide) (vb hM ap (bl _) (Kc aA aF aH aq.1 aq.2.1 aq.2.2)) (show 2<=100 by decide) _ (by rw[<-ei];rfl) p4 h4⟩))
theorem Own.kn {H H':Hp}{v:V}{d:D}{fp:List Addr}(h:Own H v d fp)(k:Kn H H'):Own H' v d fp:=h.keep k.tu d λc hc o e=>k c o (by
 intro ps z;rcases Own.alive d h c hc with⟨_,q⟩|⟨_,q⟩ <;> rw[e] at q <;> rw[z] at q <;> cases q) e
theorem jE.kn {H H':Hp}{u:V}{r:Option (List Key)}(h:jE H u r)(k:Kn H H'):jE H' u r:=by
 cases r with
 |none=>exact h
 |some pl=>
  obtain⟨l,e,hl⟩:=h;exact⟨l,e,k.lst hl⟩
section
variable {key by_:Str}{fs:Fs}
theorem Rr.kg {ms:List Ds}{p:Ds->Bool}(h:Rr key by_ fs ms):Rr key by_ fs (ms.filter p):=
 ⟨λm I=>h.ok m (List.mem_filter.mp I).1,h.kn.sublist (List.filter_sublist.map _),Q0e (Q16 _ _) h.len,h.kq.sublist Q3r⟩
theorem Kw {l:List Ds}(Y:∀m∈l,kb fs m)(kn:(fC key l).Nodup)(U:l.length<=30)(hd:fs.dB<=12):km (12+1) key by_ fs (gp key by_ l):=by
 have J:=iK key by_ l;have I:((gp key by_ l).map λm=>keyOf m key).Nodup:=(J.map _).nodup_iff.mpr kn;refine⟨λm hm=>?_,px (mK key by_ l) I,I,by rw[J.length_eq];exact U⟩;have:=Y m (J.mem_iff.mp hm);have s:=this.2.2;unfold D.Sm at s;exact⟨this.1,by have:=this.2.1;omega,s.2⟩
theorem Rr.le {ms:List Ds}(h:Rr key by_ fs ms):ms.Pairwise (lI key by_):=h.kq.imp λh=>A2 h
theorem Kx {ss I:List Ds}{p:Ds->Bool}(h:Rr key by_ fs ss)(h1:∀m∈ss,p m=true)(h2:∀m∈I,p m=false):(gp key by_ (I++ss)).filter p=ss:=by
 have e:(I++ss).filter p=ss:=by
  rw[Q2k,List.filter_eq_self.mpr h1,List.filter_eq_nil_iff.mpr (λm J=>by rw[h2 m J];decide),Q3g]
 have U:((gp key by_ (I++ss)).filter p).Perm ss:=by
  have:=(iK key by_ (I++ss)).filter p
  rwa [e] at this
 have a:=pz U ((mK key by_ (I++ss)).sublist Q3r) h.kn;have b:=pz (List.Perm.refl ss) h.le h.kn;exact a.trans b.symm
end
theorem Ky {L:Lo}{key:Str}{tk:List Key}{r:Option (List Key)}{ss:List Ds}(h:iY L key tk r ss=none):r=none/\∀m∈ss,g9 L key tk m=false:=by
 cases r with
 |some pl=>cases h
 |none=>
  refine⟨rfl,λm I=>?_⟩;unfold iY at h;dsimp only at h;have h:=List.findIdx?_eq_none_iff.mp (Option.map_eq_none_iff.mp h) m I;exact h
theorem Kz {L:Lo}{key:Str}{tk:List Key}{r:Option (List Key)}{ss:List Ds}(I:∀pl,r=some pl->pl.length<=100):∀pl,iY L key tk r ss=some pl->pl.length<=101:=λpl h=>by
 cases r with
 |some p=>
  cases h;exact Q3c (I _ rfl)
 |none=>
  unfold iY at h;dsimp only at h;obtain⟨i,_,rfl⟩:=Option.map_eq_some_iff.mp h;exact(by decide:1<=101)
theorem vd {H:Hp}{I J:Addr}{r:Option (List Key)}{ms:List Ds}{key by_:Str}{fs:Fs}(h1:Du H I r ms)(h2:Du H J r ms)(hr:r=none->Rs 15 (.rows key by_ fs) (.lst (gh ms)) none)(hl:∀pl,r=some pl->pl.length<=101):Dq 15 H (.rows key by_ fs) (.ref I) (.ref J):=by
 cases r with
 |none=>
  obtain⟨D,vs,fl,U,Y,a3⟩:=h1;obtain⟨D',aa,ab,b1,b2,b3⟩:=h2;have rs:=hr rfl;exact⟨I,J,rfl,rfl,.inr ⟨.ref D,.ref D',_,_,_,U,b1,sg Y a3,sg b2 b3,rs.1,rs.2.1,rs.2.2⟩⟩
 |some pl=>
  obtain⟨p,U,Y⟩:=h1;obtain⟨p',b1,b2⟩:=h2;exact⟨I,J,rfl,rfl,.inl ⟨p,p',pl,U,b1,Y,b2,hl pl rfl⟩⟩
noncomputable def i2 (L:Lo) (key:Str) (tk:List Key) (m:Ds):Bool:=lb L m && !inV (kV (keyOf m key)) (tk.map kV)
theorem KC {L:Lo}{key:Str}{tk:List Key}{m:Ds}(h:i2 L key tk m=true):g9 L key tk m=false:=by
 unfold i2 at h;obtain⟨h1,h2⟩:=Bool.and_eq_true_iff.mp h;unfold g9;rw[h1]
 cases e:inV (kV (keyOf m key)) (tk.map kV) with
 |false=>rfl
 |true=>rw[e] at h2;cases h2
structure RS (K:W.Frag) (Pt Ps Pi Po a b:Addr) (ns:List Int) (n:Int) (C v dx pk pb:Addr) (key by_:Str) (xs:List V) (fs:Fs) (lv:V) (L:Lo) (D1:Addr) (v1:List V) (ms1:List Ds) (f1:List (List Addr)) (De:Addr) (ve:List V) (me:List Ds) (fe:List (List Addr)) (wS uS:V) (d:Pb.D) (fp:List Addr) (r:Option (List Key)) (H:Hp):Prop where
 w:RW K Pt Ps Pi Po a b ns n H
 k:jt H pk pb key by_ xs fs
 l:ot H lv L fs
 v:sd H C v dx lv
 a1:H D1=some (.lst v1)
 r1:eU H v1 ms1 f1
 ae:H De=some (.lst ve)
 re:eU H ve me fe
 o:Own H wS d fp
 p:jE H uS r
section
variable {K:W.Frag}{Pt Ps Pi Po a b:Addr}{ns:List Int}{n:Int}{C v dx pk pb:Addr}{key by_:Str}{xs:List V}{fs:Fs}{lv:V}{L:Lo}{D1:Addr}{v1:List V}{ms1:List Ds}{f1:List (List Addr)}{De:Addr}{ve:List V}{me:List Ds}{fe:List (List Addr)}{w u:V}{d:Pb.D}{fp:List Addr}{r:Option (List Key)}{H H':Hp}
theorem RS.mv (h:RS K Pt Ps Pi Po a b ns n C v dx pk pb key by_ xs fs lv L D1 v1 ms1 f1 De ve me fe w u d fp r H)(k:Kn H H')(I:RW K Pt Ps Pi Po a b ns n H'):RS K Pt Ps Pi Po a b ns n C v dx pk pb key by_ xs fs lv L D1 v1 ms1 f1 De ve me fe w u d fp r H':=
 ⟨I,h.k.mono k.tu,h.l.mono k.tu,k _ _ (by intro ps z;cases z) h.v,k.lst h.a1,h.r1.kn k,k.lst h.ae,h.re.kn k,h.o.kn k,h.p.kn k⟩
theorem RS.same (h:RS K Pt Ps Pi Po a b ns n C v dx pk pb key by_ xs fs lv L D1 v1 ms1 f1 De ve me fe w u d fp r H)(s:Same H H'):RS K Pt Ps Pi Po a b ns n C v dx pk pb key by_ xs fs lv L D1 v1 ms1 f1 De ve me fe w u d fp r H':=h.mv (Kn.of s) (h.w.same s)
theorem RS.ki (h:RS K Pt Ps Pi Po a b ns n C v dx pk pb key by_ xs fs lv L D1 v1 ms1 f1 De ve me fe w u d fp r H)(F:Fr Pt Ps Pi Po)(x:jX Pi H H')(hT:eY Pi ke kf H'):RS K Pt Ps Pi Po a b ns n C v dx pk pb key by_ xs fs lv L D1 v1 ms1 f1 De ve me fe w u d fp r H':=h.mv (Kn.iL x h.w.i) (h.w.ki F x hT)
theorem RS.ko (h:RS K Pt Ps Pi Po a b ns n C v dx pk pb key by_ xs fs lv L D1 v1 ms1 f1 De ve me fe w u d fp r H)(F:Fr Pt Ps Pi Po)(x:jX Po H H')(hT:eY Po lU lV H'):RS K Pt Ps Pi Po a b ns n C v dx pk pb key by_ xs fs lv L D1 v1 ms1 f1 De ve me fe w u d fp r H':=h.mv (Kn.iL x h.w.o) (h.w.ko F x hT)
theorem RS.q (h:RS K Pt Ps Pi Po a b ns n C v dx pk pb key by_ xs fs lv L D1 v1 ms1 f1 De ve me fe w u d fp r H){D:Addr}{ws:List V}{ms:List Ds}{fl:List (List Addr)}{ss:List Ds}(I:H D=some (.lst ws))(J:eU H ws ms fl)(U:ms.length<=10)(f1:∀m∈ms,fH fs m)(kn:(fC key ms).Nodup)(rs:Rs 15 (.rows key by_ fs) d r)(Y:r=none->d=.lst (gh ss))(l2:ss.length<=5):kh 15 H pk pb key by_ xs fs lv L D ws ms fl w d fp r ss:=
 ⟨h.k,h.l,I,J,U,f1,kn,h.o,rs,Y,l2⟩
end
def DE (K:W.Frag) (Pt Ps Pi Po:Addr):Sp:=λvs H Q _=>∃a b ns n,vs=[.ref a,.ref b]/\RW K Pt Ps Pi Po a b ns n H/\n<=100000000000/\∀n' H',RW K Pt Ps Pi Po a b ns n' H'->n'<=n+10000000->Q (.bl true) H'
section
variable {P:Program}{w:World}{K:W.Frag}{mg:Str->Option Value}{base:Heap}
variable {C Pt Ps Pi Po:Addr}
theorem KD:fG XA XD (eX (top 54)):=fW
theorem iH {A B:TS}{D:Ends}{σ:L2.St}{H:Hp}(k:∀N:L2.St->Hp->Prop,(∀σ H,B D σ H->N σ H)->A { D with nx:=N } σ H):qo A B D σ H:=k (B D) λ_ _ h=>h
theorem KG {A B:TS}{D:Ends}{σ:L2.St}{H:Hp}(Pv:L2.St->Hp->Prop)(J:∀I H',Pv I H'->B D I H')(U:∀N:L2.St->Hp->Prop,(∀I H',Pv I H'->N I H')->A { D with nx:=N } σ H):qo A B D σ H:=U _ J
theorem KH (F:Fr Pt Ps Pi Po)(T:Tb mg)(OF:pZ K mg C ac bT)(aL:Dn K mg "_law_round" fo (top 54) aM aP)(aT:Dn K mg "_law_next" fo (top 27) aU aV)(aW:eE P w K mg base eI (1) aU aV fo (jn K))(aj:Dn K mg "_law_rows_kind" jc (top 33) ak al)(am:eE P w K mg base eI (7) ak al jc (Bm K 1))(aX:Dn K mg "_law_pool" rb (top 46) aY aZ)(a2:eE P w K mg base eI (130) aY aZ rb (CL K Pt 60))(af:Dn K mg "_law_some" pJ (top 47) a3 a4)(ag:eE P w K mg base eI (130) a3 a4 pJ (Ce K Pt Ps 60))(ar:Dn K mg "_law_look_for" lL (top 51) au av)(aw:eE P w K mg base eI (130) au av lL (Dx K Pt))(ah:Dn K mg "_law_true" k7 (top 45) a5 a6)(ai:eE P w K mg base eI (5) a5 a6 k7 (j_ 3))(aG:Dn K mg "_law_spoilt" lL (top 48) aH aI)(aJ:eE P w K mg base eI (2) aH aI lL (DC K 12))(an:Dm K "__init__" "Keep.__init__" rd (gj 25 0) ac ao)(ap:eE P w K mg base eI (1) ac ao rd (C6 C))(az:Dn K mg "_law_due" rm (top 53) bb bc)(aA:eE P w K mg base eI (9) bb bc rm (Dy 15 Po))(I:Dn K mg "_law_same_end" jW (top 50) ax ay)(J:eE P w K mg base eI (17) ax ay jW (Dw 15))(aa:Dn K mg "_law_put" rh (top 49) bd be)(ab:eE P w K mg base eI (130) bd be rh (Di 15 Pi C)):eE P w K mg base eI (132) aM aP fo (DE K Pt Ps Pi Po):=by
 have bG:=OF.JQ;have bS:=OF.m;refine aL.F.ok KD λvs H Q E h=>?_;obtain⟨a,b,ns,n,rfl,W,hn,q⟩:=h;refine⟨rfl,λd8 A outer s nd hr hu=>?_⟩
 refine⟨_,(en (eW 2 nd (eN aW hr aT (a_ (pv 0) (a_ (pv 1) c_))))
  (en (ur 3 nd (eN am hr aj (a_ (pv 0) (a_ (pv 1) (a_ (eB hX b_ (eB fm (eB gm (pv 2) b_) b_)) (a_ b_ c_))))))
  (en (eW 4 nd (eN a2 hr aX (a_ (pv 0) (a_ (pv 1) (a_ (pv 3) (a_ (eB hX b_ (eB fm (pv 2) b_)) c_))))))
  (en (eW 5 nd (eN ag hr af (a_ (pv 0) (a_ (pv 1) (a_ (pv 3) (a_ (pv 4) (a_ b_ c_)))))))
  (en (eW 6 nd (eN ag hr af (a_ (pv 0) (a_ (pv 1) (a_ (pv 3) (a_ (pv 4) (a_ b_ c_)))))))
  (en (eW 7 nd (eN ag hr af (a_ (pv 0) (a_ (pv 1) (a_ (pv 3) (a_ (pv 4) (a_ b_ c_)))))))
  (en (ur 8 nd (eN aw hr ar (a_ (pv 0) (a_ (pv 1) (a_ (pv 3) (a_ (eB ig (eB ig (pv 5) (pv 6)) (pv 7)) c_))))))
  (en (eR (eP fi (eB fm (eB gm (pv 2) b_) b_) b_ (eM _)) (eG (nH (i:=7) nd rfl gq (g:=(gX 0)) (tt:=(tB (jw _ _ _ (gy (fF 9) (gy (fF 0) iu))))) (te:=(fF 0)) (own:=["_law_row"]) rfl (jb (N:=XA) (sc:=eX (top 54))) (kB (pv 7)) (λ_ _ _ _ _=>(fQ (i:=0) (show(XB:List Str).Nodup by decide +kernel) rfl (Or.inl rfl) (.inr rfl))) (λ_ _ _ _ _=>(mD (gN (eN ai hr ah (a_ (pv 9) (a_ (pv 0) c_)))))) (λ_ _ _ _ _=>(pv 0)))) eS)
  (en (ur 9 nd (lF (g:=(gX 0)) (tt:=(qi (tB (jw _ _ _ (gy (fF 9) (gy (fF 0) iu)))))) (te:=(qC (fF 0) (gI (i9 K) (fF 4) (tC (.int 1))))) (own:=["_law_row"]) rfl (jb (N:=XA) (sc:=eX (top 54))) (kB (pv 5)) (λ_ _ _ _ _=>(fQ (i:=0) (show(XB:List Str).Nodup by decide +kernel) rfl (Or.inl rfl) (.inr rfl))) (λ_ _ _ _ _=>(mD (hU (gN (eN ai hr ah (a_ (pv 9) (a_ (pv 0) c_))))))) (λ_ _ _ _ _=>(h9 hu (pv 0) (eK (pv 4) b_) (λ_ _=>rfl)))))
  (en (nH (i:=10) nd rfl gq (g:=(gX 0)) (tt:=(zy (tB (jw _ _ _ (gy (fF 9) (gy (fF 0) iu)))) (lD (gI (tz K true) (qC (fF 0) (gI (i9 K) (fF 4) (tC (.int 1)))) (fF 10))))) (te:=(fF 0)) (own:=["_law_row"]) rfl (jb (N:=XA) (sc:=eX (top 54))) (kB (pv 6)) (λ_ _ _ _ _=>(fQ (i:=0) (show(XB:List Str).Nodup by decide +kernel) rfl (Or.inl rfl) (.inr rfl))) (λ_ _ _ _ _=>(mD (PW.pt (ma (gN (eN ai hr ah (a_ (pv 9) (a_ (pv 0) c_)))) (nq (eP Ae (h9 hu (pv 0) (eK (pv 4) b_) (λ_ _=>rfl)) (pv 10) (by with_unfolding_all rfl))))))) (λ_ _ _ _ _=>(pv 0)))
  (en (qr (eN aJ hr aG (a_ (pv 0) (a_ (pv 1) (a_ (pv 3) (a_ (pv 7) c_))))) (i7 rfl (gQ (fQ (i:=11) nd rfl gq) (gQ (fQ (i:=12) nd rfl gq) i6))))
  (en (eW 13 nd (Fm bG ap (hr.mono (by decide)) rfl bS an.b .nil nG (a_ (pv 8) c_)))
  (en (eW 14 nd (eN aA hr az (a_ (pv 3) (a_ (pv 8) (a_ (pv 5) (a_ (pv 11) (a_ (pv 12) c_)))))))
  (en (eR (hU (gN (eN J hr I (a_ (pv 3) (a_ (eN ab hr aa (a_ (pv 13) (a_ (pv 3) (a_ (pv 5) (a_ (pv 11) c_))))) (a_ (pv 14) c_)))))) (eG (eJ ip)) eS)
  (en (eW 15 nd (eN ab hr aa (a_ (pv 13) (a_ (pv 3) (a_ (pv 5) (a_ (pv 10) c_))))))
  (en (eR (eP jO (eK (pv 15) b_) fg (eM _)) (eG (eJ ip)) eS)
  (en (eR (hU (gN (eN J hr I (a_ (pv 3) (a_ (eN ab hr aa (a_ (pv 13) (a_ (pv 3) (a_ (eK (pv 15) b_) (a_ (pv 11) c_))))) (a_ (pv 14) c_)))))) (eG (eJ ip)) eS)
  (en (eW 16 nd (eN aA hr az (a_ (pv 3) (a_ (pv 8) (a_ (fY c_) (a_ (pv 11) (a_ (pv 12) c_)))))))
  (eG (eJ (eN J hr I (a_ (pv 3) (a_ (eN ab hr aa (a_ (pv 13) (a_ (pv 3) (a_ (fY c_) (a_ (pv 11) c_))))) (a_ (pv 16) c_)))))))))))))))))))))))),?_⟩
 ac_rfl
 refine iH λN hN=>?_;refine(Zr rfl (Zr rfl ⟨a,b,ns,n,rfl,W.g,by omega,λm H1 m0 m1 cG cH=>hN _ _ (iH λN hN=>?_)⟩));have W1:=W.sb cG cH (by omega);have d6:=W.g.pos;clear cG cH W;obtain⟨wd,cI,cJ,dN⟩:∃wd:Nat,1+m / 5 % 4=(wd:Int)/\1<=wd/\wd<=4:=⟨(1+m / 5 % 4).toNat,by omega,by omega,by omega⟩;have dO:(ck 1:Int)<=12:=by decide
 have cF:(wd:Int) * ((ck 1:Int)+1)<=4 * 13:=Q3s (by omega) (by omega) (by omega) (by omega);refine(Zr rfl (Zr rfl (Zr rfl ⟨_,Zr rfl ⟨rfl,⟨by decide,by decide⟩,_,Zr rfl ⟨rfl,(by show(0:Int)<4;decide),_,Zr rfl ⟨rfl,?_⟩⟩⟩⟩)));dsimp only[iu];rw[cI];refine⟨a,b,ns,n+1,wd,rfl,cJ,by omega,W1.g,by omega,λv0 key by_ fs n2 H3 sb cK l1 l2 hk cL hW _=>hN _ _ (iH λN hN=>?_)⟩;unfold KA at hk;obtain⟨pk,pb,xs,rfl,cM,cN,cO⟩:=hk;simp only[Kd.dep] at cL;have bU:fs.dep<=2:=by omega
 have W3:=W1.sb sb cK l1;have dP:n2<=n+200:=by omega
 clear sb cK l1 l2 cL W1 cI cF dO cJ dN;have hK:jt H3 pk pb key by_ xs fs:=⟨cM,cN,cO,hW⟩;clear cM cN cO;obtain⟨d9,ce,dQ,bV,ea⟩:=hK.w5;have cf:fs.dB<=12:=by have:=pA fs;omega
 have dR:(fs.cB:Int)<=14400:=by
  have h1:=nS fs 1 dQ bU;have h2:CB 1=1200:=rfl;have h3:fs.names.length * CB 1<=12 * CB 1:=Q0z _ ce;omega
 have bH:mu (.eZ fs) 2<=60:=by have:=rz (.eZ fs) 2;simp only[Kd.dep] at this;omega
 obtain⟨mn,cP,eb⟩:∃mn:Nat,1+m % 5=(mn:Int)/\mn<=5:=⟨(1+m % 5).toNat,by omega,by omega⟩;refine(Zr rfl (Zr rfl (Zr rfl (Zr rfl ⟨_,Zr rfl ⟨rfl,(by show(0:Int)<5;decide),_,Zr rfl ⟨rfl,?_⟩⟩⟩))));dsimp only[iu];rw[cP];refine⟨a,b,ns,n2,pk,pb,xs,key,by_,fs,mn,rfl,W3.g,W3.v,hK.at_,hK.tu,hK.fa,hW,by omega,by omega,by decide,λDp ps n3 H4 cg cQ w1 w2 cR bI aB aC bm dG ci=>hN _ _ (iH λN hN=>?_)⟩;have bn:=λp hp=>(ci p hp).1;have W4:=W3.ft F cg cQ w1 cR;replace hK:=hK.mono (cg.tu W3.g.at_ W3.v);clear cg cQ cR bI W3 cP;have h5:ps.length<=5:=by omega
 have dH:(ps.length:Int) * ((fs.cB:Int)+1)<=5 * 14401:=Q3s (by omega) (by omega) (by omega) (by omega)
 have so:∀n,oi fs key 2 ps n (g8 ns key by_ fs 2 ps n):=λn=>by
  have:=uQ (ns:=ns) (n:=n) (room:=2) (by_:=by_) hW (by decide) bn ps.length
  rwa [Q0s] at this
 have sh:∀n,∀m∈gp key by_ (g8 ns key by_ fs 2 ps n).1,iM fs m:=λn m hm=>by
  have:=CJ (ns:=ns) (n:=n) (room:=2) (by_:=by_) hW (by decide) (λp hp=>(ci p hp).2) ps.length m;rw[Q0s] at this;exact this ((iK key by_ _).mem_iff.mp hm)
 have rr:∀n,Rr key by_ fs (gp key by_ (g8 ns key by_ fs 2 ps n).1):=λn=>Rr.of (so n) bm (by omega)
 have r5:∀n,(gp key by_ (g8 ns key by_ fs 2 ps n).1).length<=5:=λn=>by
  have:=(so n).keys.length_le;rw[Q03] at this;rw[(iK key by_ _).length_eq];omega
 refine(Zr rfl (Zr rfl (Zr rfl (Zr rfl ⟨a,b,ns,n3,pk,pb,xs,key,by_,fs,Dp,ps,2,rfl,W4.g,W4.v,W4.s,F.ts,hK.at_,hK.tu,hK.fa,hW,aC,aB,by omega,bn,bm,by decide,bH,by omega,λD1 v1 f1 H5 cj cS cT cU cV cW cX=>hN _ _ (iH λN hN=>?_)⟩))));have lo1:=(so n3).lo;have dS:=(so n3).hi;have cm:=lq.kt cj W4.v W4.s;have W5:=W4.jF F cj cS lo1 cT cU;have V1:RV b H5 D1 v1 (gp key by_ (g8 ns key by_ fs 2 ps n3).1) f1:=⟨cV,cW,λc hc z=>by have:=cX c hc;rw[z,W4.g.at_] at this;cases this⟩;replace hK:=hK.mono (cm.tu W4.g.at_);replace aC:=cm.lst aB aC;have R1:=rr n3;have S1:=sh n3;have L1:=r5 n3;clear cj cS cT cU cV cW cX W4 cm;generalize g8 ns key by_ fs 2 ps n3=q1 at *;generalize gp key by_ q1.1=ms1 at *;refine(Zr rfl (Zr rfl (Zr rfl (Zr rfl ⟨a,b,ns,q1.2,pk,pb,xs,key,by_,fs,Dp,ps,2,rfl,W5.g,W5.v,W5.s,F.ts,hK.at_,hK.tu,hK.fa,hW,aC,aB,by omega,bn,bm,by decide,bH,by omega,λD2 v2 f2 H6 cn cY cZ c1 c2 c3 c4=>hN _ _ (iH λN hN=>?_)⟩))));have c5:=(so q1.2).lo;have dU:=(so q1.2).hi;have bJ:=lq.kt cn W5.v W5.s;have W6:=W5.jF F cn cY c5 cZ c1;replace V1:=V1.kt bJ W5.g.at_;have V2:RV b H6 D2 v2 (gp key by_ (g8 ns key by_ fs 2 ps q1.2).1) f2:=⟨c2,c3,λc hc z=>by have:=c4 c hc;rw[z,W5.g.at_] at this;cases this⟩;replace hK:=hK.mono (bJ.tu W5.g.at_);replace aC:=bJ.lst aB aC;have R2:=rr q1.2;have S2:=sh q1.2;have c6:=r5 q1.2;clear cn cY cZ c1 c2 c3 c4 W5 bJ;generalize g8 ns key by_ fs 2 ps q1.2=q2 at *;generalize gp key by_ q2.1=aq at *;refine(Zr rfl (Zr rfl (Zr rfl (Zr rfl ⟨a,b,ns,q2.2,pk,pb,xs,key,by_,fs,Dp,ps,2,rfl,W6.g,W6.v,W6.s,F.ts,hK.at_,hK.tu,hK.fa,hW,aC,aB,by omega,bn,bm,by decide,bH,by omega,λD3 v3 f3 H7 co a7 c7 c8 c9 da db=>hN _ _ (iH λN hN=>?_)⟩))));have dc:=(so q2.2).lo;have dV:=(so q2.2).hi;have bK:=lq.kt co W6.v W6.s;have W7:=W6.jF F co a7 dc c7 c8;replace V1:=V1.kt bK W6.g.at_;replace V2:=V2.kt bK W6.g.at_;have V3:RV b H7 D3 v3 (gp key by_ (g8 ns key by_ fs 2 ps q2.2).1) f3:=⟨c9,da,λc hc z=>by have:=db c hc;rw[z,W6.g.at_] at this;cases this⟩;replace hK:=hK.mono (bK.tu W6.g.at_);have R3:=rr q2.2;have S3:=sh q2.2;have L3:=r5 q2.2;clear co a7 c7 c8 c9 da db W6 bK aC;generalize g8 ns key by_ fs 2 ps q2.2=q3 at *;generalize gp key by_ q3.1=U at *;have dW:q3.2<=n+900000:=by omega
 generalize q3.2=n7 at *;clear lo1 dS c5 dU dc dV w1 w2 dH dR so sh rr r5 bn ci bm dG bH aB h5 dP;have dI:=(A3.len V1.r).1;have a8:=(A3.len V2.r).1;have bh:=(A3.len V3.r).1;refine(Zr rfl (Zr rfl (Zr rfl (Zr rfl (Zr rfl ⟨D1,D2,_,Zr rfl ⟨rfl,V1.at_,V2.at_,Q0k (gz (by omega)),λDa dd=>?_⟩⟩)))));have s8:Same H7 (upd H7 Da (.lst (v1++v2))):=Same.new dd;have bu:=eF (H:=H7) (a:=Da) (o:=.lst (v1++v2));generalize upd H7 Da (.lst (v1++v2))=H8 at s8 bu;refine(Zr rfl ⟨Da,D3,_,Zr rfl ⟨rfl,bu,s8 _ _ V3.at_,Q0k (gz (by rw[Q05];omega)),λDr cp=>?_⟩⟩);have s9:=s8.trans (Same.new (o:=.lst (v1++v2++v3)) cp);have bv:=eF (H:=H8) (a:=Dr) (o:=.lst (v1++v2++v3));have W9:=W7.same s9;have bW:Dr≠b:=λz=>by have:=s8 _ _ W7.g.at_;rw[<-z,cp] at this;cases this
 generalize upd H8 Dr (.lst (v1++v2++v3))=H9 at s9 bv W9
 have de:∀c∈Dr::(f1++f2++f3).flatten,c≠b:=λc hc=>by
  rcases List.mem_cons.mp hc with e|e
  . rw[e];exact bW
  . rw[Q1o,Q1o] at e;rcases List.mem_append.mp e with e|e
    . rcases List.mem_append.mp e with e|e
      . exact V1.nb c (Q0b _ e)
      . exact V2.nb c (Q0b _ e)
    . exact V3.nb c (Q0b _ e)
 refine⟨a,b,ns,n7,pk,pb,key,by_,xs,fs,Dr,v1++v2++v3,ms1++aq++U,f1++f2++f3,rfl,W9.g,W9.v,hK.mono (Tu.of s9),bU,bv,eU.app (V3.r.sm s9) (eU.app (V2.r.sm s9) (V1.r.sm s9)),de,by rw[Q05,Q05];omega,λm hm=>?_,by omega,λlv L cq bL bw aF w1 w2 bX hL=>hN _ _ ?_⟩
 . rcases List.mem_append.mp hm with e|e
   . rcases List.mem_append.mp e with e|e
     . exact⟨(R1.ok m e).1,S1 m e⟩
     . exact⟨(R2.ok m e).1,S2 m e⟩
   . exact⟨(R3.ok m e).1,S3 m e⟩
 have bo:=W9.ft F bw aF w1 bX;have bp:Kt b H7 bL:=(Kt.of s9).trans (fj.kt bw W9.v);have a7:=W7.g.at_;replace V1:=V1.kt bp a7;replace V2:=V2.kt bp a7;replace V3:=V3.kt bp a7;replace hK:=hK.mono (bp.tu a7);have d7:cq<=n+1000000:=by omega
 clear bw aF bX bp a7 W9 W7 s9 s8 de cp bv dd bu bW w1 w2 S1 S2 S3 dW;have a9:=λm hm=>(R1.ok m hm).1;have bx:=λm hm=>(R2.ok m hm).1;have bY:=λm hm=>(R3.ok m hm).1
 try dsimp only[gX]
 refine KG (A:=ky _ _ _) (λdf H'=>∃D3 v3 U f3,df=[some (.ref a),some (.ref b),some (.int m),some (.ref pk),some (.ref Dp),some (.ref D1),some (.ref D2),some (.ref D3),some lv,none,none,none,none,none,none,none,none]/\Same bL H'/\RV b H' D3 v3 U f3/\Rr key by_ fs U/\U.length<=5) ?_ (λN hB=>?_);rotate_left
 . refine(Zr rfl ⟨_,Zr rfl ⟨rfl,⟨by decide,by decide⟩,_,Zr rfl ⟨rfl,(by show(0:Int)<3;decide),rfl,Zr rfl (fJ (λc=>?_) (λc=>hB _ _ ⟨D3,v3,U,f3,rfl,Same.refl _,V3,R3,L3⟩))⟩⟩⟩);refine(Zr rfl ⟨D3,rfl,⟨_,eA.of V3.at_⟩,lW (oo (eA.of V3.at_)) (λi=>fX (lb L) (U.take i) (v3.take i)) (by omega) (λp hp=>?_) (λi x hx add skip=>?_)⟩)
   . rw[sf bh.symm];have aD:Same bL (upd bL p (.lst (fX (lb L) U v3))):=Same.new hp;refine hB _ _ ⟨p,_,U.filter (lb L),fX (lb L) U f3,rfl,aD,⟨eF,(V3.r.sm aD).kg,λc hc=>?_⟩,R3.kg,Q0e (Q16 _ _) L3⟩;rcases List.mem_cons.mp hc with e|e
     . rw[e];exact Ne.symm (eL bo.g.at_ hp)
     . exact V3.nb c (Q0b _ (C5 e))
   . obtain⟨m,f,hm,ho⟩:=V3.r.row hx;exact⟨rfl,Zr rfl (Zr rfl ⟨lv,x,L,.eZ fs,.dct m,f,rfl,hL.at_,hL.ok,ho,lZ (bY m (Q0p hm)),hL.dp,Zr rfl (fJ (λc=>(Zr rfl (add _ (se bh.symm hm hx c)))) (λc=>skip (p6 bh.symm hm hx c)))⟩)⟩
 clear V3 R3 L3 bh bY U v3 f3 D3;rintro df bM dX;refine iH λN hN=>?_;obtain⟨D3,v3,U,f3,rfl,aD,V3,R3,L3⟩:=dX;have bi:=hL.mono (Tu.of aD);have bZ:=V1.r.sm aD;refine(Zr rfl ⟨D1,rfl,⟨_,eA.of (aD _ _ V1.at_)⟩,lW (oo (eA.of (aD _ _ V1.at_))) (λi=>((ms1.take i).filter (ff L)).map λm=>kV (keyOf m key)) (by omega) (λDt cr=>hN _ _ ?_) (λi x hx add skip=>?_)⟩)
 case refine_2=>
  obtain⟨m,f,hm,ho⟩:=bZ.row hx;obtain⟨rr,rfl,gk⟩:=ou ho (a9 m (Q0p hm)) bV;exact⟨rfl,Zr rfl (Zr rfl ⟨lv,.ref rr,L,.eZ fs,.dct m,f,rfl,bi.at_,bi.ok,ho,lZ (a9 m (Q0p hm)),bi.dp,Zr rfl (fJ (λc=>(Zr rfl (Zr rfl ⟨pk,_,_,Zr rfl ⟨rfl,d_.of (aD _ _ hK.at_),rfl,rr,Zr rfl ⟨gk _ (Same.refl _),add _ (Ji hm c)⟩⟩⟩))) (λc=>skip (Jj hm c)))⟩)⟩
 have eT:((ms1.take v1.length).filter (ff L)).map (λm=>kV (keyOf m key))=(fC key (ms1.filter (ff L))).map kV:=by
  rw[dI,Q0s];unfold fC;rw[List.map_map];rfl
 rw[eT];have aQ:=aD.trans (Same.new (o:=.lst ((fC key (ms1.filter (ff L))).map kV)) cr);have cs:Same bM (upd bM Dt (.lst ((fC key (ms1.filter (ff L))).map kV))):=Same.new cr;have bz:=eF (H:=bM) (a:=Dt) (o:=.lst ((fC key (ms1.filter (ff L))).map kV));generalize upd bM Dt (.lst ((fC key (ms1.filter (ff L))).map kV))=dg at aQ cs bz;have bj:=hL.mono (Tu.of aQ);have b1:=V2.r.sm aQ;refine iH λN hN=>?_;refine(Zr rfl ⟨D2,rfl,⟨_,eA.of (aQ _ _ V2.at_)⟩,lW (oo (eA.of (aQ _ _ V2.at_))) (λi=>fX (i2 L key (fC key (ms1.filter (ff L)))) (aq.take i) (v2.take i)) (by omega) (λDe bN=>hN _ _ ?_) (λi x hx add skip=>?_)⟩)
 case refine_2=>
  obtain⟨m,f,hm,ho⟩:=b1.row hx;obtain⟨rr,rfl,gk⟩:=ou ho (bx m (Q0p hm)) bV;refine⟨rfl,Zr rfl (Zr rfl ⟨lv,.ref rr,L,.eZ fs,.dct m,f,rfl,bj.at_,bj.ok,ho,lZ (bx m (Q0p hm)),bj.dp,Zr rfl (fJ (λc=>?_) (λc=>fk (skip (p6 a8.symm hm hx λz=>c (Bool.and_eq_true_iff.mp z).1))))⟩)⟩;refine(Zr rfl (Zr rfl ⟨pk,_,_,Zr rfl ⟨rfl,d_.of (aQ _ _ hK.at_),rfl,rr,Zr rfl ⟨gk _ (Same.refl _),Zr rfl ⟨Dt,Zr rfl ⟨.inl (eA.of bz),rW _,flat_keys,Zr rfl (fJ (λcc=>(Zr rfl (add _ (se a8.symm hm hx ?_)))) (λcc=>skip (p6 a8.symm hm hx λz=>cc (Bool.and_eq_true_iff.mp z).2)))⟩⟩⟩⟩⟩));exact Bool.and_eq_true_iff.mpr ⟨c,cc⟩
 rw[sf a8.symm];have bf:=aQ.trans (Same.new (o:=.lst (fX (i2 L key (fC key (ms1.filter (ff L)))) aq v2)) bN);have cu:=cs.trans (Same.new (o:=.lst (fX (i2 L key (fC key (ms1.filter (ff L)))) aq v2)) bN);have bA:=eF (H:=dg) (a:=De) (o:=.lst (fX (i2 L key (fC key (ms1.filter (ff L)))) aq v2));have b2:De≠b:=λz=>by have:=aQ _ _ bo.g.at_;rw[<-z,bN] at this;cases this
 generalize upd dg De (.lst (fX (i2 L key (fC key (ms1.filter (ff L)))) aq v2))=dh at bf cu bA;have bO:=bo.same bf;have aF:=bo.g.at_;replace V1:=V1.kt (Kt.of bf) aF;replace V2:=V2.kt (Kt.of bf) aF;replace V3:=V3.kt (Kt.of cu) (aD _ _ aF);replace hK:=hK.mono (Tu.of bf);replace hL:=hL.mono (Tu.of bf)
 have VE:RV b dh De _ (aq.filter (i2 L key (fC key (ms1.filter (ff L))))) _:=⟨bA,V2.r.kg,λc hc=>by
  rcases List.mem_cons.mp hc with e|e
  . rw[e];exact b2
  . exact V2.nb c (Q0b _ (C5 e))⟩
 have RE:Rr key by_ fs (aq.filter (i2 L key (fC key (ms1.filter (ff L))))):=R2.kg;have LE:(aq.filter (i2 L key (fC key (ms1.filter (ff L))))).length<=5:=Q0e (Q16 _ _) c6;have bF:∀m∈aq.filter (i2 L key (fC key (ms1.filter (ff L)))),i2 L key (fC key (ms1.filter (ff L))) m=true:=λm hm=>(List.mem_filter.mp hm).2;clear bi bZ bj b1 aD aQ cs bf cu bN cr bz bA b2 aF bo V2 R2 c6 bx a8 eT;generalize aq.filter (i2 L key (fC key (ms1.filter (ff L))))=me at *;generalize fX (i2 L key (fC key (ms1.filter (ff L)))) aq v2=ve at *;generalize fX (i2 L key (fC key (ms1.filter (ff L)))) aq f2=fe at *;refine iH λN hN=>?_;refine(Zr rfl (Zr rfl (Zr rfl (Zr rfl ⟨a,b,ns,cq,pk,pb,key,by_,xs,fs,D3,v3,U,f3,rfl,bO.g,by omega,hK.at_,hK.tu,hK.fa,hW,V3.at_,V3.r,R3.ms cf,λz=>V3.nb b (Q0b _ z) rfl,V3.nb D3 Q06,λt wS uS d fp r di bB b3 ht hO bq br hP dJ=>?_⟩))));refine⟨t,Zr rfl ⟨d_.of ht,rfl,_,Zr rfl ⟨_,Zr rfl ⟨rfl,hN _ _ (iH λN hN=>?_)⟩⟩⟩⟩;have dj:=bO.sb bB b3 (by omega);have bt:Kt b dh di:=Kt.sb bB;have ba:=bO.g.at_;replace V1:=V1.kt bt ba;replace VE:=VE.kt bt ba;replace hK:=hK.mono (bt.tu ba);replace hL:=hL.mono (bt.tu ba);clear bB b3 ht bt ba bO V3;refine(Zr rfl ?_);intro v dx hv dk _;refine⟨v,dx,lv,rfl,eF,λdm keep hV=>⟨rfl,hN _ _ (iH λN hN=>?_)⟩⟩;have aK:Same di dm:=λc o e=>keep c o (eL e hv) (by rw[eu (eL e hv),eu (eL e dk)];exact e);have X:RS K Pt Ps Pi Po a b ns (cq+1) C v dx pk pb key by_ xs fs lv L D1 v1 ms1 f1 De ve me fe wS uS d fp r dm:=⟨dj.same aK,hK.mono (Tu.of aK),hL.mono (Tu.of aK),hV,aK _ _ V1.at_,V1.r.sm aK,aK _ _ VE.at_,VE.r.sm aK,hO.same aK,hP.kn (Kn.of aK)⟩;clear keep hv dk hV aK dj V1 VE hK hL hO hP;have cw:(fC key ms1).Nodup:=R1.kn;have dY:Rs 15 (.rows key by_ fs) (.lst (gh me)) none:=km.rs (N:=12) (RE.ms cf) ce;have dL:∀m∈ms1.filter (ff L),ff L m=true:=λm hm=>(List.mem_filter.mp hm).2;have cx:∀m∈ms1.filter (ff L),kb fs m:=λm hm=>R1.kg.ok m hm;have lH:(ms1.filter (ff L)).length<=5:=Q0e (Q16 _ _) L1;have RH:Rr key by_ fs (ms1.filter (ff L)):=R1.kg
 have cy:∀{H:Hp} {D:Addr} {ws:List V} {ms:List Ds} {fl:List (List Addr)},kh 15 H pk pb key by_ xs fs lv L D ws ms fl wS d fp r U->(∀m∈ms.filter (ff L),kb fs m)->(ms.filter (ff L)).length<=5->iY L key (fC key (ms.filter (ff L))) r U=none->Rs 15 (.rows key by_ fs) (.lst (gh (gp key by_ (U++ms.filter (ff L))))) none:=λY ok l e=>by
  obtain⟨er,dZ⟩:=Ky e;subst er;refine km.rs (N:=12) (Kw (λm hm=>?_) (Y.kn dZ) (by rw[Q05];omega) cf) ce;rcases List.mem_append.mp hm with z|z
  . exact R3.ok m z
  . exact ok m z
 have bg:∀tk,∀pl,iY L key tk r U=some pl->pl.length<=101:=λtk=>Kz dJ;have Y1:=X.q X.a1 X.r1 (by omega) a9 cw bq br L3;refine(Zr rfl (Zr rfl (Zr rfl (Zr rfl (Zr rfl ⟨pk,pb,key,by_,xs,fs,lv,L,D1,v1,ms1,f1,wS,uS,d,fp,r,U,rfl,Y1,X.p,X.w.o,λtd ec b4 b5 aE=>hN _ _ (iH λN hN=>?_)⟩)))));replace X:=X.ko F b4 b5;clear b4 b5 Y1;have Y2:=X.q X.a1 X.r1 (by omega) a9 cw bq br L3;refine(Zr rfl (Zr rfl (Zr rfl (Zr rfl (Zr rfl ⟨v,dx,pk,pb,key,by_,xs,fs,lv,L,D1,v1,ms1,f1,wS,d,fp,r,U,rfl,X.v,Y2,X.w.i,λtq ed bC b6 dn=>?_⟩)))));have dq:=Kn.iL bC X.w.i;replace X:=X.ki F bC b6;replace aE:=aE.kn dq;clear bC b6 dq;refine(Zr rfl ⟨.ref pk,.ref tq,.ref td,Zr rfl ⟨X.k.ka,hW,vd dn aE (cy Y2 cx lH) (bg _),λd0 cz=>⟨true,rfl,fk (hN _ _ (iH λN hN=>?_))⟩⟩⟩);replace X:=X.same cz;replace aE:=aE.kn (Kn.of cz);clear cz dn Y2;have dt:∀m∈me,g9 L key (fC key (ms1.filter (ff L))) m=false:=λm hm=>KC (bF m hm);have YE:kh 15 d0 pk pb key by_ xs fs lv L D1 v1 ms1 f1 (.ref De) (.lst (gh me)) (De::fe.flatten) none me:=⟨X.k,X.l,X.a1,X.r1,by omega,a9,cw,sg X.ae X.re,dY,λ_=>rfl,LE⟩;have du:=YE.kn dt;refine(Zr rfl (Zr rfl (Zr rfl (Zr rfl ⟨v,dx,pk,pb,key,by_,xs,fs,lv,L,D1,v1,ms1,f1,.ref De,_,_,none,me,rfl,X.v,YE,X.w.i,λtn ee bD b7 bI=>hN _ _ (iH λN hN=>?_)⟩))));rw[u_ dt] at bI;obtain⟨Dn,vn,fn,cA,b8,dv⟩:=bI;have dw:=Kn.iL bD X.w.i;replace X:=X.ki F bD b7;replace aE:=aE.kn dw;clear bD b7 dw YE;refine(Zr rfl ⟨tn,_,_,Zr rfl ⟨rfl,d_.of cA,rfl,rfl,Zr rfl ?_⟩⟩);rw[decide_eq_true rfl];refine fk (hN _ _ (iH λN hN=>?_))
 have eH:(gp key by_ (me++ms1.filter (ff L))).filter (ff L)=ms1.filter (ff L):=Kx RH dL λm hm=>by
  have:=(Bool.and_eq_true_iff.mp (bF m hm)).1;unfold lb at this;unfold ff;rw[this];rfl
 have bP:=iK key by_ (me++ms1.filter (ff L))
 have dy:∀m∈gp key by_ (me++ms1.filter (ff L)),fH fs m:=λm hm=>by
  rcases List.mem_append.mp (bP.mem_iff.mp hm) with e|e
  . exact(RE.ok m e).1
  . exact(cx m e).1
 have lN:(gp key by_ (me++ms1.filter (ff L))).length<=10:=by rw[bP.length_eq,Q05];omega
 have kN:(fC key (gp key by_ (me++ms1.filter (ff L)))).Nodup:=(bP.map _).nodup_iff.mpr du;clear bP du;generalize gp key by_ (me++ms1.filter (ff L))=mN at *;have Y3:=X.q b8 dv lN dy kN bq br L3;refine(Zr rfl (Zr rfl (Zr rfl (Zr rfl ⟨tn,_,_,Zr rfl ⟨rfl,d_.of cA,rfl,Zr rfl ⟨v,dx,pk,pb,key,by_,xs,fs,lv,L,Dn,vn,mN,fn,wS,d,fp,r,U,rfl,X.v,Y3,X.w.i,λtp ef bE b9 aC=>?_⟩⟩⟩))));have dz:=Kn.iL bE X.w.i;replace X:=X.ki F bE b9;replace aE:=aE.kn dz;rw[eH] at aC;have cC:=cy Y3 (by rw[eH];exact cx) (by rw[eH];exact lH);rw[eH] at cC;refine(Zr rfl ⟨.ref pk,.ref tp,.ref td,Zr rfl ⟨X.k.ka,hW,vd aC aE cC (bg _),λbQ dA=>⟨true,rfl,fk (hN _ _ (iH λN hN=>?_))⟩⟩⟩);replace X:=X.same dA;clear dA aC aE dz bE b9 Y3 cC cA b8 dv dy lN kN eH;refine(Zr rfl (Zr rfl ⟨Q04 _,λD0 dC=>?_⟩));have cD:Same bQ (upd bQ D0 (.lst [])):=Same.new dC;have dD:=eF (H:=bQ) (a:=D0) (o:=.lst []);generalize upd bQ D0 (.lst [])=eg at cD dD;replace X:=X.same cD;have dE:∀m∈([]:List Ds),fH fs m:=λm hm=>nomatch hm
 have Y4:=X.q dD (ms:=[]) (fl:=[]) .nil (Q04 _) dE Q0w bq br L3;refine(Zr rfl (Zr rfl ⟨pk,pb,key,by_,xs,fs,lv,L,D0,[],[],[],wS,uS,d,fp,r,U,rfl,Y4,X.p,X.w.o,λtb bR ca cb aB=>hN _ _ ?_⟩));replace X:=X.ko F ca cb;clear ca cb cD dC;refine(Zr rfl (Zr rfl (Zr rfl ⟨Q04 _,λD5 d1=>?_⟩)));have cE:Same bR (upd bR D5 (.lst [])):=Same.new d1;have dF:=eF (H:=bR) (a:=D5) (o:=.lst []);generalize upd bR D5 (.lst [])=eh at cE dF;replace X:=X.same cE;replace aB:=aB.kn (Kn.of cE);have Y5:=X.q dF (ms:=[]) (fl:=[]) .nil (Q04 _) dE Q0w bq br L3;refine(Zr rfl ⟨v,dx,pk,pb,key,by_,xs,fs,lv,L,D5,[],[],[],wS,d,fp,r,U,rfl,X.v,Y5,X.w.i,λtc ei cd dM d2=>?_⟩);have d3:=Kn.iL cd X.w.i;replace X:=X.ki F cd dM;replace aB:=aB.kn d3;exact(Zr rfl ⟨.ref pk,.ref tc,.ref tb,Zr rfl ⟨X.k.ka,hW,vd d2 aB (cy Y5 (λm hm=>nomatch hm) (Q04 _)) (bg _),λd4 d5=>q _ d4 (X.same d5).w (by omega)⟩⟩)
end
theorem jf.KJ {K:W.Frag}{H H':Hp}{a:Addr}{ns:List Int}(h:jf K H a ns)(s:Same H H'):jf K H' a ns:=by
 rcases h with⟨o,h⟩|h
 . exact .inl ⟨o,s _ _ h⟩
 . exact .inr h
def vf (K:W.Frag) (Pt Ps Pi Po:Addr):Sp:=λvs H Q _=>∃(a:Addr) (ns:List Int),vs=[.ref a]/\jf K H a ns/\ns.length<=63/\eY Pt gU gW H/\eY Ps oj om H/\eY Pi ke kf H/\eY Po lU lV H/\∀H',Q (.bl true) H'
section
variable {P:Program}{w:World}{K:W.Frag}{mg:Str->Option Value}{base:Heap}
variable {Pt Ps Pi Po:Addr}
theorem KL:fG ["_law_script","_law_at","_law_k"] ["_law_script"] (eX (top 55)):=fW
theorem KN (T:Tb mg)(aa:Dn K mg "law" ["_law_script"] (top 55) ab ac)(I:Dn K mg "_law_round" fo (top 54) J U)(Y:eE P w K mg base eI (132) J U fo (DE K Pt Ps Pi Po)):eE P w K mg base eI (133) ab ac ["_law_script"] (vf K Pt Ps Pi Po):=by
 refine aa.F.ok KL λvs H Q E h=>?_;obtain⟨a,ns,rfl,hS,af,h1,h2,h3,h4,q⟩:=h;refine⟨rfl,λah A outer s nd hr hu=>?_⟩
 refine⟨_,(en (eW 1 nd (fY (a_ b_ c_)))
  (en (ie PassesOwn.never rfl (kE rfl T.kW (a_ (eB hX b_ (eB gm (fA gO (by rfl) T.gB PySem.boot_len (a_ (iS jR (pv 0) iQ (iR b_)) c_)) b_)) c_)) (fQ (i:=2) nd rfl gq) (eG (eR (hU (gN (eN Y hr I (a_ (pv 0) (a_ (pv 1) c_))))) (eG (eJ ip)) eS)))
  (eG (eJ ip)))),?_⟩
 ac_rfl
 refine⟨g6,λb hb=>?_⟩;have s0:Same H (upd H b (.lst [.int 0])):=Same.new hb;have W0:RW K Pt Ps Pi Po a b ns 0 (upd H b (.lst [.int 0])):=⟨⟨jf.KJ hS s0,af,eF,by decide⟩,h1.same s0,h2.same s0,h3.same s0,h4.same s0⟩;refine(Zr rfl (Zr rfl ⟨a,Zr rfl ⟨W0.g.jm.sq,λp hp=>?_⟩⟩));have ae:=z_ (ns.map V.int) none (some 60);rw[Q03] at ae;refine⟨p,Zr rfl ⟨.inl (eA.of eF),_,Zr rfl ⟨rfl,⟨by decide,by decide⟩,_,Zr rfl ⟨rfl,Zr rfl ⟨?_,?_,?_⟩⟩⟩⟩⟩
 . omega
 . omega
 have W1:=W0.same (Same.new hp (o:=.lst (j3 (ns.map V.int) none (some 60))));generalize hc:(1+((j3 (ns.map V.int) none (some 60)).length:Int) / 40).toNat=cnt;have ag:cnt<=3:=by omega
 refine kF (n:=cnt) (λi σ H'=>∃(x:Option V) (n:Int),σ=[some (.ref a),some (.ref b),x]/\RW K Pt Ps Pi Po a b ns n H'/\n<=10000000 * i) ?_ ?_ ?_
 . exact⟨_,0,rfl,W1,by omega⟩
 . rintro i σ H' hi ⟨x,n,rfl,W,hn⟩;exact(Zr rfl (Zr rfl ⟨a,b,ns,n,rfl,W,by omega,λn' H2 W2 ai=>⟨true,rfl,fk ⟨_,n',rfl,W2,by omega⟩⟩⟩))
 . rintro σ H' ⟨x,n,rfl,_⟩;exact q _
end
end Pb
namespace Pb
open L2
abbrev DF (K:W.Frag) (x Y:Str) (st:Stmt) (f:Addr):Prop:=∃(oc:Value) (od:Option Addr) (kV J pm:Value) (an:Option Addr) (I ct:Value) (U:Array (Option Value)),K.lookup f=some ⟨oc,od,.func (W.fnOf x Y (il st) (g_ st) (eX st) .none kV J pm an I ct),U⟩/\W.codeIn K I Y=true/\W.keepIn K (.ref f)=true
abbrev f_ (K:W.Frag) (x:Str) (st:Stmt):Prop:=∃f,W.nsIn K mainGlobals x=some (some (.ref f))/\DF K x x st f
abbrev HB (x U:Str) (ps:List Str) (st:Stmt):Prop:=∀(kV I Y:Value) (an:Option Addr) (J ct:Value) (us:List Value),us.length=ps.length->bindArgs (W.fnOf x U (il st) (g_ st) (eX st) .none kV I Y an J ct) ⟨us,[]⟩=pure (ps.zip us)
theorem gi {K:W.Frag}{mg:Str->Option Value}{h:Heap}{x:Str}{ps:List Str}{st:Stmt}(X:K.In h)(G:h.Ns mainGlobals mg)(a:f_ K x st)(U:HB x x ps st):∃f d,Dn K mg x ps st f d/\∀us:List Value,us.length=ps.length->bindArgs d ⟨us,[]⟩=pure (ps.zip us):=by
 obtain⟨f,a,oc,od,kV,I,Y,an,J,ct,aa,l,c,k⟩:=a;have F:=o9 (st:=st) l c k;exact⟨f,_,⟨F,F.binds U,W.mg_of X G a⟩,U kV I Y an J ct⟩
abbrev lx (K:W.Frag) (C ns:Addr) (x I:Str) (st:Stmt) (f:Addr):Prop:=W.nsIn K ns x=some (some (.ref f))/\DF K x I st f/\W.isFn K (.ref f)=true/\W.findIn K (.ref C) x=some (some (.ref f))
theorem vg {K:W.Frag}{C ns:Addr}{x I:Str}{ps:List Str}{st:Stmt}{f:Addr}(a:lx K C ns x I st f)(hb:HB x I ps st):∃d,Dm K x I ps st f d:=by
 obtain⟨_,⟨oc,od,kV,J,pm,an,U,ct,Y,l,c,k⟩,_,_⟩:=a;have F:jS K x I st f _:=⟨⟨oc,od,kV,J,pm,an,U,ct,Y,rfl,l,c⟩,k⟩;exact⟨_,F,F.binds hb⟩
theorem KO {K:W.Frag}{x:Str}{st:Stmt}{f:Addr}{Y:Value}{od an:Option Addr}{kV J pm I ct:Value}{U:Array (Option Value)}(a:W.nsIn K mainGlobals x=some (some (.ref f)))(l:K.lookup f=some ⟨Y,od,.func (W.fnOf x x (il st) (g_ st) (eX st) .none kV J pm an I ct),U⟩)(c:W.codeIn K I x=true)(k:W.keepIn K (.ref f)=true):f_ K x st:=⟨f,a,Y,od,kV,J,pm,an,I,ct,U,l,c,k⟩
theorem KQ {K:W.Frag}{C ns:Addr}{x Y:Str}{st:Stmt}{f:Addr}{oc:Value}{od an:Option Addr}{kV J pm I ct:Value}{U:Array (Option Value)}(a:W.nsIn K ns x=some (some (.ref f)))(l:K.lookup f=some ⟨oc,od,.func (W.fnOf x Y (il st) (g_ st) (eX st) .none kV J pm an I ct),U⟩)(c:W.codeIn K I Y=true)(k:W.keepIn K (.ref f)=true)(h:W.isFn K (.ref f)=true)(g:W.findIn K (.ref C) x=some (some (.ref f))):lx K C ns x Y st f:=⟨a,⟨oc,od,kV,J,pm,an,I,ct,U,l,c,k⟩,h,g⟩
theorem lx.meth {K:W.Frag}{C ns:Addr}{x I:Str}{st:Stmt}{f:Addr}(a:lx K C ns x I st f):Meth K C x f:=by
 obtain⟨_,⟨_,_,_,_,_,_,_,_,_,_,_,k⟩,h1,h2⟩:=a;exact⟨h2,h1,k⟩
abbrev KR (K:W.Frag) (C:Addr):Prop:=W.plainGet K C Str.empty=true/\W.hasDictIn K C=true/\W.plainOver K C=true/\W.findIn K (.ref C) "__setattr__"=some (some (.builtin "object.__setattr__"))/\W.makesIn K C=true/\W.keepIn K (.ref C)=true
theorem len1 {α:Type}{l:List α}(h:l.length=1):∃a,l=[a]:=match l,h with|[a],_=>⟨a,rfl⟩
theorem len2 {α:Type}{l:List α}(h:l.length=2):∃a b,l=[a,b]:=match l,h with|[a,b],_=>⟨a,b,rfl⟩
theorem sx {α:Type}{l:List α}(h:l.length=3):∃a b c,l=[a,b,c]:=match l,h with|[a,b,c],_=>⟨a,b,c,rfl⟩
theorem jI {α:Type}{l:List α}(h:l.length=4):∃a b c d,l=[a,b,c,d]:=match l,h with|[a,b,c,d],_=>⟨a,b,c,d,rfl⟩
theorem DG {α:Type}{l:List α}(h:l.length=5):∃a b c d e,l=[a,b,c,d,e]:=match l,h with|[a,b,c,d,e],_=>⟨a,b,c,d,e,rfl⟩
theorem KS {K:W.Frag}{h:Heap}{f:Addr}(X:K.In h)(e:W.isFn K (.ref f)=true):∃o,h.get? f=some o/\o.cls=.type "function":=by
 have e:W.typeIn K (.ref f)=some (.type "function"):=beq_iff_eq.mp e;obtain⟨o,I,hc⟩:=Option.map_eq_some_iff.mp (show(K.lookup f).map (·.cls)=_ from e);exact⟨o,X _ _ I,hc⟩
open W in
theorem KU {K:Frag}{h:Heap}{N:Addr}{n:Str}{v:Value}(X:K.In h)(ok:nsOkIn K N=true)(e:nsIn K N n=some (some v)):h.nsMap N n=some v:=by
 obtain⟨o,es,ep,I,J,_,U⟩:h.Ns N (h.nsMap N):=.of_isNs (isNs_of_in X ok);unfold nsIn at e;split at e
 . rename_i c d aa n' sl q;have:=X _ _ q;rw[I] at this
   cases this
   cases J;split at e
   . rename_i e' Y
     cases e;rw[<-U];unfold nsFind findBy;rw[<-Q2r,Y];rfl
   . split at e <;> cases e
 . cases e
open W in
noncomputable def vh (K:Frag) (C fI:Addr) (U:List Value) (I:String):Bool:=match K.lookup C with
 |some ⟨.type "type",_,.cls J,Y⟩=>(match J.mro,Y.toList with
  | .ref C'::bm,[_,_,_,_,some (.builtin n),_]=>C' == C && n == I && !J.hasDel && tailIn K U bm && nsOkIn K J.ns && nsIn K J.ns "__init__" == some (some (.ref fI))
  |_,_=>false)
 |_=>false
theorem KW {K:W.Frag}{h:Heap}{C fI:Addr}{iX:List Value}{nid:String}(X:K.In h)(q:vh K C fI iX nid=true)(hf:W.isFn K (.ref fI)=true):lX h C fI iX nid:=by
 unfold vh at q;split at q
 next dct Y af look=>
  split at q
  next D tl s0 s1 s2 s3 nm s5 U aa=>
   obtain⟨q,J⟩:=Bool.and_eq_true_iff.mp q;obtain⟨q,ae⟩:=Bool.and_eq_true_iff.mp q;obtain⟨q,ac⟩:=Bool.and_eq_true_iff.mp q;obtain⟨q,I⟩:=Bool.and_eq_true_iff.mp q;obtain⟨hC,ab⟩:=Bool.and_eq_true_iff.mp q;have hC:=beq_iff_eq.mp hC;have ab:=beq_iff_eq.mp ab;have J:=beq_iff_eq.mp J
   have I:Y.hasDel=false:=by
    cases e:Y.hasDel with
    |false=>rfl
    |true=>rw[e] at I;cases I
   subst hC;subst ab;obtain⟨c1,c2,c3,c4,c5,c6,c7,c8,c9,ag,ah⟩:=Y;have U:c3=_:=U;have I:ah=false:=I;subst U;subst I;obtain⟨sl⟩:=af;have aa:sl=_:=aa;subst aa;obtain⟨oI,hI,ai⟩:=KS X hf;exact⟨tl,c4,c1,c5,c2,c6,c7,c8,c9,ag,dct,s0,s1,s2,s3,s5,_,oI,X _ _ look,.of_isNs (W.isNs_of_in X ae),KU X ae J,W.tail_of_in X ac,hI,ai⟩
  next=>cases q
 next=>cases q
abbrev DH (K:W.Frag) (C f:Addr) (fl:Str):Prop:=vh K C f C0 "ValueError.__new__"=true/\W.keepIn K (.ref C)=true/\W.findIn K (.ref C) "__setattr__"=some (some (.builtin "object.__setattr__"))/\W.findIn K (.ref C) fl=some none/\W.mroIn K C (.type "object")=some true/\((W.clsIn K C).any λI=>rY I.mro && I.hasDict)=true/\W.findIn K (.ref C) "__getattribute__"=some (some (.builtin "BaseException.__getattribute__"))/\W.findIn K (.ref C) "__getattr__"=some none/\W.findIn K (.ref C) "__class__"=some (some (.builtin "object.__class__"))/\W.mroIn K C (.type "BaseException")=some true/\(W.clsIn K C).isSome=true/\W.typeIn K (.ref C)=some (.type "type")/\W.subIn K (.ref C) (.type "BaseException")=some true/\W.subIn K (.ref C) (.ref C)=some true
theorem KY {K:W.Frag}{mg:Str->Option Value}{h base:Heap}{x:Str}{C f:Addr}(X:K.In h)(G:h.Ns mainGlobals mg)(X1:K.In base)(a:W.nsIn K mainGlobals x=some (some (.ref C)))(hf:W.isFn K (.ref f)=true)(e:DH K C f "way"):C1 K mg base x C f:=by
 obtain⟨e1,e2,e3,e4,e5,e6,e7,e8,e9,J,I,U,Y,aa⟩:=e;exact⟨KW X1 e1 hf,e2,W.mg_of X G a,⟨e3,e4,e5,e6⟩,⟨e7,e8,e9,e5,J,I⟩,U,I,Y,aa⟩
theorem all_mk {l:W.OpenLaw}{w:World}{K:W.Frag}{h:Heap}{mg:Str->Option Value}{fa:Addr}(X:K.In h)(G:h.Ns mainGlobals mg)(b4:mg "law"=some (.ref fa))
 (vi:f_ K "kind_at" (top 5))
 (vj:f_ K "misfit" (top 7))
 (vk:f_ K "record_misfit" (top 8))
 (vm:f_ K "has_just" (top 9))
 (vo:f_ K "rows_misfit" (top 10))
 (vp:f_ K "is_pair" (top 11))
 (vq:f_ K "tree_misfit" (top 12))
 (vv:f_ K "either_misfit" (top 13))
 (vw:f_ K "rank" (top 14))
 (vx:f_ K "by_key" (top 16))
 (vy:f_ K "ask_fit" (top 18))
 (vA:f_ K "holds" (top 21))
 (vB:f_ K "value_along" (top 22))
 (vC:f_ K "holds_of" (top 23))
 (vD:f_ K "_law_next" (top 27))
 (vE:f_ K "_law_number" (top 28))
 (vF:f_ K "_law_word" (top 29))
 (vG:f_ K "_law_names" (top 30))
 (vH:f_ K "_law_plain" (top 31))
 (vL:f_ K "_law_fields" (top 32))
 (vM:f_ K "_law_rows_kind" (top 33))
 (vN:f_ K "_law_kind" (top 34))
 (vO:f_ K "_law_rank" (top 35))
 (vP:f_ K "_law_value" (top 37))
 (vQ:f_ K "_law_alike" (top 38))
 (vR:f_ K "_law_way" (top 39))
 (vS:f_ K "_law_along" (top 40))
 (vT:f_ K "_law_places" (top 41))
 (vU:f_ K "_law_thing" (top 42))
 (vV:f_ K "_law_simple" (top 43))
 (vW:f_ K "_law_look" (top 44))
 (vX:f_ K "_law_true" (top 45))
 (vY:f_ K "_law_pool" (top 46))
 (vZ:f_ K "_law_spoilt" (top 48))
 (v5:f_ K "_law_put" (top 49))
 (v7:f_ K "_law_same_end" (top 50))
 (v8:f_ K "_law_look_for" (top 51))
 (v9:f_ K "_law_due" (top 53))
 (v_:f_ K "_law_round" (top 54))
 (wa:f_ K "law" (top 55))
 {fR:Addr} {b5:Value} {b6 bq:Option Addr} {br bt bu bm bv:Value} {b7:Array (Option Value)} (aR:W.nsIn K mainGlobals "_law_rows"=some (some (.ref fR))) (lR:K.lookup fR=some ⟨b5,b6,.func (W.fnOf "_law_rows" "_law_rows" (il (top 36)) (g_ (top 36)) (eX (top 36)) .none br bt bu bq bm bv),b7⟩) (wb:W.codeIn K bm "_law_rows"=true) (kR:W.keepIn K (.ref fR)=true)
 {fS:Addr} {b8:Value} {b9 bw:Option Addr} {bx bz bA bn bB:Value} {ca:Array (Option Value)} (aS:W.nsIn K mainGlobals "_law_some"=some (some (.ref fS))) (lS:K.lookup fS=some ⟨b8,b9,.func (W.fnOf "_law_some" "_law_some" (il (top 47)) (g_ (top 47)) (eX (top 47)) .none bx bz bA bw bn bB),ca⟩) (wc:W.codeIn K bn "_law_some"=true) (kS:W.keepIn K (.ref fS)=true)
 {fN:Addr} {cb:Value} {cc bC:Option Addr} {bD bE bF bo bG:Value} {cd:Array (Option Value)} (aN:W.nsIn K mainGlobals "in_order"=some (some (.ref fN))) (lN:K.lookup fN=some ⟨cb,cc,.func (W.fnOf "in_order" "in_order" (il (top 15)) (g_ (top 15)) (eX (top 15)) .none bD bE bF bC bo bG),cd⟩) (we:W.codeIn K bo "in_order"=true) (kN:W.keepIn K (.ref fN)=true)
 {fO:Addr} {ce:Value} {cf bH:Option Addr} {bI bJ bK bp bL:Value} {cg:Array (Option Value)} (aO:W.nsIn K mainGlobals "_law_sorted"=some (some (.ref fO))) (lO:K.lookup fO=some ⟨ce,cf,.func (W.fnOf "_law_sorted" "_law_sorted" (il (top 52)) (g_ (top 52)) (eX (top 52)) .none bI bJ bK bH bp bL),cg⟩) (wg:W.codeIn K bp "_law_sorted"=true) (kO:W.keepIn K (.ref fO)=true)
 (zz:∀x∈(["len","isinstance","sorted","all","range","enumerate","zip","int","bool","str","list","tuple","dict","min"]:List Str),W.nsIn K mainGlobals x=some none)
 {ak aP:Addr} {bc:Value} {bd:Option Addr} {be:Array (Option Value)} {a1:ClassData}
 (wj:W.nsIn K mainGlobals "Keep"=some (some (.ref ak))) (DJ:K.lookup ak=some ⟨bc,bd,.cls a1,be⟩) (DK:a1.ns=aP)
 {al aG:Addr} {a3:Value} {a4:Option Addr} {a5:Array (Option Value)} {aH:ClassData}
 (wm:W.nsIn K mainGlobals "CantPut"=some (some (.ref al))) (DL:K.lookup al=some ⟨a3,a4,.cls aH,a5⟩) (DM:aH.ns=aG)
 {ah:Addr} (sy:lx K ak aP "__init__" "Keep.__init__" (gj 25 0) ah)
 {aI:Addr} (sC:lx K ak aP "put" "Keep.put" (gj 25 3) aI)
 {ab:Addr} (sE:lx K al aG "__init__" "CantPut.__init__" (gj 3 0) ab)
 (wo:W.findIn K (.ref ak) "look"=some none)
 (wq:KR K ak) (wu:DH K al ab "way")
 {cR PR:Addr} {bO:Value} {bP:Option Addr} {bf:Array Value} {bQ:Array (Option Value)} (wx:bm=.ref cR) (DN:K.lookup cR=some ⟨bO,bP,.fields bf,bQ⟩) (DO:bf[11]? =some (.ref PR)) (wy:W.codeHdIn K cR PR=true)
 {cS PS:Addr} {bR:Value} {bS:Option Addr} {bg:Array Value} {bT:Array (Option Value)} (wz:bn=.ref cS) (DP:K.lookup cS=some ⟨bR,bS,.fields bg,bT⟩) (DQ:bg[11]? =some (.ref PS)) (wA:W.codeHdIn K cS PS=true)
 {cN PN:Addr} {bU:Value} {bV:Option Addr} {bh:Array Value} {bW:Array (Option Value)} (wB:bo=.ref cN) (DR:K.lookup cN=some ⟨bU,bV,.fields bh,bW⟩) (DS:bh[11]? =some (.ref PN)) (wC:W.codeHdIn K cN PN=true)
 {cO PO:Addr} {bX:Value} {bY:Option Addr} {bi:Array Value} {bZ:Array (Option Value)} (wD:bp=.ref cO) (DT:K.lookup cO=some ⟨bX,bY,.fields bi,bZ⟩) (DV:bi[11]? =some (.ref PO)) (wF:W.codeHdIn K cO PO=true)
 (lh:Fr PR PS PN PO)
 :∃fd:FuncData,(∀(s:Shared) (v:Value),BindsTo s fd ⟨[v],[]⟩ [("_law_script",v)])/\∀base:Heap,K.In base->base.Ns mainGlobals mg->BM mg base->eE l.prog w K mg base eI 133 fa fd ["_law_script"] (vf K PR PS PN PO):=by
 have zz:=λx hx=>W.mg_none_of X G (zz x hx);have T:Tb mg:=⟨zz _ (by simp),zz _ (by simp),zz _ (by simp),zz _ (by simp),zz _ (by simp),zz _ (by simp),zz _ (by simp),zz _ (by simp),zz _ (by simp),zz _ (by simp),zz _ (by simp),zz _ (by simp),zz _ (by simp),zz _ (by simp)⟩;obtain⟨_,_,a8,_⟩:=gi (ps:=["fields","name"]) X G vi (λ_ _ _ _ _ _ _ h=>by obtain⟨_,_,rfl⟩:=len2 h;rfl);obtain⟨_,_,aX,_⟩:=gi (ps:=["kind","value"]) X G vj (λ_ _ _ _ _ _ _ h=>by obtain⟨_,_,rfl⟩:=len2 h;rfl);obtain⟨_,_,aE,_⟩:=gi (ps:=XS) X G vk (λ_ _ _ _ _ _ _ h=>by obtain⟨_,_,rfl⟩:=len2 h;rfl);obtain⟨_,_,a6,_⟩:=gi (ps:=XS) X G vm (λ_ _ _ _ _ _ _ h=>by obtain⟨_,_,rfl⟩:=len2 h;rfl);obtain⟨_,_,aT,_⟩:=gi (ps:=XY) X G vo (λ_ _ _ _ _ _ _ h=>by obtain⟨_,_,rfl⟩:=len2 h;rfl);obtain⟨_,_,a9,_⟩:=gi (ps:=["value"]) X G vp (λ_ _ _ _ _ _ _ h=>by obtain⟨_,rfl⟩:=len1 h;rfl);obtain⟨_,_,aU,_⟩:=gi (ps:=["kind","tree"]) X G vq (λ_ _ _ _ _ _ _ h=>by obtain⟨_,_,rfl⟩:=len2 h;rfl);obtain⟨_,_,aF,_⟩:=gi (ps:=["fields","value"]) X G vv (λ_ _ _ _ _ _ _ h=>by obtain⟨_,_,rfl⟩:=len2 h;rfl);obtain⟨_,_,aZ,_⟩:=gi (ps:=["kind","row"]) X G vw (λ_ _ _ _ _ _ _ h=>by obtain⟨_,_,rfl⟩:=len2 h;rfl);obtain⟨_,_,aY,_⟩:=gi (ps:=XY) X G vx (λ_ _ _ _ _ _ _ h=>by obtain⟨_,_,rfl⟩:=len2 h;rfl);obtain⟨_,_,aQ,_⟩:=gi (ps:=["kind","seen"]) X G vy (λ_ _ _ _ _ _ _ h=>by obtain⟨_,_,rfl⟩:=len2 h;rfl);obtain⟨_,_,a2,_⟩:=gi (ps:=["look","value"]) X G vA (λ_ _ _ _ _ _ _ h=>by obtain⟨_,_,rfl⟩:=len2 h;rfl);obtain⟨_,_,aV,_⟩:=gi (ps:=["path","value"]) X G vB (λ_ _ _ _ _ _ _ h=>by obtain⟨_,_,rfl⟩:=len2 h;rfl);obtain⟨_,_,a7,_⟩:=gi (ps:=["look","there"]) X G vC (λ_ _ _ _ _ _ _ h=>by obtain⟨_,_,rfl⟩:=len2 h;rfl);obtain⟨_,_,I,_⟩:=gi (ps:=XD) X G vD (λ_ _ _ _ _ _ _ h=>by obtain⟨_,_,rfl⟩:=len2 h;rfl);obtain⟨_,_,an,_⟩:=gi (ps:=XD) X G vE (λ_ _ _ _ _ _ _ h=>by obtain⟨_,_,rfl⟩:=len2 h;rfl);obtain⟨_,_,ax,_⟩:=gi (ps:=XD) X G vF (λ_ _ _ _ _ _ _ h=>by obtain⟨_,_,rfl⟩:=len2 h;rfl);obtain⟨_,_,ae,_⟩:=gi (ps:=Xf) X G vG (λ_ _ _ _ _ _ _ h=>by obtain⟨_,_,_,rfl⟩:=sx h;rfl);obtain⟨_,_,af,_⟩:=gi (ps:=XD) X G vH (λ_ _ _ _ _ _ _ h=>by obtain⟨_,_,rfl⟩:=len2 h;rfl);obtain⟨_,_,aW,_⟩:=gi (ps:=XJ) X G vL (λ_ _ _ _ _ _ _ h=>by obtain⟨_,_,_,_,rfl⟩:=jI h;rfl);obtain⟨_,_,aa,_⟩:=gi (ps:=XJ) X G vM (λ_ _ _ _ _ _ _ h=>by obtain⟨_,_,_,_,rfl⟩:=jI h;rfl);obtain⟨_,_,ay,_⟩:=gi (ps:=Xe) X G vN (λ_ _ _ _ _ _ _ h=>by obtain⟨_,_,_,rfl⟩:=sx h;rfl);obtain⟨_,_,Y,_⟩:=gi (ps:=Xd) X G vO (λ_ _ _ _ _ _ _ h=>by obtain⟨_,_,rfl⟩:=len2 h;rfl);obtain⟨_,_,J,_⟩:=gi (ps:=XM) X G vP (λ_ _ _ _ _ _ _ h=>by obtain⟨_,_,_,_,rfl⟩:=jI h;rfl);obtain⟨_,_,au,_⟩:=gi (ps:=XG) X G vQ (λ_ _ _ _ _ _ _ h=>by obtain⟨_,_,_,rfl⟩:=sx h;rfl);obtain⟨_,_,aJ,_⟩:=gi (ps:=XQ) X G vR (λ_ _ _ _ _ _ _ h=>by obtain⟨_,_,rfl⟩:=len2 h;rfl);obtain⟨_,_,ag,_⟩:=gi (ps:=Xk) X G vS (λ_ _ _ _ _ _ _ h=>by obtain⟨_,_,rfl⟩:=len2 h;rfl);obtain⟨_,_,ao,_⟩:=gi (ps:=Xm) X G vT (λ_ _ _ _ _ _ _ h=>by obtain⟨_,_,rfl⟩:=len2 h;rfl);obtain⟨_,_,av,_⟩:=gi (ps:=XW) X G vU (λ_ _ _ _ _ _ _ h=>by obtain⟨_,_,_,_,rfl⟩:=jI h;rfl);obtain⟨_,_,ap,_⟩:=gi (ps:=XU) X G vV (λ_ _ _ _ _ _ _ h=>by obtain⟨_,_,_,_,rfl⟩:=jI h;rfl);obtain⟨_,_,az,_⟩:=gi (ps:=Xc) X G vW (λ_ _ _ _ _ _ _ h=>by obtain⟨_,_,_,_,rfl⟩:=jI h;rfl);obtain⟨_,_,am,_⟩:=gi (ps:=Xg) X G vX (λ_ _ _ _ _ _ _ h=>by obtain⟨_,_,rfl⟩:=len2 h;rfl);obtain⟨_,_,aA,_⟩:=gi (ps:=XX) X G vY (λ_ _ _ _ _ _ _ h=>by obtain⟨_,_,_,_,rfl⟩:=jI h;rfl);obtain⟨_,_,aq,_⟩:=gi (ps:=XF) X G vZ (λ_ _ _ _ _ _ _ h=>by obtain⟨_,_,_,_,rfl⟩:=jI h;rfl);obtain⟨_,_,aK,_⟩:=gi (ps:=XV) X G v5 (λ_ _ _ _ _ _ _ h=>by obtain⟨_,_,_,_,rfl⟩:=jI h;rfl);obtain⟨_,_,ai,_⟩:=gi (ps:=XG) X G v7 (λ_ _ _ _ _ _ _ h=>by obtain⟨_,_,_,rfl⟩:=sx h;rfl);obtain⟨_,_,aj,_⟩:=gi (ps:=XF) X G v8 (λ_ _ _ _ _ _ _ h=>by obtain⟨_,_,_,_,rfl⟩:=jI h;rfl);obtain⟨_,_,aL,_⟩:=gi (ps:=XN) X G v9 (λ_ _ _ _ _ _ _ h=>by obtain⟨_,_,_,_,_,rfl⟩:=DG h;rfl);obtain⟨_,_,aw,_⟩:=gi (ps:=XD) X G v_ (λ_ _ _ _ _ _ _ h=>by obtain⟨_,_,rfl⟩:=len2 h;rfl);obtain⟨_,_,bb,hB⟩:=gi (ps:=["_law_script"]) X G wa (λ_ _ _ _ _ _ _ h=>by obtain⟨_,rfl⟩:=len1 h;rfl);subst wx
 have aB:Dn K mg "_law_rows" hZ (top 36) fR (W.fnOf "_law_rows" "_law_rows" (il (top 36)) (g_ (top 36)) (eX (top 36)) .none br bt bu bq (.ref cR) bv):=by
  have F:=o9 (st:=(top 36)) lR wb kR;exact⟨F,F.binds (λ_ _ _ _ _ _ _ h=>by obtain⟨_,_,_,_,rfl⟩:=jI h;rfl),W.mg_of X G aR⟩
 subst wz
 have aC:Dn K mg "_law_some" pJ (top 47) fS (W.fnOf "_law_some" "_law_some" (il (top 47)) (g_ (top 47)) (eX (top 47)) .none bx bz bA bw (.ref cS) bB):=by
  have F:=o9 (st:=(top 47)) lS wc kS;exact⟨F,F.binds (λ_ _ _ _ _ _ _ h=>by obtain⟨_,_,_,_,_,rfl⟩:=DG h;rfl),W.mg_of X G aS⟩
 subst wB
 have aM:Dn K mg "in_order" jd (top 15) fN (W.fnOf "in_order" "in_order" (il (top 15)) (g_ (top 15)) (eX (top 15)) .none bD bE bF bC (.ref cN) bG):=by
  have F:=o9 (st:=(top 15)) lN we kN;exact⟨F,F.binds (λ_ _ _ _ _ _ _ h=>by obtain⟨_,_,rfl⟩:=len2 h;rfl),W.mg_of X G aN⟩
 subst wD
 have ar:Dn K mg "_law_sorted" pI (top 52) fO (W.fnOf "_law_sorted" "_law_sorted" (il (top 52)) (g_ (top 52)) (eX (top 52)) .none bI bJ bK bH (.ref cO) bL):=by
  have F:=o9 (st:=(top 52)) lO wg kO;exact⟨F,F.binds (λ_ _ _ _ _ _ _ h=>by obtain⟨_,_,rfl⟩:=len2 h;rfl),W.mg_of X G aO⟩
 obtain⟨_,ac⟩:=vg (ps:=Xp) sy (λ_ _ _ _ _ _ _ h=>by obtain⟨_,_,rfl⟩:=len2 h;rfl);obtain⟨_,aD⟩:=vg (ps:=Xl) sC (λ_ _ _ _ _ _ _ h=>by obtain⟨_,_,_,_,rfl⟩:=jI h;rfl);obtain⟨_,U⟩:=vg (ps:=["self","way"]) sE (λ_ _ _ _ _ _ _ h=>by obtain⟨_,_,rfl⟩:=len2 h;rfl);have e:=b4.symm.trans bb.m
 cases e;refine⟨_,λs v=>.of_eq (hB [v] rfl),λbase X1 _ ba=>?_⟩;have bj:=W.codeHd_of_K X1 wy;have b1:=W.codeHd_of_K X1 wA;have b2:=W.codeHd_of_K X1 wC;have b3:=W.codeHd_of_K X1 wF;obtain⟨t1,t2,t3,t4,t5,t6⟩:=wq;have MI:=lx.meth sy;have OF:pZ K mg ak ah aI:=⟨⟨t1,t2,t3,t4⟩,wo,⟨t5,MI.1,MI.2,t6⟩,W.mg_of X G wj,lx.meth sC⟩;have XC:=KY X G X1 wm sE.2.2.1 wu;have N0:=mV (P:=l.prog) (w:=w) (base:=base) T I;have N:=nW N0;have Nm:=Br T ae I N;have Pl:=uv T af I N;have ci:=λd=>kind_all (P:=l.prog) (w:=w) (base:=base) T ay I af ae aW aa d;have cj:=Bu 1 T aa ae Nm I N af Pl ay (ci 1);have V_:=uE (P:=l.prog) (w:=w) T J aB rfl bj ba I an ax Y 60;have M:=CM (P:=l.prog) (w:=w) (base:=base) T aX aE a6 aT aZ aU a9 aF a8;have cm:=uE (P:=l.prog) (w:=w) T J aB rfl bj ba I an ax Y 20;have AA:=CG (P:=l.prog) (w:=w) (base:=base) T au 15;have Rk:=BD (P:=l.prog) (w:=w) (base:=base) T aZ;have bM:=BC (P:=l.prog) (w:=w) (base:=base) T Y;have IO:=Ir T aM rfl b2 ba aZ Rk;have LS:=Iu T ar rfl b3 ba Y bM;have SO:=Iy 60 T aC rfl b1 ba I N0 Y bM J V_;have PO:=Jo 60 T aA J V_;have AL:=BZ (P:=l.prog) (w:=w) (base:=base) T ag;have TH:=H_ T av I N J cm;have SI:=Ib T ap I N av TH ag AL;have cn:=B3 (P:=l.prog) (w:=w) (base:=base) T a2 aV a7 3;have TR:=B4 (P:=l.prog) (w:=w) (base:=base) T am ag 3;have LO:=B8 (P:=l.prog) (w:=w) (base:=base) (K:=K) T az I 2;have PC:=B9 (P:=l.prog) (w:=w) (base:=base) (K:=K) T ao 3;have KI:=JS (P:=l.prog) (w:=w) (base:=base) T OF ac;have BY:=JU (P:=l.prog) (w:=w) (base:=base) T aY;have bN:=JW (P:=l.prog) (w:=w) T XC U;have AF:=JX 15 60 T XC aQ aX (M 15).1 U bN;have KP:=J4 15 64 T OF XC aD aQ AF a2 cn aY BY aM IO U bN (by decide);have LP:=J6 15 65 T OF XC aK aD KP;have WY:=Kg (P:=l.prog) (w:=w) (base:=base) T aJ;have SE:=Ki 15 T ai aJ WY au AA;have co:=Kl T aj I N ao PC J V_ ap SI az LO;have SP:=Ku 12 T aq I N0;have DU:=Ko 15 T aL am TR ar LS;have RO:=KH lh T OF aw I N aa cj aA (PO.mono (by decide)) aC (SO.mono (by decide)) aj co am TR aq SP ac KI aL DU ai SE aK (LP.mono (by decide));exact KN T bb aw RO
theorem KZ {K:W.Frag}{x:Str}{f c P:Addr}{oc J:Value}{od U:Option Addr}{fd:FuncData}{sl Y:Array (Option Value)}{I:Array Value}(a:W.nsIn K mainGlobals x=some (some (.ref f)))(l:K.lookup f=some ⟨oc,od,.func fd,sl⟩)(hc:fd.code=.ref c)
 (lc:K.lookup c=some ⟨J,U,.fields I,Y⟩) (hP:I[11]? =some (.ref P)):W.tabIn K x=some (c,P):=by
 unfold W.tabIn;rw[a];dsimp only;rw[l];dsimp only;rw[hc];dsimp only;rw[lc];dsimp only;rw[hP]
def K0 (K:W.Frag) (I:List (Addr × Addr)):Sp:=λvs H Q _=>∃(a:Addr) (ns:List Int),vs=[.ref a]/\jf K H a ns/\ns.length<=63/\(∀q∈I,H q.2=some (.gF #[]))/\∀H',Q (.bl true) H'
theorem jf.ofT {K:W.Frag}{H:Hp}{a:Addr}{ns:List Int}{I:List Addr}(o:qP I H)(h:eA K H a (ns.map V.int)):jf K H a ns:=by
 rcases h with(h|h)|h
 . rcases o a with z|⟨J,xs,z⟩|⟨_,z⟩ <;> rw[h] at z <;> cases z
 . exact .inl h
 . exact .inr h
theorem walk {l:W.OpenLaw}{q:Program}{loose:List Str}{XP:(Str->Option Value)->Heap->Prop}{YP:World->Heap->Prop}{d:DefRec}{K:Params->W.Frag}(hn:l.most=some 63)(aa:d.params.defaults=[])
 (hY:∀(w:World) (h:Heap),YP w h->(K w.params).In h) (ab:∀w:World,W.noTabs (K w.params)=true) (Y:∀y∈(Xn:List Str),∃d',(PyProof.Rows.recsOf q).find? (λe=>e.name == y)=some d')
 (F:∀w:World,∃c Pt c2 J c3 P3 c4 U:Addr,W.tabIn (K w.params) "_law_rows"=some (c,Pt)/\W.tabIn (K w.params) "_law_some"=some (c2,J)/\W.tabIn (K w.params) "in_order"=some (c3,P3)/\W.tabIn (K w.params) "_law_sorted"=some (c4,U)/\∀(mg:Str->Option Value) (fa:Addr) (h:Heap),(K w.params).In h->h.Ns mainGlobals mg->mg d.name=some (.ref fa)->
   ∃fd:FuncData,(∀(s:Shared) (u:Value),BindsTo s fd ⟨[u],[]⟩ [("_law_script",u)])/\∀base:Heap,(K w.params).In base->base.Ns mainGlobals mg->BM mg base->eE l.prog w (K w.params) mg base eI 133 fa fd ["_law_script"] (vf (K w.params) Pt J P3 U)):
 W.WalkO q loose XP YP l.row.toRowW d [] (λf vs=>PySem.call f vs):=
 L2.G3 (n:=63) (k:=133) (x:="_law_script") (names:=Xn) (sp:=λw I=>K0 (K w.params) I) hn (by decide) aa ⟨rfl,by decide,by decide⟩ hY ab (λw=>by
   obtain⟨c,Pt,c2,J,c3,P3,c4,U,ht,lg,pN,wG,F⟩:=F w;refine⟨[(c,Pt),(c2,J),(c3,P3),(c4,U)],λq' hq=>?_,λmg fa h X G hm=>?_⟩
   . simp only[Q2o,Q2p,or_false] at hq;rcases hq with e|e|e|e
     . exact⟨"_law_rows",by simp,by rw[e];exact ht⟩
     . exact⟨"_law_some",by simp,by rw[e];exact lg⟩
     . exact⟨"in_order",by simp,by rw[e];exact pN⟩
     . exact⟨"_law_sorted",by simp,by rw[e];exact wG⟩
   obtain⟨fd,hb,hF⟩:=F mg fa h X G hm;exact⟨fd,hb,λbase X1 G1 B=>(hF base X1 G1 B).imp λvs H Q E ⟨a,ns,e,hS,hl,hT,q⟩=>⟨a,ns,e,hS,hl,.inl (hT (c,Pt) (by simp)),.inl (hT (c2,J) (by simp)),.inl (hT (c3,P3) (by simp)),.inl (hT (c4,U) (by simp)),q⟩⟩)
   Y λw I H a ns hl hO ac ae=>⟨a,ns,rfl,jf.ofT hO ae,hl,ac,λ_=>rfl⟩
end Pb
open W PyProof.Rows
set_option maxRecDepth 100000 in
set_option maxHeartbeats 0 in
theorem PySem.Challenge.cw_putback_k41_keep_refused_and_twice_holds : PySem.Challenge.rw_putback_k41_keep_refused_and_twice.Holds := by
 w_on
 refine holds_law Pb.said λsaid=>?_;refine holds_open (q:=Pb.qv) (loose:=[]) (Xt:=λs=>xlAt Pb.qv [] s && recOk (RowW.records (PySem.W.OpenRow.toRowW (PySem.W.OpenLaw.row PySem.Challenge.rw_putback_k41_keep_refused_and_twice))) s) (XP:=XL Pb.qv []) (Yf:=Hook.obs (PySem.W.kmHook Pb.KK Pb.lz Pb.l6 [116,320,424,441])) (Ya:=Hook.val (PySem.W.kmHook Pb.KK Pb.lz Pb.l6 [116,320,424,441])) (YP:=Hook.says (PySem.W.kmHook Pb.KK Pb.lz Pb.l6 [116,320,424,441])) (N:=11013) ?hl (Hook.of (PySem.W.kmHook Pb.KK Pb.lz Pb.l6 [116,320,424,441])) (Hook.keeps (PySem.W.kmHook Pb.KK Pb.lz Pb.l6 [116,320,424,441])) (λs e=>xl_of s (Bool.and_eq_true_iff.mp e).1) XL.keeps (by rfl) (by rfl) (by rfl) (λs e=>recFacts_of (Bool.and_eq_true_iff.mp e).2) (by rfl) (by first|assumption|decide +kernel) (by decide +kernel) ⟨rfl,rfl,rfl,rfl,rfl,by decide +kernel⟩ ?hw ?hc
 case hl=>exact Pb.DX (by rfl) (by rfl) (λs=>rfl) (by rfl) (Q3q 25 Pb.sI).symm (λP=>by kernel_rfl) Pb.Ec (Pb.DY Pb.Ed (Pb.DZ Pb.Ee Pb.Ef Pb.Eg))
 (case hw=>w_witness2)
 k_fill
 refine Pb.walk (l:=PySem.Challenge.rw_putback_k41_keep_refused_and_twice) rfl rfl (λw h Y=>PySem.W.km_in_of Y) (λw=>by kernel_rfl) ?HR ?F
 case HR=>intro y hy;simp only[Q2o,Q2p,or_false] at hy;rcases hy with rfl|rfl|rfl|rfl <;> exact⟨_,rfl⟩
 case F=>
  intro w
  refine' ⟨_,_,_,_,_,_,_,_,?ht,?lg,?pN,?wG,?GG⟩
  case ht|lg|pN|wG=>
   refine' Pb.KZ ?ta ?tl ?tc ?K1 ?tP
   (case ta=>k_is);(case tl=>k_is);(case tc=>rfl);(case K1=>k_is);(case tP=>rfl)
  case GG=>
   intro mg fa h KX G hmg
   refine' Pb.all_mk KX G hmg ?vi ?vj ?vk ?vm ?vo ?vp ?vq ?vv ?vw ?vx ?vy ?vA ?vB ?vC ?vD ?vE ?vF ?vG ?vH ?vL ?vM ?vN ?vO ?vP ?vQ ?vR ?vS ?vT ?vU ?vV ?vW ?vX ?vY ?vZ ?v5 ?v7 ?v8 ?v9 ?v_ ?wa ?aR ?lR ?wb ?kR ?aS ?lS ?wc ?kS ?aN ?lN ?we ?kN ?aO ?lO ?wg ?kO ?zz ?wj ?DJ ?DK ?wm ?DL ?DM ?sy ?sC ?sE ?wo ?wq ?wu ?wx ?DN ?DO ?wy ?wz ?DP ?DQ ?wA ?wB ?DR ?DS ?wC ?wD ?DT ?DV ?wF ?lh
   case vi|vj|vk|vm|vo|vp|vq|vv|vw|vx|vy|vA|vB|vC|vD|vE|vF|vG|vH|vL|vM|vN|vO|vP|vQ|vR|vS|vT|vU|vV|vW|vX|vY|vZ|v5|v7|v8|v9|v_|wa=>
    refine' Pb.KO ?a ?l ?c ?k
    (case a=>k_is);(case l=>k_is);(case c=>k_is);(case k=>k_is)
   (case aR=>k_is);(case lR=>k_is);(case wb=>k_is);(case kR=>k_is)
   (case aS=>k_is);(case lS=>k_is);(case wc=>k_is);(case kS=>k_is)
   (case aN=>k_is);(case lN=>k_is);(case we=>k_is);(case kN=>k_is)
   (case aO=>k_is);(case lO=>k_is);(case wg=>k_is);(case kO=>k_is)
   case zz=>intro x hx;simp only[Q2o,Q2p,or_false] at hx;rcases hx with rfl|rfl|rfl|rfl|rfl|rfl|rfl|rfl|rfl|rfl|rfl|rfl|rfl|rfl <;> k_is
   (case wj=>k_is);(case DJ=>k_is);(case DK=>rfl)
   (case wm=>k_is);(case DL=>k_is);(case DM=>rfl)
   case sy|sC|sE=>
    refine' Pb.KQ ?a ?l ?c ?k ?f ?g
    (case a=>k_is);(case l=>k_is);(case c=>k_is);(case k=>k_is);(case f=>kernel_rfl);(case g=>kernel_rfl)
   case wo=>kernel_rfl
   case wq=>refine⟨?_,?_,?_,?_,?_,?_⟩ <;> kernel_rfl
   case wu=>refine⟨?_,?_,?_,?_,?_,?_,?_,?_,?_,?_,?_,?_,?_,?_⟩ <;> kernel_rfl
   (case wx=>rfl);(case DN=>k_is);(case DO=>rfl);(case wy=>kernel_rfl)
   (case wz=>rfl);(case DP=>k_is);(case DQ=>rfl);(case wA=>kernel_rfl)
   (case wB=>rfl);(case DR=>k_is);(case DS=>rfl);(case wC=>kernel_rfl)
   (case wD=>rfl);(case DT=>k_is);(case DV=>rfl);(case wF=>kernel_rfl)
   (case lh=>exact⟨by decide,by decide,by decide,by decide,by decide,by decide⟩)
