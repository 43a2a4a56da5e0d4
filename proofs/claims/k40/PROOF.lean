import PyProof.Rows.All
import Wide.All
import OpenK.AllK
import Wide.FinOn
import Lean
import PyProof.EqAt
import PyProof.EqKinds
import PyProof.TupleCall
import KE.KSortAsk
import PyProof.NeKinds
import PyProof.StationsW
import PyProof.ExcClass3
import PyProof.Rows.Own
import PyProof.NsDelKeeps
import KE.KIsAll
import PyProof.ExcAttrAll.ValueError
import PyProof.IsiH_list
import PyProof.Rows.FStr
import PyProof.FString4
import PyProof.StrLawsRepr
import PyProof.Rows.StrMeet
import KE.KEqDict
import PyProof.Draws
import KE.KDictOf
import PyProof.ExcInit
import PyProof.InstStoreFacts
import PyProof.ExcBaseAll.ValueError
import PySem.Challenge.RW_putback_k40_keep
theorem Zr {α:Sort _}{A B:α->Prop}{x:α}(a:A x)(b:B x):∃y,A y/\B y:=⟨x,a,b⟩
abbrev XA:List PySem.Str:=["_law_script","_law_at","_law_m","_law_many","_law_wide","_law_kind_here","_law_source","_law_other","_law_twins","_law_look_here","_law_shown","_law_hidden","_law_taken","_law_seen","_law_view","_law_end"]
abbrev XB:List PySem.Str:=["_law_row","_law_script","_law_at","_law_m","_law_many","_law_wide","_law_kind_here","_law_source","_law_other","_law_twins","_law_look_here","_law_shown","_law_hidden","_law_taken","_law_seen","_law_view","_law_end"]
abbrev XD:List PySem.Str:=["_law_script","_law_at"]
abbrev XE:List PySem.Str:=["_law_a","_law_b","_law_kind_here","_law_found","_law_due","_law_name","_law_inner"]
abbrev XF:List PySem.Str:=["_law_script","_law_at","_law_kind_here","_law_many"]
abbrev XG:List PySem.Str:=["_law_kind_here","_law_found","_law_due"]
abbrev XH:List PySem.Str:=["_law_kind_here","_law_found","_law_due","_law_name","_law_inner"]
abbrev XI:List PySem.Str:=["_law_script","_law_at","_law_many","_law_deep"]
abbrev XJ:List PySem.Str:=["_law_script","_law_at","_law_kind_here","_law_room"]
abbrev XM:List PySem.Str:=["_law_script","_law_at","_law_kind_here","_law_pool_here","_law_room","_law_rows_here","_law_one","_law_m","_law_row"]
abbrev XN:List PySem.Str:=["_law_script","_law_at","_law_kind_here","_law_rows_here"]
abbrev XO:List PySem.Str:=["fields","record"]
abbrev XQ:List PySem.Str:=["_law_script","_law_at","_law_kind_here","_law_room","_law_made","_law_name","_law_inner","_law_top","_law_many"]
abbrev XR:List PySem.Str:=["_law_script","_law_at","_law_place","_law_value_here"]
abbrev XS:List PySem.Str:=["_law_view","_law_kind_here","_law_source","_law_seen"]
abbrev XT:List PySem.Str:=["_law_script","_law_at","_law_kind_here","_law_there"]
abbrev XU:List PySem.Str:=["kind","rows"]
abbrev XV:List PySem.Str:=["_law_kind_here","_law_rows_here"]
abbrev XW:List PySem.Str:=["_law_script","_law_at","_law_kind_here","_law_room","_law_rows_here","_law_seen","_law_k","_law_row"]
abbrev XX:List PySem.Str:=["_law_script","_law_at","_law_kind_here","_law_many","_law_lead","_law_pool_here","_law_k","_law_one"]
abbrev XY:List PySem.Str:=["_law_script","_law_at","_law_leaves","_law_deep"]
abbrev XZ:List PySem.Str:=["self","kind","source"]
abbrev Xa:List PySem.Str:=["_law_kind_here","_law_row"]
abbrev Xb:List PySem.Str:=["_law_script","_law_at","_law_deep"]
abbrev Xc:List PySem.Str:=["_law_script","_law_at","_law_many"]
abbrev Xd:List PySem.Str:=["_law_look_here","_law_value_here"]
abbrev Xe:List PySem.Str:=["_law_script","_law_at","_law_kind_here","_law_pool_here","_law_room"]
abbrev Xf:List PySem.Str:=["self","kind","source","seen","hidden","hidden_keys","number","row"]
abbrev Xg:List PySem.Str:=["_law_script","_law_at","_law_many","_law_deep","_law_names_here"]
abbrev Xh:List PySem.Str:=["look","there"]
abbrev Xi:List PySem.Str:=["_law_path","_law_value_here"]
abbrev Xj:List PySem.Str:=["self","kind","source","seen"]
abbrev Xk:List PySem.Str:=["_law_kind_here","_law_path"]
abbrev Xl:List PySem.Str:=["_law_rows","_law_some","in_order","_law_sorted"]
abbrev Xm:List PySem.Str:=["look","number","kind"]
abbrev Xn:List PySem.Str:=["self","look"]
abbrev Xo:List PySem.Str:=["self","name"]
theorem zzx {α:Sort _}{β:α->Sort _}{γ:∀a,β a->Sort _}{δ:∀a b,γ a b->Sort _}{p:∀a b c,δ a b c->Prop}{G:Prop}(h:∃a b c d,p a b c d)(k:∀a b c d,p a b c d->G):G:=let⟨a,b,c,d,e⟩:=h;k a b c d e
theorem zza {A B C D E G:Prop}(h:A/\B/\C/\D/\E)(k:A->B->C->D->E->G):G:=k h.1 h.2.1 h.2.2.1 h.2.2.2.1 h.2.2.2.2
local macro_rules|`(tactic|obtain⟨$s,*⟩:=$t)=>do
 let a:=s.getElems;if a.size<6 then Lean.Macro.throwUnsupported
 let b:=a.extract 4 a.size;let q←(a.extract 0 4).mapM λp=>`(rintroPat|($p:rcasesPatLo));let c←match t with|`($x:ident)=>`(tactic|try clear $x)|_=>`(tactic|skip)
 `(tactic|((first|refine zzx $t ?_|refine zza $t ?_);$c;rintro $q* e;obtain⟨$b,*⟩:=e))
open PySem renaming wpAny_bind→Q0,wpAny_pure→Q0c,wpAny_mono→Q0o
open Nat renaming le_refl→Q00,zero_le→Q07,ne_of_lt→Q08,lt_of_lt_of_le→Q0a,le_trans→Q0f,le_of_lt→Q0k,lt_irrefl→Q0p,ne_of_gt→Q0s,mul_le_mul_right→Q0w,lt_succ_self→Q1,le_of_not_lt→Q15,le_succ→Q19,lt_of_le_of_lt→Q1b,le_add_right→Q1e,succ_mul→Q1f,one_le_pow→Q1h,le_of_eq→Q1k,add_le_add_left→Q1z,not_lt_zero→Q2,le_max_left→Q23,le_max_right→Q24,pow_succ→Q25,succ_le_succ→Q2c,mul_left_comm→Q2v,add_le_add_right→Q2z,mul_le_mul_left→Q3,le_mul_of_pos_right→Q31,sub_succ_lt_self→Q32
open PySem.Heap renaming lt_size→Q01,get?_push_of_some→Q09,get?_push_size→Q0l,get?_update_other→Q10,get?_update_self→Q1m,size_push→Q1u,size_update→Q22,get?_push_ne→Q2s
open List renaming size_toArray→Q02,getElem?_eq_getElem→Q03,length_map→Q04,mem_cons_self→Q05,mem_append_right→Q06,mem_cons_of_mem→Q0b,length_append→Q0d,getD_eq_getElem?_getD→Q0e,length_cons→Q0h,map_append→Q0j,mem_of_getElem?→Q0m,length_take→Q0n,getElem?_map→Q0q,take_length→Q0r,take_succ→Q0t,mem_append_left→Q0u,getElem_mem→Q0v,nodup_nil→Q0x,map_cons→Q0y,all_eq_true→Q0z,mem_map_of_mem→Q11,getElem_take→Q12,find?_cons→Q14,getElem_of_mem→Q16,append_assoc→Q17,append_nil→Q18,any_cons→Q1a,lookup_cons→Q1c,getElem?_set_ne→Q1j,length_replicate→Q1l,length_singleton→Q1n,flatten_append→Q1q,filterMap_cons→Q1r,getElem_inj→Q1s,getElem?_set_self→Q1t,of_mem_zip→Q1v,getElem?_append_right→Q1w,take_sublist→Q1x,pairwise_map→Q20,length_range→Q21,replicate_succ→Q26,any_map→Q27,drop_eq_getElem_cons→Q28,drop_length→Q29,take_zero→Q2a,any_eq_true→Q2b,length_filter_le→Q2d,mem_cons→Q2e,not_mem_nil→Q2f,getElem?_replicate→Q2h,getElem?_append_left→Q2i,all_cons→Q2k,length_nil→Q2l,forIn_cons→Q2m,ext_getElem→Q2p,pairwise_singleton→Q2q,zip_cons_cons→Q2u,foldl_cons→Q2w,take_of_length_le→Q30,filter_sublist→Q34,filter_append_perm→Q35
open Int renaming emod_nonneg→Q0g,emod_lt_of_pos→Q0i,le_refl→Q13,mul_le_mul_of_nonneg_right→Q1g,natCast_add→Q1o,add_mul→Q1p,toNat_natCast→Q2x,lt_of_lt_of_le→Q2y,mul_le_mul→Q33
open Array renaming getD_eq_getD_getElem?→Q1d,length_toList→Q1i,empty_append→Q2g,getElem?_eq_getElem→Q2o,size_append→Q2r,forIn_toList→Q2t
open Option renaming isSome_map→Q1y,getD_none→Q2j,getD_some→Q2n
set_option genSizeOf false
set_option Elab.async false
set_option linter.all false
set_option maxRecDepth 100000
set_option maxHeartbeats 4000000
open PySem
theorem vE:2<=PySem.sizeLine:=by decide
namespace L2
open Spec PyProof.Rows
noncomputable def h_ (s:Stmt):Arguments:=match s with
 | .FunctionDef _ a _ _ _ _ _ _ _ _=>a
 |_=>{ posonlyargs:=[],args:=[],vararg:=none,kwonlyargs:=[],kw_defaults:=[],kwarg:=none,defaults:=[] }
noncomputable def g6 (s:Stmt):List Stmt:=match s with
 | .FunctionDef _ _ b _ _ _ _ _ _ _=>b
 |_=>[]
noncomputable def eS (s:Stmt):Scope:=match s with
 | .FunctionDef _ _ _ _ _ _ sc _ _ _=>sc
 |_=>{ kind:=.function,names:=[],isGenerator:=false,isCoroutine:=false }
end L2
namespace Pb
open L2
noncomputable def top (i:Nat):Stmt:=PySem.Challenge.pw_putback_k40_keep.main.body.getD i (.Pass ⟨0,0,0,0⟩)
noncomputable def fE (i j:Nat):Stmt:=match top i with
 | .ClassDef _ _ _ body _ _ _ _ _ _ _=>body.getD j (.Pass ⟨0,0,0,0⟩)
 |_=>.Pass ⟨0,0,0,0⟩
end Pb
namespace Pb
open W
noncomputable def treeOf:List Obj->Nat->BT->Option BT
 |[],_,t=>some t
 |o::l,n,t=>match((t.ins n o).get n).isSome with
  |true=>treeOf l (n+1) (t.ins n o)
  |false=>none
theorem vF {life:Life}:∀(l:List Obj) (n:Nat) (t t':BT),treeOf l n t=some t'->absHeap t' (n+l.length) life=⟨(absHeap t n life).objs++l.toArray,life⟩
 |[],n,t,t',h=>by
  cases h;show absHeap t n life=_;have:(absHeap t n life).objs++#[]=(absHeap t n life).objs:=Array.append_empty;rw[this];rfl
 |o::l,n,t,t',h=>by
  unfold treeOf at h
  cases e:((t.ins n o).get n).isSome with
  |false=>rw[e] at h;cases h
  |true=>
   rw[e] at h;have:=vF (life:=life) l (n+1) _ t' h;rw[absHeap_ins e] at this;have I:n+(o::l).length=n+1+l.length:=by rw[Q0h];omega
   rw[I,this];show Heap.mk ((absHeap t n life).objs.push o++l.toArray) life=_;congr 1;apply Array.ext';simp
noncomputable def nQ (tb:String->Option Builtin) (p:Program) (w:World) (I:Nat) (J:Option Value):Nat->SharedT->Thread->Option SharedT
 |0,_,_=>none
 |n+1,s,t=>match through t with
  |true=>some s
  |false=>match stepOk I J t with
   |false=>none
   |true=>match stepT (denote tb) p w s t with
    |some (s',t')=>nQ tb p w I J n s' t'
    |none=>none
theorem vG {tb:String->Option Builtin}{p:Program}{w:World}{I:Nat}{J:Option Value}:∀{n:Nat}{s s':SharedT}{t:Thread},nQ tb p w I J n s t=some s'->topRun tb p w I J n s.abs t=some s'.abs
 |0,_,_,_,h=>by cases h
 |n+1,s,s',t,h=>by
  unfold nQ at h;unfold topRun
  cases Y:through t with
  |true=>rw[Y] at h;cases h;rfl
  |false=>
   rw[Y] at h
   cases hk:stepOk I J t with
   |false=>rw[hk] at h;cases h
   |true=>
    rw[hk] at h
    cases U:stepT (denote tb) p w s t with
    |none=>rw[U] at h;cases h
    |some r=>obtain⟨aa,ab⟩:=r;rw[U] at h;rw[stepT_spec U];exact vG h
noncomputable abbrev lq:=@W.Fast.tw10156331382660048174
noncomputable abbrev jq:=@W.Fast.tw11892475500146522536
noncomputable abbrev jr:=@W.Fast.tw14364793385576792824
noncomputable abbrev nR:=@W.Fast.tw6613529449190102663
noncomputable abbrev seenQ:=@W.Fast.tw4187177175401517315
noncomputable def lr (p:Program) (w:World) (I:Nat) (J:Option Value):Nat->SharedT->Thread->Option SharedT
 |0,_,_=>none
 |n+1,s,t=>match through t with
  |true=>some s
  |false=>match nR I J t with
   |false=>none
   |true=>match lq (jq jr) p w s t with
    |some (s',t')=>lr p w I J n s' t'
    |none=>none
theorem vH {p:Program}{w:World}{I:Nat}{J:Option Value}:∀(n:Nat) (s:SharedT) (t:Thread),lr p w I J n s t=nQ treeTable p w I J n s t
 |0,_,_=>rfl
 |n+1,s,t=>by
  unfold lr nQ;have U:nR I J t=stepOk I J t:=congrFun (congrFun (congrFun W.Fast.te6613529449190102663.symm _) _) _;have Y:lq (jq jr) p w s t=stepT (denote treeTable) p w s t:=by rw[show @lq=@stepT from W.Fast.te10156331382660048174.symm,show @jq=@denote from W.Fast.te11892475500146522536.symm,show @jr=@treeTable from W.Fast.te14364793385576792824.symm]
  rw[U,Y];simp only[vH n]
noncomputable def looksAt (p q:Program) (loose:List Str) (Xt:Shared->Bool) {α:Type}(Yf:Shared->α) (g0:Bool) (h₀:Heap) (s:Shared):=
 ((staticsOk (importedModules p.main.body) h₀ s.heap && namesBound p s.heap && gensDone s && laidKept h₀ s.heap),seenQ q loose (importedModules p.main.body) Xt g0 s,Yf s)
noncomputable def vI:List (Nat × Obj)->BT->BT
 |[],t=>t
 |(a,o)::l,t=>vI l (t.ins a o)
noncomputable def rd:Nat->List Obj->BT->BT
 |_,[],t=>t
 |n,o::l,t=>rd (n+1) l (t.ins n o)
noncomputable def nS (p:Program) (w:World) (I:Nat) (J:Option Value):Nat->SharedT->Thread->Option (Flow × SharedT × Code × Pos)
 |0,_,_=>none
 |n+1,s,t=>match endAt 1 t with
  |some f=>some (f,s,t.code,t.pos)
  |none=>match nR I J t with
   |false=>none
   |true=>match lq (jq jr) p w s t with
    |some (s',t')=>nS p w I J n s' t'
    |none=>none
theorem vJ (I:Nat)(J:Option Value)(t:Thread):nR I J t=stepOk I J t:=congrFun (congrFun (congrFun W.Fast.te6613529449190102663.symm _) _) _
theorem vK:@jq jr=denote treeTable:=by rw[show @jq=@denote from W.Fast.te11892475500146522536.symm,show @jr=@treeTable from W.Fast.te14364793385576792824.symm]
theorem vL (p:Program)(w:World)(s:SharedT)(t:Thread):lq (jq jr) p w s t=stepT (denote treeTable) p w s t:=by rw[show @lq=@stepT from W.Fast.te10156331382660048174.symm,vK]
theorem vM {p:Program}{w:World}{I:Nat}{J:Option Value}:∀(n:Nat) (s:SharedT) (t:Thread),nS p w I J n s t=segRunT treeTable p w I J 1 n s t
 |0,_,_=>rfl
 |n+1,s,t=>by
  unfold nS segRunT;rw[vJ,vL]
  cases endAt 1 t with
  |some f=>rfl
  |none=>
   cases stepOk I J t with
   |false=>rfl
   |true=>
    cases stepT (denote treeTable) p w s t with
    |none=>rfl
    |some r=>obtain⟨s',t'⟩:=r;exact vM n s' t'
noncomputable def nU (tb:String->Option Builtin) (p:Program) (w:World) (I:Nat) (J:Option Value):Nat->SharedT->Thread->Option (SharedT × Thread)
 |0,s,t=>some (s,t)
 |n+1,s,t=>match through t with
  |true=>none
  |false=>match stepOk I J t with
   |false=>none
   |true=>match stepT (denote tb) p w s t with
    |some (s',t')=>nU tb p w I J n s' t'
    |none=>none
theorem vN {tb:String->Option Builtin}{p:Program}{w:World}{I:Nat}{J:Option Value}:∀{n:Nat}{s s':SharedT}{t t':Thread},nU tb p w I J n s t=some (s',t')->topGo tb p w I J n s.abs t=some (s'.abs,t')
 |0,s,s',t,t',h=>by
  have h:some (s,t)=some (s',t'):=h
  cases h;rfl
 |n+1,s,s',t,t',h=>by
  unfold nU at h;unfold topGo
  cases Y:through t with
  |true=>rw[Y] at h;cases h
  |false=>
   rw[Y] at h
   cases hk:stepOk I J t with
   |false=>rw[hk] at h;cases h
   |true=>
    rw[hk] at h
    cases U:stepT (denote tb) p w s t with
    |none=>rw[U] at h;cases h
    |some r=>obtain⟨aa,ab⟩:=r;rw[U] at h;rw[stepT_spec U];exact vN h
noncomputable def pA (p:Program) (w:World) (I:Nat) (J:Option Value):Nat->SharedT->Thread->Option (SharedT × Thread)
 |0,s,t=>some (s,t)
 |n+1,s,t=>match through t with
  |true=>none
  |false=>match nR I J t with
   |false=>none
   |true=>match lq (jq jr) p w s t with
    |some (s',t')=>pA p w I J n s' t'
    |none=>none
theorem vO {p:Program}{w:World}{I:Nat}{J:Option Value}:∀(n:Nat) (s:SharedT) (t:Thread),pA p w I J n s t=nU treeTable p w I J n s t
 |0,_,_=>rfl
 |n+1,s,t=>by
  unfold pA nU;rw[vJ,vL];simp only[vO n]
noncomputable def pB (p:Program) (w:World) (I:Nat) (J:Option Value) (env:Env) (c:Code) (U:Pos) (l:List Stmt) (k1 k2 k3:Nat) (s:SharedT):Option (Thread × Code × Code × SharedT × Pos):=
 match pA p w I J k1 s (topStub p) with
 |none=>none
 |some (s1,Y)=>match nS p w I J k2 s1 (blockOf (behindTheImports p) env c Y.pos [topFrame U]) with
  |some (.next,s2,c2,p2)=>(match nS p w I J k3 s2 (piecesOf l env c p2 [topFrame U]) with
   |some (.next,s3,c3,p3)=>some (Y,c2,c3,s3,p3)
   |_=>none)
  |_=>none
theorem C6 {p:Program}{w:World}{I:Nat}{J:Option Value}{env:Env}{c:Code}{Y U p3:Pos}{l rest:List Stmt}{k1 k2 k3 N:Nat}{s s3:SharedT}{r:Shared}(hb:behindTheImports p=l++rest)
 (h:pB p w I J env c Y l k1 k2 k3 s=some (⟨jq jr (.body (behindTheImports p) env),c,U,[topFrame Y]⟩,c,c,s3,p3))
 (k:topRun treeTable p w I J N s3.abs (restOf rest env c p3 [topFrame Y])=some r):topRun treeTable p w I J (k1+(k2+(k3+N))) s.abs (topStub p)=some r:=by
 unfold pB at h;split at h
 . cases h
 next s1 t1 e1=>
  split at h
  next s2 c2 p2 e2=>
   split at h
   next aa c3 ab e3=>
    cases h;rw[vO] at e1;rw[vM] at e2 e3;have g1:=vN e1;rw[vK] at g1;have g3:=piece_app (rest:=rest) (segRun_of e3) k;rw[<-hb] at g3;exact go_top g1 (piece_block (segRun_of e2) g3)
   . cases h
  . cases h
noncomputable def rf (P:Params):BT:=(treeOf (boot_heap P).objs.toList 0 .nil).getD .nil
noncomputable def pC (w:World) (os:OsState):SharedT:=⟨rf w.params,(boot_heap w.params).objs.size,(boot_heap w.params).life,#[],boot_drawn,boot_toks,os⟩
theorem C7 {p q:Program}{loose:List Str}{Xt:Shared->Bool}{α:Type}{Yf:Shared->α}{Ya:World->α}{N:Nat}{g0:Bool}{env:Env}{c:Code}{q0 U p3:Pos}{l rest:List Stmt}{k1 k2 k3 N4 I:Nat}{J:Option Value}{S3:World->OsState->SharedT}
 (e:opening p=plainProg p.main.scope.names) (hN:Nat.ble 600 N=true) (f:∀s,fenceModules? p s=some s) (ab:N=k1+(k2+(k3+N4))) (hb:behindTheImports p=l++rest)
 (b0:∀P:Params,((boot_heap P).isNs mainGlobals,(treeOf (boot_heap P).objs.toList 0 .nil).isSome,(boot_heap P).objs.size,(boot_heap P).nsMap mainGlobals "__annotations__")=(true,true,I,J))
 (Y:∀w os,pB p w I J env c q0 l k1 k2 k3 (pC w os)=some (⟨jq jr (.body (behindTheImports p) env),c,U,[topFrame q0]⟩,c,c,S3 w os,p3))
 (aa:∀w os,((lr p w I J N4 (S3 w os) (restOf rest env c p3 [topFrame q0])).map λ(s:SharedT)=>looksAt p q loose Xt Yf g0 (boot_heap w.params) s.abs)=some (true,openGood q loose,Ya w)):LeftO p q loose Xt Yf Ya N g0:=λw=>by
 obtain⟨⟨h,gs,d,k,os⟩,e1,e'⟩:=Option.map_eq_some_iff.mp (boot_open e hN f w);obtain⟨rfl,rfl,rfl,rfl⟩:h=boot_heap w.params/\gs=Array.mk []/\d=boot_drawn/\k=boot_toks:=by simpa using e'
 have ac:=b0 w.params;obtain⟨z,y0,hsz,ae⟩:_/\_/\_/\_:=by simpa only[Prod.mk.injEq] using ac
 obtain⟨T,y⟩:=Option.isSome_iff_exists.mp y0;obtain⟨s,r1,r2⟩:=Option.map_eq_some_iff.mp (aa w os);rw[vH] at r1;have r3:=C6 hb (Y w os) (vG r1);rw[<-ab] at r3;have hT:=vF (life:=(boot_heap w.params).life) _ _ _ _ y
 have hS:SharedT.abs (pC w os)=⟨boot_heap w.params,#[],boot_drawn,boot_toks,os⟩:=by
  unfold SharedT.abs pC rf;dsimp only;rw[y];dsimp only[Option.getD];rw[Nat.zero_add,Q1i] at hT;rw[hT];have e0:(absHeap BT.nil 0 (boot_heap w.params).life).objs=#[]:=rfl;rw[e0,Q2g,Array.toArray_toList]
 rw[hS] at r3
 have t:topFrom treeTable p w N ⟨boot_heap w.params,#[],boot_drawn,boot_toks,os⟩=some s.abs:=by
  unfold topFrom;dsimp only;rw[z,hsz,ae,r3];have l1:=congrArg (λz=>z.1) r2;dsimp only[looksAt] at l1;show(match staticsOk (importedModules p.main.body) (boot_heap w.params) s.abs.heap && namesBound p s.abs.heap && gensDone s.abs && laidKept (boot_heap w.params) s.abs.heap with|true=>_|false=>_)=_;rw[l1]
 unfold openEnds;rw[e1];show(topFrom treeTable p w N _).map _=_;rw[t];have l2:=congrArg (λz=>z.2) r2;dsimp only[looksAt] at l2;rw[show @seenQ=@openSeen from W.Fast.te4187177175401517315.symm] at l2;exact congrArg some l2
theorem C8 {p q:Program}{loose:List Str}{Xt:Shared->Bool}{α:Type}{Yf:Shared->α}{Ya:World->α}{g0:Bool}{U I:Nat}{J:Option Value}{Y S5:World->OsState->SharedT}{t:Thread}
 (b:∀w os,lr p w I J U (Y w os) t=some (S5 w os)) (l:∀w os,looksAt p q loose Xt Yf g0 (boot_heap w.params) (S5 w os).abs=(true,openGood q loose,Ya w)):
 ∀w os,((lr p w I J U (Y w os) t).map λ(s:SharedT)=>looksAt p q loose Xt Yf g0 (boot_heap w.params) s.abs)=some (true,openGood q loose,Ya w):=λw os=>by
 rw[b];exact congrArg some (l w os)
theorem C9 {p q:Program}{loose:List Str}{Xt:Shared->Bool}{α:Type}{Yf:Shared->α}{Ya:World->α}{g0:Bool}{I:World->OsState->SharedT}
 (J:∀w os,(staticsOk (importedModules p.main.body) (boot_heap w.params) (I w os).abs.heap && namesBound p (I w os).abs.heap && gensDone (I w os).abs && laidKept (boot_heap w.params) (I w os).abs.heap)=true)
 (U:∀w os,seenQ q loose (importedModules p.main.body) Xt g0 (I w os).abs=openGood q loose) (Y:∀w os,Yf (I w os).abs=Ya w):
 ∀w os,looksAt p q loose Xt Yf g0 (boot_heap w.params) (I w os).abs=(true,openGood q loose,Ya w):=λw os=>Prod.ext (J w os) (Prod.ext (U w os) (Y w os))
end Pb
namespace Pb
open L2
noncomputable section
noncomputable def hF (x q:Str) (s:Stmt) (m:Str) (n c:Nat):Obj:=.mk (.type "function") none (.func (.mk x q (h_ s) (.stmts (g6 s)) (eS s) 3 [] .none .none .none (.str m n) none (.ref c) .none 0)) #[]
noncomputable def hR (x q:Str) (s:Stmt):Obj:=.mk .none none (.func (.mk x q (h_ s) (.stmts (g6 s)) (eS s) 0 [] .none .none .none .none none .none .none 0)) #[]
noncomputable def hC (x q:Str) (a l n k r e:Nat):Obj:=.mk (.type "code") none (.fields #[.str x a,.str q (a+1),.str (.ofString "/claim/cut.py") (a+2),.int l 0,.int n 0,.int 0 0,.int 0 0,.int k 0,.ref r,.bool true,.int 181 0,.ref (r+1),.none,.ref (r+2),.ref (r+3),.ref (r+4),.int e 0,.int l 0,.str (.ofString "/claim/cut.py") (e+1)]) #[]
noncomputable def rg (x q:Str) (a l n k r e:Nat):Obj:=.mk (.type "code") none (.fields #[.str x a,.str q (a+1),.str (.ofString "/claim/cut.py") (a+2),.int l 0,.int n 0,.int 0 0,.int 0 0,.int k 0,.ref r,.bool true,.int 181 0,.ref (r+1),.none,.none,.none,.ref (r+2),.int e 0,.int l 0,.str (.ofString "/claim/cut.py") (e+1)]) #[]
noncomputable def hK (x:Str) (a l r e:Nat):Obj:=.mk (.type "code") none (.fields #[.str x a,.str x (a+1),.str (.ofString "/claim/cut.py") (a+2),.int l 0,.int 0 0,.int 0 0,.int 0 0,.int 0 0,.ref r,.bool false,.int 181 0,.ref (r+1),.none,.none,.none,.none,.int e 0,.int l 0,.str (.ofString "/claim/cut.py") (e+1)]) #[]
noncomputable def fQ (x:Str) (s:Stmt) (m:Str) (n c:Nat):Obj:=hF x x s m n c
noncomputable def fF (x:Str) (s:Stmt):Obj:=hR x x s
noncomputable def f7 (x:Str) (a l n k r e:Nat):Obj:=hC x x a l n k r e
noncomputable def lu (x:Str) (a l n k r e:Nat):Obj:=rg x x a l n k r e
noncomputable def tS:Nat->List Str->List Value
 |_,[]=>[]
 |n,x::r=>.str x n::tS (n+1) r
noncomputable def hT (n:Nat) (l:List Str):Obj:=.mk (.type "tuple") none (.seq (tS n l).toArray) #[]
noncomputable def tI:List (Nat × Nat × Nat)->List Value
 |[]=>[]
 |(a,b,c)::r=>.int a 0:: .int b 0:: .ref c::tI r
noncomputable def hI (l:List (Nat × Nat × Nat)):Obj:=.mk .none none (.fields (tI l).toArray) #[]
noncomputable def hE (P:Params) (x:Str) (a:Nat) (v:Value):DictEntry:=.mk (PyData.keyHash P x) (.str x a) v
def hT0:Obj:=hT 0 []
noncomputable def fi:Obj:=.mk .none none (.fields #[]) #[]
noncomputable def mL (a b:Nat) (m:String) (n:Nat):Obj:=.mk (.type "frame") none .plain #[some (.ref a),some (.ref 3),some (.ref b),none,some (.str (.ofString m) n),none,some (.ref 0)]
noncomputable def nV (r:Nat):Obj:=.mk (.type "super") none (.fields #[.ref r,.ref r,.ref r]) #[]
noncomputable def hIs (r:Nat):Obj:=.mk (.type "builtin_function_or_method") none (.fields #[.builtin "object.__init_subclass__",.ref r]) #[]
noncomputable def js:Obj:=.mk (.type "builtin_function_or_method") none (.fields #[.builtin "type.__prepare__",.type "type"]) #[]
noncomputable def rh (r:Nat):Obj:=.mk (.type "tuple") none (.seq #[.ref r]) #[]
noncomputable def vP:Str:="putback.errors"
noncomputable def vQ:Str:="putback.kinds"
noncomputable def jG:Str:="putback.values"
noncomputable def lx:Str:="putback.views"
noncomputable def ly:Str:="putback.looks"
noncomputable def mM:Str:="putback.tables"
noncomputable def gJ:Str:="law_putback_k40_keep"
noncomputable def JY (x q:Str) (s:Stmt) (m:Value) (c:Nat):Obj:=.mk (.type "function") none (.func (.mk x q (h_ s) (.stmts (g6 s)) (eS s) 3 [] .none .none .none m none (.ref c) .none 0)) #[]
noncomputable def JZ (x q:Str) (a l n k r f b e:Nat):Obj:=.mk (.type "code") none (.fields #[.str x a,.str q (a+1),.str (.ofString "/claim/cut.py") (a+2),.int l 0,.int n 0,.int 0 0,.int 0 0,.int k 0,.ref r,.bool true,.int f 0,.ref (r+1),.none,.ref (r+2),.ref (r+3),.ref (r+4),.int b 0,.int l 0,.str (.ofString "/claim/cut.py") e]) #[]
noncomputable def J0 (P:Params) (x:Str) (a:Nat) (v:Value):DictEntry:=.mk (PyData.keyHash P x) (.str x a) v
noncomputable def C_:Obj:=.mk .none none (.dict #[]) #[]
noncomputable def vR (P:Params):Obj:=.mk (.type "dict") none (.dict #[hE P "__name__" 165 (.str (.ofString "law_putback_k40_keep") 585),hE P "__doc__" 166 .none,hE P "__package__" 167 .none,hE P "__loader__" 168 (.builtin "__main__.__loader__#opaque"),hE P "__spec__" 169 .none,hE P "__annotations__" 170 (.ref 6),hE P "__builtins__" 171 (.ref 4),hE P "__file__" 173 (.str (.ofString "/claim/cut.py") 172),hE P "__cached__" 174 .none,hE P "ViewError" 206 (.ref 24),hE P "NoView" 231 (.ref 44),hE P "CantPut" 256 (.ref 63),hE P "is_plain" 265 (.ref 72),hE P "kind_at" 274 (.ref 79),hE P "misfit" 285 (.ref 86),hE P "record_misfit" 296 (.ref 93),hE P "has_just" 302 (.ref 98),hE P "rows_misfit" 314 (.ref 105),hE P "is_pair" 321 (.ref 112),hE P "tree_misfit" 332 (.ref 119),hE P "either_misfit" 342 (.ref 126),hE P "rank" 352 (.ref 133),hE P "in_order" 361 (.ref 140),hE P "by_key" 371 (.ref 147),hE P "ask_fit" 382 (.ref 154),hE P "ask_stands" 389 (.ref 161),hE P "View" 451 (.ref 206),hE P "unsound" 463 (.ref 217),hE P "inner_place" 473 (.ref 224),hE P "kind_along" 483 (.ref 231),hE P "stands_on" 492 (.ref 238),hE P "holds" 501 (.ref 245),hE P "value_along" 511 (.ref 252),hE P "holds_of" 521 (.ref 259),hE P "Keep" 584 (.ref 307),hE P "_law_next" 596 (.ref 316),hE P "_law_number" 606 (.ref 323),hE P "_law_word" 620 (.ref 330),hE P "_law_names" 637 (.ref 337),hE P "_law_plain" 645 (.ref 344),hE P "_law_fields" 651 (.ref 349),hE P "_law_rows_kind" 669 (.ref 356),hE P "_law_kind" 679 (.ref 363),hE P "_law_rank" 687 (.ref 370),hE P "_law_rows" 702 (.ref 377),hE P "_law_value" 708 (.ref 382),hE P "_law_alike" 714 (.ref 387),hE P "_law_way" 720 (.ref 392),hE P "_law_along" 729 (.ref 399),hE P "_law_places" 740 (.ref 406),hE P "_law_thing" 751 (.ref 413),hE P "_law_simple" 765 (.ref 420),hE P "_law_look" 777 (.ref 427),hE P "_law_true" 786 (.ref 434),hE P "_law_pool" 792 (.ref 439),hE P "_law_some" 808 (.ref 446),hE P "_law_put" 821 (.ref 453),hE P "_law_same_end" 830 (.ref 460),hE P "_law_look_for" 845 (.ref 467),hE P "_law_sorted" 854 (.ref 474),hE P "_law_case" 870 (.ref 481),hE P "_law_round" 876 (.ref 486),hE P "law" 885 (.ref 493)] 63) #[]
noncomputable def vS (P:Params):Obj:=.mk (.type "dict") none (.dict #[hE P "__module__" 196 (.str (.ofString "putback.errors") 187),hE P "__firstlineno__" 200 (.int 2 199),hE P "__static_attributes__" 201 (.ref 22),hE P "__weakref__" 203 (.ref 25),hE P "__doc__" 204 .none] 3) #[]
noncomputable def vT:Obj:=.mk (.type "type") none (.cls (.mk (.ofString "ViewError") [.type "ValueError"] [.ref 24,.type "ValueError",.type "Exception",.type "BaseException",.type "object"] 23 (.ofString "ViewError") true [] [.ref 44,.ref 63] false none false)) #[some (.ref 15),none,some (.str (.ofString "ViewError") 189),some (.str (.ofString "ViewError") 197),some (.builtin "ValueError.__new__"),some (.bool true)]
noncomputable def vU:Obj:=.mk (.type "getset_descriptor") none (.fields #[.str (.ofString "__weakref__") 202,.ref 24,.builtin "ExceptionGroup.__weakref__",.none]) #[]
def vV:Obj:=hC "__init__" "NoView.__init__" 219 6 2 3 35 224
def vW:Obj:=hF "__init__" "NoView.__init__" (fE 2 0) vP 187 40
noncomputable def vX (P:Params):Obj:=.mk (.type "dict") none (.dict #[hE P "__module__" 214 (.str (.ofString "putback.errors") 187),hE P "__firstlineno__" 218 (.int 4 217),hE P "__init__" 226 (.ref 41),hE P "__static_attributes__" 228 (.ref 42),hE P "__doc__" 229 .none] 2) #[]
noncomputable def vY:Obj:=.mk (.type "type") none (.cls (.mk (.ofString "NoView") [.ref 24] [.ref 44,.ref 24,.type "ValueError",.type "Exception",.type "BaseException",.type "object"] 43 (.ofString "NoView") true [] [] false none false)) #[some (.ref 28),none,some (.str (.ofString "NoView") 207),some (.str (.ofString "NoView") 215),some (.builtin "ValueError.__new__"),some (.bool true)]
def vZ:Obj:=hC "__init__" "CantPut.__init__" 244 10 2 3 54 249
def v5:Obj:=hF "__init__" "CantPut.__init__" (fE 3 0) vP 187 59
noncomputable def v7 (P:Params):Obj:=.mk (.type "dict") none (.dict #[hE P "__module__" 239 (.str (.ofString "putback.errors") 187),hE P "__firstlineno__" 243 (.int 8 242),hE P "__init__" 251 (.ref 60),hE P "__static_attributes__" 253 (.ref 61),hE P "__doc__" 254 .none] 2) #[]
noncomputable def v8:Obj:=.mk (.type "type") none (.cls (.mk (.ofString "CantPut") [.ref 24] [.ref 63,.ref 24,.type "ValueError",.type "Exception",.type "BaseException",.type "object"] 62 (.ofString "CantPut") true [] [] false none false)) #[some (.ref 47),none,some (.str (.ofString "CantPut") 232),some (.str (.ofString "CantPut") 240),some (.builtin "ValueError.__new__"),some (.bool true)]
def v9:Obj:=f7 "is_plain" 259 13 1 3 66 263
def v_:Obj:=fQ "is_plain" (top 5) vQ 257 71
def wa:Obj:=f7 "kind_at" 266 15 2 3 73 272
def wb:Obj:=fQ "kind_at" (top 6) vQ 257 78
def wc:Obj:=f7 "misfit" 277 21 2 3 80 283
def we:Obj:=fQ "misfit" (top 8) jG 275 85
def wg:Obj:=f7 "record_misfit" 286 34 2 3 87 294
def wj:Obj:=fQ "record_misfit" (top 9) jG 275 92
def wm:Obj:=lu "has_just" 297 42 2 3 94 300
def wo:Obj:=fQ "has_just" (top 10) jG 275 97
def wq:Obj:=f7 "rows_misfit" 303 44 2 3 99 312
def wu:Obj:=fQ "rows_misfit" (top 11) jG 275 104
def wx:Obj:=f7 "is_pair" 315 58 1 3 106 319
def wy:Obj:=fQ "is_pair" (top 12) jG 275 111
def wz:Obj:=f7 "tree_misfit" 322 60 2 3 113 330
def wA:Obj:=fQ "tree_misfit" (top 13) jG 275 118
def wB:Obj:=f7 "either_misfit" 333 71 2 3 120 340
def wC:Obj:=fQ "either_misfit" (top 14) jG 275 125
def wD:Obj:=f7 "rank" 343 81 2 3 127 350
def wF:Obj:=fQ "rank" (top 15) jG 275 132
def wG:Obj:=f7 "in_order" 353 87 2 3 134 359
def wH:Obj:=fQ "in_order" (top 16) jG 275 139
def wI:Obj:=f7 "by_key" 362 89 2 3 141 369
def wJ:Obj:=fQ "by_key" (top 17) jG 275 146
def wK:Obj:=f7 "ask_fit" 374 95 2 3 148 380
def wM:Obj:=fQ "ask_fit" (top 19) lx 372 153
def wN:Obj:=f7 "ask_stands" 383 99 1 3 155 387
def wO:Obj:=fQ "ask_stands" (top 20) lx 372 160
def wQ:Obj:=hC "behind" "View.behind" 402 104 2 3 169 407
def wR:Obj:=hF "behind" "View.behind" (fE 21 0) lx 372 174
def wU:Obj:=hC "see" "View.see" 410 107 3 3 176 416
def wV:Obj:=hF "see" "View.see" (fE 21 1) lx 372 181
def wW:Obj:=hC "put" "View.put" 419 110 4 3 183 426
def wX:Obj:=hF "put" "View.put" (fE 21 2) lx 372 188
def wY:Obj:=hC "grade" "View.grade" 429 114 1 3 190 433
def wZ:Obj:=hF "grade" "View.grade" (fE 21 3) lx 372 195
def w6:Obj:=hC "keeps" "View.keeps" 436 117 2 3 197 441
def w_:Obj:=hF "keeps" "View.keeps" (fE 21 4) lx 372 202
noncomputable def xa (P:Params):Obj:=.mk (.type "dict") none (.dict #[hE P "__module__" 397 (.str (.ofString "putback.views") 372),hE P "__firstlineno__" 401 (.int 102 400),hE P "behind" 409 (.ref 175),hE P "see" 418 (.ref 182),hE P "put" 428 (.ref 189),hE P "grade" 435 (.ref 196),hE P "keeps" 443 (.ref 203),hE P "__static_attributes__" 444 (.ref 204),hE P "__dict__" 446 (.ref 207),hE P "__weakref__" 448 (.ref 208),hE P "__doc__" 449 .none] 4) #[]
noncomputable def xb:Obj:=.mk (.type "type") none (.cls (.mk (.ofString "View") [.type "object"] [.ref 206,.type "object"] 205 (.ofString "View") true [] [.ref 307] false none false)) #[none,none,some (.str (.ofString "View") 390),some (.str (.ofString "View") 398),some (.builtin "object.__new__"),some (.bool true)]
noncomputable def xc:Obj:=.mk (.type "getset_descriptor") none (.fields #[.str (.ofString "__dict__") 445,.ref 206,.builtin "function.__dict__",.builtin "function.__dict__#set"]) #[]
noncomputable def xf:Obj:=.mk (.type "getset_descriptor") none (.fields #[.str (.ofString "__weakref__") 447,.ref 206,.builtin "ExceptionGroup.__weakref__",.none]) #[]
def xg:Obj:=f7 "unsound" 454 120 2 3 211 461
def xh:Obj:=fQ "unsound" (top 23) ly 452 216
def xi:Obj:=f7 "inner_place" 464 128 3 3 218 471
def xj:Obj:=fQ "inner_place" (top 24) ly 452 223
def xl:Obj:=f7 "kind_along" 474 131 2 3 225 481
def xm:Obj:=fQ "kind_along" (top 25) ly 452 230
def xn:Obj:=f7 "stands_on" 484 138 2 3 232 490
def xo:Obj:=fQ "stands_on" (top 26) ly 452 237
def xp:Obj:=f7 "holds" 493 147 2 3 239 499
def xq:Obj:=fQ "holds" (top 27) ly 452 244
def xr:Obj:=f7 "value_along" 502 156 2 3 246 509
def xt:Obj:=fQ "value_along" (top 28) ly 452 251
def xu:Obj:=f7 "holds_of" 512 161 2 3 253 519
def xv:Obj:=fQ "holds_of" (top 29) ly 452 258
def xw:Obj:=hC "__init__" "Keep.__init__" 536 174 2 3 267 541
def xx:Obj:=hF "__init__" "Keep.__init__" (fE 31 0) mM 522 272
def xy:Obj:=hC "behind" "Keep.behind" 544 177 2 3 274 550
def xA:Obj:=hF "behind" "Keep.behind" (fE 31 1) mM 522 279
def xB:Obj:=rg "see" "Keep.see" 553 184 3 3 281 556
def xC:Obj:=hF "see" "Keep.see" (fE 31 2) mM 522 284
def xD:Obj:=rg "put" "Keep.put" 559 187 4 3 286 562
def xE:Obj:=hF "put" "Keep.put" (fE 31 3) mM 522 289
def xF:Obj:=hC "grade" "Keep.grade" 565 196 1 3 291 569
def xG:Obj:=hF "grade" "Keep.grade" (fE 31 4) mM 522 296
def xH:Obj:=hC "keeps" "Keep.keeps" 572 199 2 3 298 577
def xI:Obj:=hF "keeps" "Keep.keeps" (fE 31 5) mM 522 303
noncomputable def xJ (P:Params):Obj:=.mk (.type "dict") none (.dict #[hE P "__module__" 531 (.str (.ofString "putback.tables") 522),hE P "__firstlineno__" 535 (.int 172 534),hE P "__init__" 543 (.ref 273),hE P "behind" 552 (.ref 280),hE P "see" 558 (.ref 285),hE P "put" 564 (.ref 290),hE P "grade" 571 (.ref 297),hE P "keeps" 579 (.ref 304),hE P "__static_attributes__" 581 (.ref 305),hE P "__doc__" 582 .none] 2) #[]
noncomputable def xK:Obj:=.mk (.type "type") none (.cls (.mk (.ofString "Keep") [.ref 206] [.ref 307,.ref 206,.type "object"] 306 (.ofString "Keep") true [] [] false none false)) #[some (.ref 260),none,some (.str (.ofString "Keep") 524),some (.str (.ofString "Keep") 532),some (.builtin "object.__new__"),some (.bool true)]
def xM:Obj:=f7 "_law_next" 587 202 2 3 310 594
def xN:Obj:=fQ "_law_next" (top 33) gJ 585 315
def xO:Obj:=f7 "_law_number" 597 209 2 3 317 604
def xP:Obj:=fQ "_law_number" (top 34) gJ 585 322
def xQ:Obj:=f7 "_law_word" 607 217 2 3 324 618
def xR:Obj:=fQ "_law_word" (top 35) gJ 585 329
def xS:Obj:=f7 "_law_names" 621 229 3 3 331 635
def xT:Obj:=fQ "_law_names" (top 36) gJ 585 336
def xU:Obj:=f7 "_law_plain" 638 243 2 3 338 643
def xV:Obj:=fQ "_law_plain" (top 37) gJ 585 343
def xW:Obj:=lu "_law_fields" 646 247 4 3 345 649
def xX:Obj:=fQ "_law_fields" (top 38) gJ 585 348
def xY:Obj:=f7 "_law_rows_kind" 652 250 4 3 350 667
def xZ:Obj:=fQ "_law_rows_kind" (top 39) gJ 585 355
def x6:Obj:=f7 "_law_kind" 670 265 3 3 357 677
def x8:Obj:=fQ "_law_kind" (top 40) gJ 585 362
def x9:Obj:=f7 "_law_rank" 680 276 2 3 364 685
def x_:Obj:=fQ "_law_rank" (top 41) gJ 585 369
def ya:Obj:=f7 "_law_rows" 688 280 4 3 371 700
def yb:Obj:=fQ "_law_rows" (top 42) gJ 585 376
def yc:Obj:=lu "_law_value" 703 289 4 3 378 706
def yd:Obj:=fQ "_law_value" (top 43) gJ 585 381
def ye:Obj:=lu "_law_alike" 709 307 3 3 383 712
def yf:Obj:=fQ "_law_alike" (top 44) gJ 585 386
def yg:Obj:=lu "_law_way" 715 335 2 3 388 718
def yh:Obj:=fQ "_law_way" (top 45) gJ 585 391
def yi:Obj:=f7 "_law_along" 721 339 2 3 393 727
def yj:Obj:=fQ "_law_along" (top 46) gJ 585 398
def yk:Obj:=f7 "_law_places" 730 343 2 3 400 738
def yl:Obj:=fQ "_law_places" (top 47) gJ 585 405
def ym:Obj:=f7 "_law_thing" 741 350 4 3 407 749
def yn:Obj:=fQ "_law_thing" (top 48) gJ 585 412
def yo:Obj:=f7 "_law_simple" 752 363 4 3 414 763
def yp:Obj:=fQ "_law_simple" (top 49) gJ 585 419
def yq:Obj:=f7 "_law_look" 766 372 4 3 421 775
def yr:Obj:=fQ "_law_look" (top 50) gJ 585 426
def yt:Obj:=f7 "_law_true" 778 380 2 3 428 784
def yu:Obj:=fQ "_law_true" (top 51) gJ 585 433
def yw:Obj:=lu "_law_pool" 787 397 4 3 435 790
def yx:Obj:=fQ "_law_pool" (top 52) gJ 585 438
def yy:Obj:=f7 "_law_some" 793 405 5 3 440 806
def yz:Obj:=fQ "_law_some" (top 53) gJ 585 445
def yA:Obj:=f7 "_law_put" 809 416 4 3 447 819
def yB:Obj:=fQ "_law_put" (top 54) gJ 585 452
def yC:Obj:=f7 "_law_same_end" 822 426 3 3 454 828
def yD:Obj:=fQ "_law_same_end" (top 55) gJ 585 459
def yE:Obj:=f7 "_law_look_for" 831 432 4 3 461 843
def yF:Obj:=fQ "_law_look_for" (top 56) gJ 585 466
def yG:Obj:=f7 "_law_sorted" 846 442 2 3 468 852
def yH:Obj:=fQ "_law_sorted" (top 57) gJ 585 473
def yI:Obj:=f7 "_law_case" 855 444 4 3 475 868
def yJ:Obj:=fQ "_law_case" (top 58) gJ 585 480
def yK:Obj:=lu "_law_round" 871 452 2 3 482 874
def yL:Obj:=fQ "_law_round" (top 59) gJ 585 485
def yM:Obj:=f7 "law" 877 479 1 3 487 883
def yN:Obj:=fQ "law" (top 60) gJ 585 492
noncomputable def Dd (P:Params):Obj:=.mk (.type "dict") none (.dict #[hE P "__name__" 165 (.str (.ofString "putback.looks") 452),hE P "__doc__" 166 .none,hE P "__package__" 167 .none,hE P "__loader__" 168 (.builtin "__main__.__loader__#opaque"),hE P "__spec__" 169 .none,hE P "__annotations__" 170 (.ref 6),hE P "__builtins__" 171 (.ref 4),hE P "__file__" 173 (.str (.ofString "/claim/cut.py") 172),hE P "__cached__" 174 .none,hE P "ViewError" 206 (.ref 24),hE P "NoView" 231 (.ref 44),hE P "CantPut" 256 (.ref 63),hE P "is_plain" 265 (.ref 72),hE P "kind_at" 274 (.ref 79),hE P "misfit" 285 (.ref 86),hE P "record_misfit" 296 (.ref 93),hE P "has_just" 302 (.ref 98),hE P "rows_misfit" 314 (.ref 105),hE P "is_pair" 321 (.ref 112),hE P "tree_misfit" 332 (.ref 119),hE P "either_misfit" 342 (.ref 126),hE P "rank" 352 (.ref 133),hE P "in_order" 361 (.ref 140),hE P "by_key" 371 (.ref 147),hE P "ask_fit" 382 (.ref 154),hE P "ask_stands" 389 (.ref 161),hE P "View" 451 (.ref 206),hE P "unsound" 463 (.ref 217)] 28) #[]
noncomputable def Df (P:Params):List Obj:=hT0::hI [(2,0,20),(4,0,33),(8,0,52),(13,0,71),(15,0,78),(21,0,85),(34,0,92),(42,0,97),(44,0,104),(58,0,111),(60,0,118),(71,0,125),(81,0,132),(87,0,139),(89,0,146),(95,0,153),(99,0,160),(102,0,167),(120,0,216)]::hK "<module>" 182 1 11 185::mL 13 3 "__main__" 164:: .mk (.type "tuple") none (.seq #[.type "ValueError"]) #[]::js:: .mk (.type "dict") none (.dict #[hE P "__module__" 196 (.str (.ofString "putback.errors") 187),hE P "__qualname__" 198 (.str (.ofString "ViewError") 197),hE P "__firstlineno__" 200 (.int 2 199),hE P "__static_attributes__" 201 (.ref 22)] 4) #[]::hT0::fi::hK "ViewError" 191 2 18 194::mL 20 17 "putback.errors" 187::hT0::vS P::vT::vU::nV 24::hIs 24::rh 24::js:: .mk (.type "dict") none (.dict #[hE P "__module__" 214 (.str (.ofString "putback.errors") 187),hE P "__qualname__" 216 (.str (.ofString "NoView") 215),hE P "__firstlineno__" 218 (.int 4 217),hE P "__init__" 226 (.ref 41),hE P "__static_attributes__" 228 (.ref 42)] 5) #[]::hT0::hI [(6,4,40)]::hK "NoView" 209 4 31 212::mL 33 30 "putback.errors" 187::hT0::fi::hT 222 ["self","way"]::hT0::hR "__init__" "NoView.__init__" (fE 2 0)::vV::vW::hT 227 ["way"]::vX P::vY::nV 44::hIs 44::rh 24::js:: .mk (.type "dict") none (.dict #[hE P "__module__" 239 (.str (.ofString "putback.errors") 187),hE P "__qualname__" 241 (.str (.ofString "CantPut") 240),hE P "__firstlineno__" 243 (.int 8 242),hE P "__init__" 251 (.ref 60),hE P "__static_attributes__" 253 (.ref 61)] 5) #[]::hT0::hI [(10,4,59)]::hK "CantPut" 234 8 50 237::mL 52 49 "putback.errors" 187::hT0::fi::hT 247 ["self","way"]::hT0::hR "__init__" "CantPut.__init__" (fE 3 0)::vZ::v5::hT 252 ["way"]::v7 P::v8::nV 63::hIs 63::hT0::fi::hT 262 ["kind"]::hT0::fF "is_plain" (top 5)::v9::v_::hT0::fi::hT 269 ["fields","name","pair"]::hT0::fF "kind_at" (top 6)::wa::wb::hT0::fi::hT 280 ["kind","value","form"]::hT0::fF "misfit" (top 8)::wc::we::hT0::fi::hT 289 ["fields","record","name","inner","place"]::hT0::fF "record_misfit" (top 9)::wg::wj::hT0::fi::fF "has_just" (top 10)::wm::wo::hT0::fi::hT 306 ["kind","rows","earlier","number","row","place"]::hT0::fF "rows_misfit" (top 11)::wq::wu::hT0::fi::hT 318 ["value"]::hT0::fF "is_pair" (top 12)::wx::wy::hT0::fi::hT 325 ["kind","tree","place","number","arm"]::hT0::fF "tree_misfit" (top 13)::wz::wA::hT0::fi::hT 336 ["fields","value","inner","place"]::hT0::fF "either_misfit" (top 14)::wB::wC::hT0::fi::hT 346 ["kind","row","key","by"]::hT0::fF "rank" (top 15)::wD::wF::hT0::fi::hT 356 ["kind","rows"]::hT 358 ["kind"]::fF "in_order" (top 16)::wG::wH::hT0::fi::hT 365 ["kind","rows","found","row"]::hT0::fF "by_key" (top 17)::wI::wJ::hT0::fi::hT 377 ["kind","seen","place"]::hT0::fF "ask_fit" (top 19)::wK::wM::hT0::fi::hT 386 ["stands"]::hT0::fF "ask_stands" (top 20)::wN::wO::hT0::js:: .mk (.type "dict") none (.dict #[hE P "__module__" 397 (.str (.ofString "putback.views") 372),hE P "__qualname__" 399 (.str (.ofString "View") 398),hE P "__firstlineno__" 401 (.int 102 400),hE P "behind" 409 (.ref 175),hE P "see" 418 (.ref 182),hE P "put" 428 (.ref 189),hE P "grade" 435 (.ref 196),hE P "keeps" 443 (.ref 203),hE P "__static_attributes__" 444 (.ref 204)] 9) #[]::hT0::hI [(104,4,174),(107,4,181),(110,4,188),(114,4,195),(117,4,202)]::hK "View" 392 102 165 395::mL 167 164 "putback.views" 372::hT0::fi::hT 405 ["self","kind"]::hT0::hR "behind" "View.behind" (fE 21 0)::wQ::wR::hT0::fi::hT 413 ["self","kind","source"]::hT0::hR "see" "View.see" (fE 21 1)::wU::wV::hT0::fi::hT 422 ["self","kind","source","seen"]::hT0::hR "put" "View.put" (fE 21 2)::wW::wX::hT0::fi::hT 432 ["self"]::hT0::hR "grade" "View.grade" (fE 21 3)::wY::wZ::hT0::fi::hT 439 ["self","name"]::hT0::hR "keeps" "View.keeps" (fE 21 4)::w6::w_::hT0::xa P:: .mk (.type "type") none (.cls (.mk (.ofString "View") [.type "object"] [.ref 206,.type "object"] 205 (.ofString "View") true [] [] false none false)) #[none,none,some (.str (.ofString "View") 390),some (.str (.ofString "View") 398),some (.builtin "object.__new__"),some (.bool true)]::xc::xf::nV 206::hIs 206::hT0::fi::hT 457 ["look","kind","form","place"]::hT0::fF "unsound" (top 23)::xg::xh::[]
noncomputable def endL (P:Params):List Obj:=hT0::fi::hT 467 ["look","number","kind","place"]::hT0::fF "inner_place" (top 24)::xi::xj::hT0::fi::hT 477 ["path","kind","there","name"]::hT0::fF "kind_along" (top 25)::xl::xm::hT0::fi::hT 487 ["look","there","form"]::hT0::fF "stands_on" (top 26)::xn::xo::hT0::fi::hT 496 ["look","value","form"]::hT0::fF "holds" (top 27)::xp::xq::hT0::fi::hT 505 ["path","value","there","name"]::hT0::fF "value_along" (top 28)::xr::xt::hT0::fi::hT 515 ["look","there","form","arms_or_rows"]::hT0::fF "holds_of" (top 29)::xu::xv::rh 206::js:: .mk (.type "dict") none (.dict #[hE P "__module__" 531 (.str (.ofString "putback.tables") 522),hE P "__qualname__" 533 (.str (.ofString "Keep") 532),hE P "__firstlineno__" 535 (.int 172 534),hE P "__init__" 543 (.ref 273),hE P "behind" 552 (.ref 280),hE P "see" 558 (.ref 285),hE P "put" 564 (.ref 290),hE P "grade" 571 (.ref 297),hE P "keeps" 579 (.ref 304),hE P "__static_attributes__" 581 (.ref 305)] 10) #[]::hT0::hI [(174,4,272),(177,4,279),(184,4,284),(187,4,289),(196,4,296),(199,4,303)]::hK "Keep" 526 172 263 529::mL 265 262 "putback.tables" 522::hT0::fi::hT 539 ["self","look"]::hT0::hR "__init__" "Keep.__init__" (fE 31 0)::xw::xx::hT0::fi::hT 547 ["self","kind","place"]::hT0::hR "behind" "Keep.behind" (fE 31 1)::xy::xA::hT0::fi::hR "see" "Keep.see" (fE 31 2)::xB::xC::hT0::fi::hR "put" "Keep.put" (fE 31 3)::xD::xE::hT0::fi::hT 568 ["self"]::hT0::hR "grade" "Keep.grade" (fE 31 4)::xF::xG::hT0::fi::hT 575 ["self","name"]::hT0::hR "keeps" "Keep.keeps" (fE 31 5)::xH::xI::hT 580 ["look"]::xJ P::xK::nV 307::hIs 307::hT0::fi::hT 590 ["_law_script","_law_at","_law_cell","_law_m"]::hT0::fF "_law_next" (top 33)::xM::xN::hT0::fi::hT 600 ["_law_script","_law_at","_law_m","_law_cell"]::hT0::fF "_law_number" (top 34)::xO::xP::hT0::fi::hT 610 ["_law_script","_law_at","_law_signs","_law_m","_law_many","_law_word_here","_law_k","_law_place"]::hT0::fF "_law_word" (top 35)::xQ::xR::hT0::fi::hT 624 ["_law_script","_law_at","_law_many","_law_letters","_law_m","_law_step","_law_stem","_law_cut","_law_names_here","_law_k","_law_sign"]::hT0::fF "_law_names" (top 36)::xS::xT::hT0::fi::hT 641 ["_law_script","_law_at"]::hT0::fF "_law_plain" (top 37)::xU::xV::hT0::fi::fF "_law_fields" (top 38)::xW::xX::hT0::fi::hT 655 ["_law_script","_law_at","_law_many","_law_deep","_law_names_here","_law_m","_law_lead","_law_by","_law_fields_here","_law_k","_law_kind_here","_law_name"]::hT0::fF "_law_rows_kind" (top 39)::xY::xZ::hT0::fi::hT 673 ["_law_script","_law_at","_law_deep","_law_m"]::hT0::fF "_law_kind" (top 40)::x6::x8::hT0::fi::hT 683 ["_law_kind_here","_law_row"]::hT0::fF "_law_rank" (top 41)::x9::x_::hT0::fi::hT 691 ["_law_script","_law_at","_law_kind_here","_law_room","_law_rows_here","_law_seen","_law_k","_law_row"]::hT 699 ["_law_kind_here"]::fF "_law_rows" (top 42)::ya::yb::hT0::fi::fF "_law_value" (top 43)::yc::yd::hT0::fi::fF "_law_alike" (top 44)::ye::yf::hT0::fi::fF "_law_way" (top 45)::yg::yh::hT0::fi::hT 724 ["_law_path","_law_value_here","_law_name"]::hT0::fF "_law_along" (top 46)::yi::yj::hT0::fi::hT 733 ["_law_kind_here","_law_path","_law_found","_law_name","_law_inner"]::hT0::fF "_law_places" (top 47)::yk::yl::hT0::fi::hT 744 ["_law_script","_law_at","_law_kind_here","_law_there","_law_m"]::hT0::fF "_law_thing" (top 48)::ym::yn::hT0::fi::hT 755 ["_law_script","_law_at","_law_place","_law_value_here","_law_path","_law_kind_here","_law_m","_law_thing_here"]::hT0::fF "_law_simple" (top 49)::yo::yp::hT0::fi::hT 769 ["_law_script","_law_at","_law_leaves","_law_deep","_law_m","_law_one"]::hT0::fF "_law_look" (top 50)::yq::yr::hT0::fi::hT 781 ["_law_look_here","_law_value_here","_law_there"]::hT0::fF "_law_true" (top 51)::yt::yu::hT0::fi::fF "_law_pool" (top 52)::yw::yx::hT0::fi::hT 796 ["_law_script","_law_at","_law_kind_here","_law_pool_here","_law_room","_law_rows_here","_law_one","_law_m","_law_row"]::hT 805 ["_law_kind_here"]::fF "_law_some" (top 53)::yy::yz::hT0::fi::hT 812 ["_law_view","_law_kind_here","_law_source","_law_seen","_law_way_here","_law_made","e"]::hT0::fF "_law_put" (top 54)::yA::yB::hT0::fi::hT 825 ["_law_kind_here","_law_found","_law_due"]::hT0::fF "_law_same_end" (top 55)::yC::yD::hT0::fi::hT 834 ["_law_script","_law_at","_law_kind_here","_law_rows_here","_law_places_here","_law_near","_law_leaves","_law_k","_law_place"]::hT0::fF "_law_look_for" (top 56)::yE::yF::hT0::fi::hT 849 ["_law_kind_here","_law_rows_here"]::hT 851 ["_law_kind_here"]::fF "_law_sorted" (top 57)::yG::yH::hT0::fi::hT 858 ["_law_script","_law_at","_law_kind_here","_law_many","_law_pool_here","_law_first","_law_source","_law_second","_law_other","_law_twins"]::hT0::fF "_law_case" (top 58)::yI::yJ::hT0::fi::fF "_law_round" (top 59)::yK::yL::hT0::fi::hT 880 ["_law_script","_law_at","_law_k"]::hT0::fF "law" (top 60)::yM::yN::[]
noncomputable def Dg (P:Params):List (Nat × Obj):=(nat_lit 3,vR P)::(nat_lit 12,hI [(2,0,20),(4,0,33),(8,0,52),(13,0,71),(15,0,78),(21,0,85),(34,0,92),(42,0,97),(44,0,104),(58,0,111),(60,0,118),(71,0,125),(81,0,132),(87,0,139),(89,0,146),(95,0,153),(99,0,160),(102,0,167),(120,0,216),(128,0,223),(131,0,230),(138,0,237),(147,0,244),(156,0,251),(161,0,258),(172,0,265),(202,0,315),(209,0,322),(217,0,329),(229,0,336),(243,0,343),(247,0,348),(250,0,355),(265,0,362),(276,0,369),(280,0,376),(289,0,381),(307,0,386),(335,0,391),(339,0,398),(343,0,405),(350,0,412),(363,0,419),(372,0,426),(380,0,433),(397,0,438),(405,0,445),(416,0,452),(426,0,459),(432,0,466),(442,0,473),(444,0,480),(452,0,485),(479,0,492)])::(nat_lit 206,xb)::[]
end
noncomputable def KK:PySem.Params->W.Frag:=λP=>(nat_lit 2,C_)::(nat_lit 3,vR P)::(nat_lit 23,vS P)::(nat_lit 24,vT)::(nat_lit 25,vU)::(nat_lit 40,vV)::(nat_lit 41,vW)::(nat_lit 43,vX P)::(nat_lit 44,vY)::(nat_lit 59,vZ)::(nat_lit 60,v5)::(nat_lit 62,v7 P)::(nat_lit 63,v8)::(nat_lit 71,v9)::(nat_lit 72,v_)::(nat_lit 78,wa)::(nat_lit 79,wb)::(nat_lit 85,wc)::(nat_lit 86,we)::(nat_lit 92,wg)::(nat_lit 93,wj)::(nat_lit 97,wm)::(nat_lit 98,wo)::(nat_lit 104,wq)::(nat_lit 105,wu)::(nat_lit 111,wx)::(nat_lit 112,wy)::(nat_lit 118,wz)::(nat_lit 119,wA)::(nat_lit 125,wB)::(nat_lit 126,wC)::(nat_lit 132,wD)::(nat_lit 133,wF)::(nat_lit 139,wG)::(nat_lit 140,wH)::(nat_lit 146,wI)::(nat_lit 147,wJ)::(nat_lit 153,wK)::(nat_lit 154,wM)::(nat_lit 160,wN)::(nat_lit 161,wO)::(nat_lit 174,wQ)::(nat_lit 175,wR)::(nat_lit 181,wU)::(nat_lit 182,wV)::(nat_lit 188,wW)::(nat_lit 189,wX)::(nat_lit 195,wY)::(nat_lit 196,wZ)::(nat_lit 202,w6)::(nat_lit 203,w_)::(nat_lit 205,xa P)::(nat_lit 206,xb)::(nat_lit 207,xc)::(nat_lit 208,xf)::(nat_lit 216,xg)::(nat_lit 217,xh)::(nat_lit 223,xi)::(nat_lit 224,xj)::(nat_lit 230,xl)::(nat_lit 231,xm)::(nat_lit 237,xn)::(nat_lit 238,xo)::(nat_lit 244,xp)::(nat_lit 245,xq)::(nat_lit 251,xr)::(nat_lit 252,xt)::(nat_lit 258,xu)::(nat_lit 259,xv)::(nat_lit 272,xw)::(nat_lit 273,xx)::(nat_lit 279,xy)::(nat_lit 280,xA)::(nat_lit 284,xB)::(nat_lit 285,xC)::(nat_lit 289,xD)::(nat_lit 290,xE)::(nat_lit 296,xF)::(nat_lit 297,xG)::(nat_lit 303,xH)::(nat_lit 304,xI)::(nat_lit 306,xJ P)::(nat_lit 307,xK)::(nat_lit 315,xM)::(nat_lit 316,xN)::(nat_lit 322,xO)::(nat_lit 323,xP)::(nat_lit 329,xQ)::(nat_lit 330,xR)::(nat_lit 336,xS)::(nat_lit 337,xT)::(nat_lit 343,xU)::(nat_lit 344,xV)::(nat_lit 348,xW)::(nat_lit 349,xX)::(nat_lit 355,xY)::(nat_lit 356,xZ)::(nat_lit 362,x6)::(nat_lit 363,x8)::(nat_lit 369,x9)::(nat_lit 370,x_)::(nat_lit 376,ya)::(nat_lit 377,yb)::(nat_lit 381,yc)::(nat_lit 382,yd)::(nat_lit 386,ye)::(nat_lit 387,yf)::(nat_lit 391,yg)::(nat_lit 392,yh)::(nat_lit 398,yi)::(nat_lit 399,yj)::(nat_lit 405,yk)::(nat_lit 406,yl)::(nat_lit 412,ym)::(nat_lit 413,yn)::(nat_lit 419,yo)::(nat_lit 420,yp)::(nat_lit 426,yq)::(nat_lit 427,yr)::(nat_lit 433,yt)::(nat_lit 434,yu)::(nat_lit 438,yw)::(nat_lit 439,yx)::(nat_lit 445,yy)::(nat_lit 446,yz)::(nat_lit 452,yA)::(nat_lit 453,yB)::(nat_lit 459,yC)::(nat_lit 460,yD)::(nat_lit 466,yE)::(nat_lit 467,yF)::(nat_lit 473,yG)::(nat_lit 474,yH)::(nat_lit 480,yI)::(nat_lit 481,yJ)::(nat_lit 485,yK)::(nat_lit 486,yL)::(nat_lit 492,yM)::(nat_lit 493,yN)::[]
noncomputable def ku:List Nat:=nat_lit 2::nat_lit 3::nat_lit 23::nat_lit 24::nat_lit 25::nat_lit 40::nat_lit 41::nat_lit 43::nat_lit 44::nat_lit 59::nat_lit 60::nat_lit 62::nat_lit 63::nat_lit 71::nat_lit 72::nat_lit 78::nat_lit 79::nat_lit 85::nat_lit 86::nat_lit 92::nat_lit 93::nat_lit 97::nat_lit 98::nat_lit 104::nat_lit 105::nat_lit 111::nat_lit 112::nat_lit 118::nat_lit 119::nat_lit 125::nat_lit 126::nat_lit 132::nat_lit 133::nat_lit 139::nat_lit 140::nat_lit 146::nat_lit 147::nat_lit 153::nat_lit 154::nat_lit 160::nat_lit 161::nat_lit 174::nat_lit 175::nat_lit 181::nat_lit 182::nat_lit 188::nat_lit 189::nat_lit 195::nat_lit 196::nat_lit 202::nat_lit 203::nat_lit 205::nat_lit 206::nat_lit 207::nat_lit 208::nat_lit 216::nat_lit 217::nat_lit 223::nat_lit 224::nat_lit 230::nat_lit 231::nat_lit 237::nat_lit 238::nat_lit 244::nat_lit 245::nat_lit 251::nat_lit 252::nat_lit 258::nat_lit 259::nat_lit 272::nat_lit 273::nat_lit 279::nat_lit 280::nat_lit 284::nat_lit 285::nat_lit 289::nat_lit 290::nat_lit 296::nat_lit 297::nat_lit 303::nat_lit 304::nat_lit 306::nat_lit 307::nat_lit 315::nat_lit 316::nat_lit 322::nat_lit 323::nat_lit 329::nat_lit 330::nat_lit 336::nat_lit 337::nat_lit 343::nat_lit 344::nat_lit 348::nat_lit 349::nat_lit 355::nat_lit 356::nat_lit 362::nat_lit 363::nat_lit 369::nat_lit 370::nat_lit 376::nat_lit 377::nat_lit 381::nat_lit 382::nat_lit 386::nat_lit 387::nat_lit 391::nat_lit 392::nat_lit 398::nat_lit 399::nat_lit 405::nat_lit 406::nat_lit 412::nat_lit 413::nat_lit 419::nat_lit 420::nat_lit 426::nat_lit 427::nat_lit 433::nat_lit 434::nat_lit 438::nat_lit 439::nat_lit 445::nat_lit 446::nat_lit 452::nat_lit 453::nat_lit 459::nat_lit 460::nat_lit 466::nat_lit 467::nat_lit 473::nat_lit 474::nat_lit 480::nat_lit 481::nat_lit 485::nat_lit 486::nat_lit 492::nat_lit 493::[]
noncomputable def yO (P:PySem.Params):W.BT:=rd 11 (Df P) ((rf P).ins 3 (Dd P))
noncomputable def Di (P:PySem.Params):W.BT:=vI (Dg P) (rd 218 (endL P) (yO P))
noncomputable def qv:PySem.Program:={ PySem.Challenge.pw_putback_k40_keep with main:={ (PySem.Challenge.pw_putback_k40_keep).main with body:=top 1::top 2::top 3::top 5::top 6::top 8::top 9::top 10::top 11::top 12::top 13::top 14::top 15::top 16::top 17::top 19::top 20::top 21::top 23::top 24::top 25::top 26::top 27::top 28::top 29::top 31::top 33::top 34::top 35::top 36::top 37::top 38::top 39::top 40::top 41::top 42::top 43::top 44::top 45::top 46::top 47::top 48::top 49::top 50::top 51::top 52::top 53::top 54::top 55::top 56::top 57::top 58::top 59::top 60::[] } }
theorem lz (P:PySem.Params):ku=(KK P).map (·.1):=by kernel_rfl
noncomputable def yP (w:PySem.World) (os:PySem.OsState):W.SharedT:=⟨yO w.params,218,(W.boot_heap w.params).life,#[],W.boot_drawn,464,os⟩
noncomputable def lA (w:PySem.World) (os:PySem.OsState):W.SharedT:=⟨Di w.params,494,(W.boot_heap w.params).life,#[],W.boot_drawn,886,os⟩
noncomputable def rj:List PySem.Stmt:=W.behindTheImports (W.OpenLaw.row PySem.Challenge.rw_putback_k40_keep).prog
noncomputable def pE:PySem.Env:={ scope:=((W.OpenLaw.row PySem.Challenge.rw_putback_k40_keep).prog).main.scope,locals:=PySem.mainNs,globals:=PySem.mainNs,cells:=[],code:=.ref 13,frame:=some 14 }
noncomputable def nW:PySem.Code:=.body (W.behindTheImports (W.OpenLaw.row PySem.Challenge.rw_putback_k40_keep).prog) pE
open W PyProof.Rows in
theorem Dj:∀w os,pB (W.OpenLaw.row PySem.Challenge.rw_putback_k40_keep).prog w 11 (some (.ref 6)) pE nW ⟨0,0,0,0⟩ (rj.take 24) 12 1 5000 (pC w os)=some (⟨jq jr (.body (behindTheImports (W.OpenLaw.row PySem.Challenge.rw_putback_k40_keep).prog) pE),nW,⟨0,0,0,0⟩,[topFrame ⟨0,0,0,0⟩]⟩,nW,nW,yP w os,⟨120,0,127,69⟩):=by
 intro w os
 kernel_rfl
open W PyProof.Rows in
theorem Dk:∀w os,lr (W.OpenLaw.row PySem.Challenge.rw_putback_k40_keep).prog w 11 (some (.ref 6)) 6000 (yP w os) (restOf (rj.drop 24) pE nW ⟨120,0,127,69⟩ [topFrame ⟨0,0,0,0⟩])=some (lA w os):=by
 intro w os
 kernel_rfl
open W PyProof.Rows in
theorem Dl:∀w os,(staticsOk (importedModules ((W.OpenLaw.row PySem.Challenge.rw_putback_k40_keep).prog).main.body) (boot_heap w.params) (lA w os).abs.heap && namesBound (W.OpenLaw.row PySem.Challenge.rw_putback_k40_keep).prog (lA w os).abs.heap && gensDone (lA w os).abs && laidKept (boot_heap w.params) (lA w os).abs.heap)=true:=by
 intro w os
 kernel_rfl
open W PyProof.Rows in
theorem Dq:∀w os,seenQ qv [] (importedModules ((W.OpenLaw.row PySem.Challenge.rw_putback_k40_keep).prog).main.body) (λs=>xlAt qv [] s && recOk (RowW.records (W.OpenRow.toRowW (W.OpenLaw.row PySem.Challenge.rw_putback_k40_keep))) s) true (lA w os).abs=openGood qv []:=by
 intro w os
 kernel_rfl
open W PyProof.Rows in
theorem Du:∀w os,Hook.obs (W.kmHook Pb.KK Pb.ku Pb.lz [135,372,469,476,488]) (lA w os).abs=Hook.val (W.kmHook Pb.KK Pb.ku Pb.lz [135,372,469,476,488]) w:=by
 intro w os
 kernel_rfl
open W PyProof.Rows in
theorem said:PySem.Challenge.rw_putback_k40_keep.wellSaid=true:=by
 delta OpenLaw.wellSaid OpenRow.wellSaid OpenRow.partSaid looksOpen
 repeat' (with_reducible refine look_both ?_ ?_)
 all_goals kernel_rfl
end Pb
namespace L2
open Spec PyProof.Rows
noncomputable abbrev Key:=Sum Int Str
noncomputable def mN:Key->Value->Bool
 | .inl k,v=>Value.isInt k v
 | .inr x,v=>Value.isStrOf x v
noncomputable def Dv (w:World):Key->Int
 | .inl k=>hashInt k
 | .inr x=>hashStr w x
theorem jZ:∀{k:Key}{v:Value},mN k v=true->(∃i t,k=Sum.inl i/\v=Value.int i t)\/(∃x t,k=Sum.inr x/\v=Value.str x t)
 | .inl i,v,h=>by
   obtain⟨t,e⟩:=Value.isInt_shape (k:=i) (v:=v) h;exact .inl ⟨i,t,rfl,e⟩
 | .inr x,v,h=>by
   obtain⟨t,e⟩:=Value.isStrOf_shape (x:=x) (v:=v) h;exact .inr ⟨x,t,rfl,e⟩
theorem Dw (i:Int)(t:Tok):mN (.inl i) (.int i t)=true:=by simp[mN,Value.isInt]
theorem Dx (x:Str)(t:Tok):mN (.inr x) (.str x t)=true:=by simp[mN,Value.isStrOf]
theorem Dy (a b:Int):decide ((Sum.inl a:Key)=Sum.inl b)=(a == b):=by
 by_cases e:a=b
 . subst e;simp
 . have h:¬(Sum.inl a:Key)=Sum.inl b:=λq=>e (Sum.inl.inj q);rw[decide_eq_false h];exact(beq_eq_false_iff_ne.mpr e).symm
theorem DA (a b:Str):decide ((Sum.inr a:Key)=Sum.inr b)=decide (a=b):=by
 by_cases e:a=b
 . subst e;simp
 . have h:¬(Sum.inr a:Key)=Sum.inr b:=λq=>e (Sum.inr.inj q);rw[decide_eq_false h,decide_eq_false e]
theorem DB (a:Int)(b:Str):decide ((Sum.inl a:Key)=Sum.inr b)=false:=decide_eq_false (λq=>nomatch q)
theorem DC (a:Str)(b:Int):decide ((Sum.inr a:Key)=Sum.inl b)=false:=decide_eq_false (λq=>nomatch q)
noncomputable def iW (prog:Program) (w:World):PySem.KeyKind prog w Key where
 is:=mN
 hash:=Dv w
 inj:=λv a b Y U=>by
  rcases jZ Y with⟨i,t,rfl,rfl⟩|⟨x,t,rfl,rfl⟩
  . rcases jZ U with⟨j,u,rfl,e⟩|⟨y,u,rfl,e⟩
    . injection e with I _;rw[I]
    . exact nomatch e
  . rcases jZ U with⟨j,u,rfl,e⟩|⟨y,u,rfl,e⟩
    . exact nomatch e
    . injection e with I _;rw[I]
 byValue:=λk v h=>by
  rcases jZ h with⟨i,t,rfl,rfl⟩|⟨x,t,rfl,rfl⟩ <;> rfl
 pyHash:=λJ h=>by
  rcases jZ J with⟨i,t,rfl,rfl⟩|⟨x,t,rfl,rfl⟩
  . exact wpAny_pyHash_int h
  . exact wpAny_pyHash_str h
 eqBool:=λhu J h=>by
  rcases jZ hu with⟨i,t,rfl,rfl⟩|⟨x,t,rfl,rfl⟩
  . rcases jZ J with⟨j,u,rfl,rfl⟩|⟨y,u,rfl,rfl⟩
    . rw[Dy] at h;exact wpAny_eqBool_int h
    . rw[DB] at h;exact SeqAt.EqAt.int_str i t y u _ _ _ _ h
  . rcases jZ J with⟨j,u,rfl,rfl⟩|⟨y,u,rfl,rfl⟩
    . rw[DC] at h;exact SeqAt.EqAt.str_int x t j u _ _ _ _ h
    . rw[DA] at h;exact wpAny_eqBool_str h
 «strs»:=λk x t v h=>by
  rcases jZ h with⟨i,u,rfl,e⟩|⟨y,u,rfl,e⟩
  . exact nomatch e
  . injection e with I _
    subst I
    cases v <;> rfl
theorem DE (prog:Program)(w:World)(i:Int)(t:Tok):(iW prog w).is (.inl i) (.int i t)=true:=Dw i t
theorem DF (prog:Program)(w:World)(x:Str)(t:Tok):(iW prog w).is (.inr x) (.str x t)=true:=Dx x t
inductive V where
 |non|bl (b:Bool)|int (i:Int)|str (x:Str)|jd (b:Array UInt8)|flt (b:UInt64)|ref (a:Addr)|ty (n:String)
 deriving DecidableEq
def RelV:V->Value->Prop
 | .non,u=>u=Value.none
 | .bl b,u=>u=Value.bool b
 | .int i,u=>∃t,u=Value.int i t
 | .str x,u=>∃t,u=Value.str x t
 | .jd b,u=>∃t,u=Value.bytes b t
 | .flt b,u=>∃t,u=Value.float b t
 | .ref a,u=>u=Value.ref a
 | .ty n,u=>u=Value.type n
abbrev Vals:List V->List Value->Prop:=Paired RelV
theorem Vals.length {xs:List V}{us:List Value}(r:Vals xs us):xs.length=us.length:=Paired.length r
theorem Vals.get:∀{xs:List V}{us:List Value}{i:Nat}{x:V},Vals xs us->xs[i]? =some x->∃u,us[i]? =some u/\RelV x u
 |_,_,_,_,.nil,e=>by simp at e
 |_,_,0,_,.cons r _,e=>by simp at e;subst e;exact(Zr rfl r)
 |_,_,i+1,x,.cons _ t,e=>by
  obtain⟨u,h1,h2⟩:=Vals.get (i:=i) (x:=x) t (by simpa using e);exact⟨u,by simpa using h1,h2⟩
theorem Vals.set {x:V}{u:Value}(r:RelV x u):∀{xs:List V}{us:List Value}(i:Nat),Vals xs us->Vals (xs.set i x) (us.set i u)
 |_,_,_,.nil=>.nil
 |_,_,0,.cons _ t=>.cons r t
 |_,_,i+1,.cons q t=>.cons q (Vals.set r i t)
theorem Vals.append:∀{xs ys:List V}{us ws:List Value},Vals xs us->Vals ys ws->Vals (xs++ys) (us++ws)
 |_,_,_,_,.nil,s=>s
 |_,_,_,_,.cons r t,s=>.cons r (Vals.append t s)
theorem Vals.take:∀{xs:List V}{us:List Value}(n:Nat),Vals xs us->Vals (xs.take n) (us.take n)
 |_,_,0,_=>.nil
 |_,_,_+1,.nil=>.nil
 |_,_,n+1,.cons r t=>.cons r (Vals.take n t)
theorem Vals.drop:∀{xs:List V}{us:List Value}(n:Nat),Vals xs us->Vals (xs.drop n) (us.drop n)
 |_,_,0,r=>r
 |_,_,_+1,.nil=>.nil
 |_,_,n+1,.cons _ t=>Vals.drop n t
theorem Vals.none_of:∀{xs:List V}{us:List Value}{i:Nat},Vals xs us->xs[i]? =none->us[i]? =none:=λ{xs us i} r e=>by
 have h1:=r.length;have h2:xs.length<=i:=List.getElem?_eq_none_iff.mp e;exact List.getElem?_eq_none_iff.mpr (by omega)
def ix:Option V->Option Value->Prop
 |some v,some u=>RelV v u
 |none,none=>True
 |_,_=>False
def KV {κ:Type}:List (κ × V)->List (κ × Value)->Prop:=Paired λ(p:κ × V) (q:κ × Value)=>p.1=q.1/\RelV p.2 q.2
noncomputable def kV:Key->V
 | .inl i=>.int i
 | .inr x=>.str x
inductive HO where
 |lst (xs:List V)
 |tup (xs:List V)
 |dK (kvs:List (Key × V))|dT (kvs:List (List Key × V))
 |set (S:Int->Bool) (n:Nat)
 |ins (C dx:Addr) (fs:List (Str × V))
 |own (x:Addr)
 |xd (fs:List (Str × V))
 |met (f x:Addr)
 |rng (lo hi:Int)
 |iE (o:Obj) (u:HO)
 |gA (ps:Array Value)
 |ext (φ:Heap->Prop)
noncomputable abbrev Hp:=Addr->Option HO
noncomputable def upd (H:Hp) (a:Addr) (o:HO):Hp:=λb=>if b=a then some o else H b
theorem eF {H:Hp}{a:Addr}{o:HO}:upd H a o a=some o:=by unfold upd;rw[if_pos rfl]
theorem eE {H:Hp}{a b:Addr}{o:HO}(h:b≠a):upd H a o b=H b:=by unfold upd;rw[if_neg h]
theorem gO {H:Hp}{a b:Addr}{o u:HO}(h:H a=some o)(h':H b=some u)(d:o≠u):a≠b:=by
 intro e;subst e;rw[h] at h';exact d (Option.some.inj h')
theorem eP {H:Hp}{a b:Addr}{o:HO}(h:H a=some o)(h':H b=none):a≠b:=by
 intro e;subst e;rw[h] at h';cases h'
section
variable (P:Program)(w:World)
def gB (H:Hp) (h:Heap) (a:Addr):HO->Prop
 | .lst xs=>xs.length<=sizeLine/\∃(I:List Value) (n:Nat),Vals xs I/\h.get? a=some { cls:=.type "list",data:=.seq I.toArray n }
 | .tup xs=>xs.length<=sizeLine/\∃I:List Value,Vals xs I/\IsTup h a I.toArray
 | .dK kvs=>kvs.length<=sizeLine/\(a == sysModules)=false/\∃vs,KV kvs vs/\h.DictOf (iW P w) a vs
 | .dT kvs=>kvs.length<=sizeLine/\(a == sysModules)=false/\∃xs:List (List Key × Addr × Value),
    Paired (λ(p:List Key × V) (q:List Key × Addr × Value)=>p.1=q.1/\H q.2.1=some (.tup (p.1.map kV))/\RelV p.2 q.2.2) kvs xs/\
    ∃o es U,h.get? a=some o/\o.ExactDict/\o.data=.dict es U/\es.toList=xs.map (entryOfKey (tupleKind (iW P w)))/\(xs.map (·.1)).Nodup
 | .set S n=>h.SetOf (intKind P w) a S n
 | .ins C dx fs=>H dx=some (.own a)/\fs.length<=1000/\dx≠a/\h.get? a=some (W.instObj C dx)/\
    ∃mA,h.Ns1 dx mA/\(∀f,ix (fs.lookup f) (mA f))/\PySem.Within mA (fs.map (·.1))
 | .own _=>∃o,h.get? a=some o
 | .xd fs=>∃mA,h.Ns1 a mA/\∀f,ix (fs.lookup f) (mA f)
 | .rng lo hi=>∃t u v,h.get? a=some { cls:=.type "range",data:=.fields #[.int lo t,.int hi u,.int 1 v] }
 | .iE o u=>h.get? a=some o/\gB H h a u
 | .gA ps=>h.get? a=some { cls:=.none,data:=.fields ps }
 | .met f x=>h.get? a=some (W.methodObj (.ref f) (.ref x))
 | .ext J=>J h/\(∃o,h.get? a=some o)/\∀h1 h2:Heap,J h1->(∀o,h1.get? a=some o->h2.get? a=some o)->J h2
def gu (H:Hp) (h:Heap):Prop:=∀a o,H a=some o->gB P w H h a o
end
section
variable {P:Program}{w:World}{H H':Hp}{h h':Heap}{a:Addr}{o:HO}
theorem gB.lt (x:gB P w H h a o):a<h.objs.size:=by
 cases o with
 |lst xs=>obtain⟨_,_,_,_,e⟩:=x;exact Q01 e
 |tup xs=>obtain⟨_,_,_,p⟩:=x;exact p.lt
 |dK kvs=>obtain⟨_,_,_,_,o,_,_,e,_⟩:=x;exact Q01 e
 |dT kvs=>obtain⟨_,_,_,_,o,_,_,e,_⟩:=x;exact Q01 e
 |set S n=>obtain⟨o,_,_,_,e,_⟩:=x;exact Q01 e
 |ins C dx fs=>obtain⟨_,_,_,e,_⟩:=x;exact Q01 e
 |own y=>obtain⟨_,e⟩:=x;exact Q01 e
 |xd fs=>obtain⟨_,⟨_,_,_,e,_⟩,_⟩:=x;exact Q01 e
 |rng lo hi=>obtain⟨_,_,_,e⟩:=x;exact Q01 e
 |iE I u=>obtain⟨e,_⟩:=x;exact Q01 e
 |gA ps=>exact Q01 (show h.get? a=some _ from x)
 |met f y=>exact Q01 (show h.get? a=some _ from x)
 |ext J=>obtain⟨_,⟨_,e⟩,_⟩:=x;exact Q01 e
theorem Paired.nX {α U:Type}{F G:α->U->Prop}:∀{I:List α}{J:List U},Paired F I J->(∀a b,F a b->G a b)->Paired G I J
 |_,_,.nil,_=>.nil
 |_,_,.cons r t,f=>.cons (f _ _ r) (Paired.nX t f)
theorem gB.stay (x:gB P w H h a o)(k:∀b u,(b=a\/H b=some (.own a))->h.get? b=some u->h'.get? b=some u)
 (ho:∀b,H b=some (.own a)->H' b=some (.own a)) (ht:∀b xs,H b=some (.tup xs)->H' b=some (.tup xs)):gB P w H' h' a o:=by
 induction o with
 |lst xs=>obtain⟨z,U,n,r,e⟩:=x;exact⟨z,U,n,r,k _ _ (.inl rfl) e⟩
 |tup xs=>obtain⟨z,U,r,I,e,c⟩:=x;exact⟨z,U,r,I,k _ _ (.inl rfl) e,c⟩
 |dK kvs=>obtain⟨z,y,vs,r,I,es,J,e,c⟩:=x;exact⟨z,y,vs,r,I,es,J,k _ _ (.inl rfl) e,c⟩
 |dT kvs=>
  obtain⟨z,y,xs,r,I,es,J,e,c⟩:=x;exact⟨z,y,xs,Paired.nX r λp q z=>⟨z.1,ht _ _ z.2.1,z.2.2⟩,I,es,J,k _ _ (.inl rfl) e,c⟩
 |set S n=>obtain⟨I,es,J,t,e,c⟩:=x;exact⟨I,es,J,t,k _ _ (.inl rfl) e,c⟩
 |ins C dx fs=>
  obtain⟨d,z,ne,e,mA,⟨Y,es,J,e2,c⟩,r⟩:=x;exact⟨ho _ d,z,ne,k _ _ (.inl rfl) e,mA,⟨Y,es,J,k _ _ (.inr d) e2,c⟩,r⟩
 |own y=>obtain⟨I,e⟩:=x;exact⟨I,k _ _ (.inl rfl) e⟩
 |xd fs=>obtain⟨mA,⟨Y,es,J,e,c⟩,r⟩:=x;exact⟨mA,⟨Y,es,J,k _ _ (.inl rfl) e,c⟩,r⟩
 |rng lo hi=>obtain⟨t,u,v,e⟩:=x;exact⟨t,u,v,k _ _ (.inl rfl) e⟩
 |iE I u ih=>obtain⟨e,q⟩:=x;exact⟨k _ _ (.inl rfl) e,ih q⟩
 |gA ps=>
  have e:h.get? a=some { cls:=.none,data:=.fields ps }:=x;show h'.get? a=some { cls:=.none,data:=.fields ps };exact k a _ (.inl rfl) e
 |met f y=>
  have e:h.get? a=some (W.methodObj (.ref f) (.ref y)):=x;show h'.get? a=some (W.methodObj (.ref f) (.ref y));exact k a _ (.inl rfl) e
 |ext φ=>obtain⟨p,⟨o,e⟩,st⟩:=x;exact⟨st _ _ p λo q=>k _ _ (.inl rfl) q,⟨o,k _ _ (.inl rfl) e⟩,st⟩
theorem gu.lt (x:gu P w H h)(e:H a=some o):a<h.objs.size:=(x a o e).lt
theorem gu.fresh (x:gu P w H h)(e:h.objs.size<=a):H a=none:=by
 cases q:H a with
 |none=>rfl
 |some u=>exact absurd (Q0a (x.lt q) e) (Q0p _)
theorem gu.kept (x:gu P w H h)(k:∀b u,h.get? b=some u->h'.get? b=some u):gu P w H h':=λa o e=>
 (x a o e).stay (λb u _ q=>k b u q) (λ_ q=>q) λ_ _ q=>q
theorem gu.laid (x:gu P w H h)(k:∀b u,h.get? b=some u->h'.get? b=some u)(hp:h.objs.size<=a)(new:gB P w (upd H a o) h' a o):gu P w (upd H a o) h':=λb u e=>by
 have I:=x.fresh hp;by_cases J:b=a
 . subst J;rw[eF] at e;cases e;exact new
 . rw[eE J] at e;exact(x b u e).stay (λc v _ q=>k c v q) (λc q=>by rw[eE (eP q I)];exact q) λc xs q=>by rw[eE (eP q I)];exact q
end
def Rd (H:Hp) (a:Addr) (u:HO):Prop:=H a=some u\/∃o,H a=some (.iE o u)
theorem Rd.ok {P:Program}{w:World}{H:Hp}{h:Heap}{a:Addr}{u:HO}(r:Rd H a u)(x:gu P w H h):gB P w H h a u:=by
 rcases r with r|⟨o,r⟩
 . exact x a u r
 . obtain⟨_,q⟩:=x a _ r;exact q
def nY:Option HO->Prop
 |some (.lst _)=>True
 |some (.dK _)=>True
 |some (.dT _)=>True
 |some (.set _ _)=>True
 |some (.ins _ _ _)=>True
 |some (.ext _)=>True
 |_=>False
section
variable {P:Program}{w:World}{H:Hp}{h h':Heap}{x e:Addr}{o':HO}
theorem gu.write (ok:gu P w H h)(mu:nY (H x))(he:e=x\/H e=some (.own x))(k:∀b u,b≠e->h.get? b=some u->h'.get? b=some u)(aa:∃u,h'.get? e=some u)
 (new:gB P w (upd H x o') h' x o'):gu P w (upd H x o') h':=λb u q=>by
 have J:∀c y,H c=some (.own y)->c≠x:=λc y r z=>by subst z;rw[r] at mu;exact mu
 have U:∀c xs,H c=some (.tup xs)->c≠x:=λc xs r z=>by subst z;rw[r] at mu;exact mu
 by_cases Y:b=x
 . subst Y;rw[eF] at q;cases q;exact new
 . rw[eE Y] at q;by_cases I:b=e
   . have q':H b=some (.own x):=by
      rcases he with z|z
      . exact absurd (I.trans z) Y
      . rw[I];exact z
     rw[q] at q';cases q';obtain⟨v,hv⟩:=aa;exact⟨v,by rw[I];exact hv⟩
   . refine(ok b u q).stay (λc v hc r=>k c v ?_ r) (λc r=>by rw[eE (J c b r)];exact r) λc xs r=>by rw[eE (U c xs r)];exact r
     rcases hc with rfl|hc
     . exact I
     . rintro rfl;rcases he with z|z
       . exact J c b hc z
       . rw[hc] at z;cases z;exact Y rfl
end
structure Un (fs ex:List Addr) (H H':Hp) (h h':Heap):Prop where
 keep:∀b o,h.get? b=some o->H b=none->b ∉ fs->b ∉ ex->h'.get? b=some o
 slot:∀b o,h.get? b=some o->H b=none->b∈fs->b ∉ ex->∃sl,h'.get? b=some { o with slots:=sl }
 free:∀b o,h.get? b=some o->H b=none->b ∉ ex->H' b=none
 there:∀b o,h.get? b=some o->b ∉ ex->∃o',h'.get? b=some o'
 tups:∀b xs,H b=some (.tup xs)->H' b=some (.tup xs)
 je:∀b o u,H b=some (.iE o u)->H' b=some (.iE o u)
 jf:∀b ps,H b=some (.gA ps)->∃more,H' b=some (.gA (ps++more))
section
variable {fs fs' ex ex':List Addr}{H H1 H2:Hp}{h h1 h2 h':Heap}{a x e:Addr}{o:HO}
theorem Un.any (u:Un fs ex H H1 h h1){b:Addr}{I:Obj}(q:h.get? b=some I)(n:H b=none)(J:b ∉ ex):∃Y,h1.get? b=some { I with slots:=Y }:=by
 by_cases U:b∈fs
 . exact u.slot b I q n U J
 . exact⟨I.slots,u.keep b I q n U J⟩
theorem Un.kept (k:∀b u,h.get? b=some u->h'.get? b=some u):Un fs ex H H h h':=
 ⟨λb I q _ _ _=>k b I q,λb I q _ _ _=>⟨I.slots,k b I q⟩,λ_ _ _ n _=>n,λb I q _=>⟨I,k b I q⟩,λ_ _ q=>q,λ_ _ _ q=>q,λ_ ps q=>⟨#[],by rw[q];simp⟩⟩
theorem Un.refl:Un fs ex H H h h:=Un.kept λ_ _ q=>q
theorem Un.laid (k:∀b u,h.get? b=some u->h'.get? b=some u)(hp:h.objs.size<=a)(I:H a=none):Un fs ex H (upd H a o) h h' where
 keep:=λb u q _ _ _=>k b u q
 slot:=λb u q _ _ _=>⟨u.slots,k b u q⟩
 free:=λb u q n _=>by rw[eE (Q08 (Q0a (Q01 q) hp))];exact n
 there:=λb u q _=>⟨u,k b u q⟩
 tups:=λb xs q=>by rw[eE (eP q I)];exact q
 je:=λb u xs q=>by rw[eE (eP q I)];exact q
 jf:=λb ps q=>⟨#[],by rw[eE (eP q I),q];simp⟩
theorem Un.write (mu:nY (H x))(he:e=x\/H e=some (.own x))(k:∀b u,b≠e->h.get? b=some u->h'.get? b=some u)(U:∃u,h'.get? e=some u):Un fs ex H (upd H x o) h h':=by
 have Y:∀b,H b=none->b≠x:=λb n z=>by subst z;rw[n] at mu;exact mu
 have hb:∀b,H b=none->b≠e:=λb n z=>by
  subst z;rcases he with r|r
  . exact Y b n r
  . rw[n] at r;cases r
 have J:∀b u,H b=some u->¬nY (some u)->b≠x:=λb u q nm z=>by subst z;rw[q] at mu;exact nm mu
 refine⟨λb u q n _ _=>k b u (hb b n) q,λb u q n _ _=>⟨u.slots,k b u (hb b n) q⟩,λb u q n _=>by rw[eE (Y b n)];exact n,λb u q _=>?_,
  λb xs q=>by rw[eE (J b _ q λz=>z)];exact q,λb u xs q=>by rw[eE (J b _ q λz=>z)];exact q,λb ps q=>⟨#[],by rw[eE (J b _ q λz=>z),q];simp⟩⟩
 by_cases I:b=e
 . subst I;exact U
 . exact⟨u,k b u I q⟩
end
noncomputable def pF (h:Heap) (H:Hp):List Addr:=(List.range h.objs.size).filter λa=>(H a).isSome
noncomputable def jH (h:Heap) (H:Hp):Heap:=W.hideAll h (pF h H)
theorem DG (h:Heap)(H:Hp):(jH h H).objs.size=h.objs.size:=W.hideAll_size _ _
theorem DH {h:Heap}{H:Hp}{b:Addr}{o:Obj}(e:h.get? b=some o)(n:H b=none):(jH h H).get? b=some o:=
 W.hideAll_get _ e λI=>by
   have q:(H b).isSome=true:=(List.mem_filter.mp I).2;rw[n] at q;simp at q
theorem DJ {h:Heap}{H:Hp}{b:Addr}{o:Obj}(e:(jH h H).get? b=some o):h.get? b=some o/\H b=none:=by
 have I:h.get? b=some o:=W.of_hideAll (pF h H) e;refine⟨I,?_⟩
 cases q:H b with
 |none=>rfl
 |some x=>
  have J:b∈pF h H:=List.mem_filter.mpr ⟨List.mem_range.mpr (Q01 I),by simp[q]⟩;have z:(jH h H).get? b=none:=W.hideAll_none (pF h H) J;rw[z] at e;cases e
noncomputable def DK (g h:Heap) (L:Addr):List (Addr × Obj):=(List.range h.objs.size).filterMap λa=>if a=L\/(g.get? a).isSome=true then none else(h.get? a).map λo=>(a,o)
noncomputable def rest (g h:Heap) (L d:Addr):List (Addr × Obj):=(DK g h L).filter λp=>decide (p.1≠d)
structure Mod (K:W.Frag) (mg:Str->Option Value) (base:Heap):Prop where
 nZ:K.In base
 glob:base.Ns mainGlobals mg
 blt:∃mb,base.Ns builtinsNs mb/\∀x:Str,x≠"__name__"->mb x=bootBuiltins x
 nolimit:base.NoLimit
structure Cx where
 prog:Program
 w:World
 K:W.Frag
 mg:Str->Option Value
 base:Heap
 A:Around
 N:List Str
 s₀:Shared
 H₀:Hp
 env:Env
 outer:List Env
 stack:List Env
 ex:List Addr
 fn:Str->Bool
 calm:Bool
 pn:List (Addr × Obj)
 xe:Value->Shared->Prop
noncomputable def frs (l:List Env):List Addr:=l.filterMap (·.frame)
noncomputable abbrev Cx.fs (X:Cx):List Addr:=frs X.outer
def pG (sc:Scope) (x:Str):Prop:=sc.names.lookup x=some .local\/sc.names.lookup x=some .cell\/sc.names.lookup x=some .free
def Loc (sc:Scope) (x:Str):Prop:=sc.names.lookup x=some .local\/sc.names.lookup x=some .cell
def Look (env:Env) (h:Heap) (m:Str->Option Value) (x:Str) (u:Value):Prop:=
 (env.kindOf x=some .local/\m x=some u)\/((env.kindOf x=some .cell\/env.kindOf x=some .free)/\∃c,env.cells.lookup x=some c/\h.IsCell c (some u))
structure Cx.Ok (X:Cx):Prop where
 mod:Mod X.K X.mg X.base
 kind:X.env.scope.kind=.function
 glob:X.env.globals=mainGlobals
 blt:X.env.builtins=builtinsNs
 above:X.s₀.heap.objs.size<=X.env.locals
 inj:∀x y c,X.env.cells.lookup x=some c->X.env.cells.lookup y=some c->x=y
 has:∀x,(X.env.kindOf x=some .cell\/X.env.kindOf x=some .free)->∃c,X.env.cells.lookup x=some c
 cab:∀x c,X.fn x=true->X.env.cells.lookup x=some c->X.s₀.heap.objs.size<=c
 hd:X.calm=true->X.A.handled=none
 frames:X.A.frames=some X.stack
 stk:X.stack=X.outer\/(X.stack=X.env::X.outer/\X.env.frame=some X.env.locals)
 n9:∀b∈X.ex,b≠X.env.locals/\∀x c,X.env.cells.lookup x=some c->c≠b
 bs:∀b o,X.base.get? b=some o->X.s₀.heap.get? b=some o/\X.H₀ b=none
 iX:X.base.objs.size<=X.s₀.heap.objs.size
 kx:∀b o,X.base.get? b=some o->b ∉ X.ex
 lB:∀b∈X.ex,b ∉ X.fs
 iF:X.s₀.heap.FunFrames X.base X.outer
 jI:∀b∈X.fs,X.H₀ b=none
structure Inv (X:Cx) (pins:List (Addr × Obj)) (σ:List (Option V)) (H:Hp) (s:Shared):Prop where
 ok:X.Ok
 os:s.os=X.s₀.os
 bare:AllBare s.gens
 base:Un X.fs X.ex X.H₀ H X.s₀.heap s.heap
 loc:∃m,s.heap.Ns X.env.locals m/\∀(i:Nat) (x:Str) (v:V),X.N[i]? =some x->σ[i]? =some (some v)->pG X.env.scope x->∃u,RelV v u/\Look X.env s.heap m x u
 cell:∀x c,X.env.cells.lookup x=some c->∃v,s.heap.IsCell c v
 free:H X.env.locals=none
 ij:∀x c,X.env.cells.lookup x=some c->H c=none
 pin:∀p∈X.pn++pins,s.heap.get? p.1=some p.2/\H p.1=none/\p.1≠X.env.locals/\p.1 ∉ X.fs/\∀v,p.2.data≠ .cell v
 hok:gu X.prog X.w H s.heap
 len:σ.length=X.N.length
section
variable {X:Cx}{pins:List (Addr × Obj)}{σ:List (Option V)}{H H':Hp}{s:Shared}{h':Heap}
theorem Cx.Ok.DL (ok:X.Ok){b:Addr}{o:Obj}(e:X.base.get? b=some o):b ∉ X.fs:=λI=>by
 have:=(ok.iF.mem I).1;rw[e] at this;cases this
theorem Inv.bs (I:Inv X pins σ H s):∀b o,X.base.get? b=some o->s.heap.get? b=some o/\H b=none:=λb o e=>
 ⟨I.base.keep b o (I.ok.bs b o e).1 (I.ok.bs b o e).2 (I.ok.DL e) (I.ok.kx b o e),I.base.free b o (I.ok.bs b o e).1 (I.ok.bs b o e).2 (I.ok.kx b o e)⟩
theorem Inv.bk (I:Inv X pins σ H s):∀b o,X.base.get? b=some o->s.heap.get? b=some o:=λb o e=>(I.bs b o e).1
theorem Inv.mod (I:Inv X pins σ H s):Mod X.K X.mg X.base:=I.ok.mod
theorem Inv.gR (I:Inv X pins σ H s):X.K.In s.heap:=I.ok.mod.nZ.keeps I.bk
theorem Inv.nolimit (I:Inv X pins σ H s):s.heap.NoLimit:=I.ok.mod.nolimit.keeps I.bk
theorem Inv.lt (I:Inv X pins σ H s):X.env.locals<s.heap.objs.size:=let⟨_,J,_⟩:=I.loc;J.lt
theorem Inv.sz (I:Inv X pins σ H s):X.s₀.heap.objs.size<=s.heap.objs.size:=Q0f I.ok.above (Q0k I.lt)
theorem Inv.mO (I:Inv X pins σ H s){a:Addr}(h:s.heap.objs.size<=a):a ∉ X.fs:=λJ=>by
 obtain⟨_,o,U,_⟩:=I.ok.iF.mem J;exact absurd (Q0a (Q01 U) (Q0f I.sz h)) (Q0p _)
theorem Inv.jt (I:Inv X pins σ H s):∀x c,X.env.cells.lookup x=some c->c≠X.env.locals:=λx c e z=>by
 obtain⟨v,o,Y,hd⟩:=I.cell x c e;obtain⟨m,⟨o',es,ep,J,U,_⟩,_⟩:=I.loc;rw[z,J] at Y;cases Y;rw[U] at hd;cases hd
theorem Inv.iF (I:Inv X pins σ H s):s.heap.FunFrames X.base X.outer:=by
 have all:∀(l:List Env),(∀b∈frs l,b∈X.fs)->X.s₀.heap.FunFrames X.base l->s.heap.FunFrames X.base l:=by
  intro l
  induction l with
  |nil=>intro _ _;trivial
  |cons env r ih=>
   intro hs hl;obtain⟨hk,⟨L,o,J,hn,ho,hd⟩,hr⟩:=hl;have U:L∈X.fs:=hs L (by unfold frs;rw[Q1r,J];exact Q05);obtain⟨sl,e⟩:=I.base.slot L o ho (I.ok.jI L U) U λz=>I.ok.lB L z U;exact⟨hk,⟨L,_,J,hn,e,hd⟩,ih (λb Y=>hs b (by unfold frs;rw[Q1r,J];exact Q0b _ Y)) hr⟩
 exact all X.outer (λ_ Y=>Y) I.ok.iF
theorem Inv.stack (I:Inv X pins σ H s):s.heap.FunFrames X.base X.stack:=by
 rcases I.ok.stk with e|⟨e,J⟩
 . rw[e];exact I.iF
 . rw[e];obtain⟨m,U,_⟩:=I.loc;refine .cons (by rw[I.ok.kind];decide) J U ?_ I.iF;exact Heap.get?_none_of_le (Q0f I.ok.iX I.ok.above)
theorem Inv.n_ (I:Inv X pins σ H s):∀b∈frs X.stack,b∈X.env.locals::X.fs:=λb J=>by
 rcases I.ok.stk with e|⟨e,U⟩
 . rw[e] at J;exact Q0b _ J
 . rw[e] at J;unfold frs at J;rw[Q1r,U] at J;exact J
theorem Inv.pH (I:Inv X pins σ H s):∀b∈frs X.stack,H b=none:=λb J=>by
 rcases List.mem_cons.mp (I.n_ b J) with e|J
 . rw[e];exact I.free
 . obtain⟨_,o,U,_⟩:=I.ok.iF.mem J;exact I.base.free b o U (I.ok.jI b J) λz=>I.ok.lB b z J
theorem Inv.step {g':Array GenState}{t':Nat}{d':Drawn}{ch:List Addr}(I:Inv X pins σ H s)
 (U:∀b∈ch,(b∈X.ex\/X.s₀.heap.objs.size<=b)/\b≠X.env.locals/\(∀x c,X.env.cells.lookup x=some c->c≠b)/\∀p∈X.pn++pins,p.1≠b)
 (keep:∀b o,b≠X.env.locals->b ∉ X.fs->b ∉ ch->s.heap.get? b=some o->H b=none->h'.get? b=some o)
 (slot:∀b o,b≠X.env.locals->b∈X.fs->b ∉ ch->s.heap.get? b=some o->H b=none->∃sl,h'.get? b=some { o with slots:=sl }) (free:∀b o,b ∉ ch->s.heap.get? b=some o->H b=none->H' b=none)
 (there:∀b o,b ∉ ch->s.heap.get? b=some o->∃o',h'.get? b=some o')
 (tups:∀b xs,H b=some (.tup xs)->H' b=some (.tup xs)) (je:∀b o u,H b=some (.iE o u)->H' b=some (.iE o u)) (jf:∀b ps,H b=some (.gA ps)->∃ae,H' b=some (.gA (ps++ae)))
 (ns:∀m,s.heap.Ns X.env.locals m->h'.Ns X.env.locals m) (af:gu X.prog X.w H' h') (hg:AllBare g'):
 Inv X pins σ H' { s with heap:=h',gens:=g',drawn:=d',toks:=t' }:=by
 have ac:∀b o,X.s₀.heap.get? b=some o->b≠X.env.locals:=λb o e=>Q08 (Q0a (Q01 e) I.ok.above)
 have ab:∀b o,X.s₀.heap.get? b=some o->b ∉ X.ex->b ∉ ch:=λb o e J hb=>by
  rcases(U b hb).1 with z|z
  . exact J z
  . exact absurd (Q0a (Q01 e) z) (Q0p _)
 have aa:∀x c,X.env.cells.lookup x=some c->∀v,s.heap.IsCell c v->h'.IsCell c v:=λx c e v ⟨o,ho,hd⟩=>by
  have Y:c ∉ ch:=λz=>(U c z).2.2.1 x c e rfl;by_cases hc:c∈X.fs
  . obtain⟨sl,q⟩:=slot c o (I.jt x c e) hc Y ho (I.ij x c e);exact⟨_,q,hd⟩
  . exact⟨o,keep c o (I.jt x c e) hc Y ho (I.ij x c e),hd⟩
 refine⟨I.ok,I.os,hg,⟨λb o e n hb J=>?_,λb o e n hb J=>?_,λb o e n J=>?_,λb o e J=>?_,λb xs e=>tups b xs (I.base.tups b xs e),λb o xs e=>je b o xs (I.base.je b o xs e),λb ps e=>?_⟩,?_,λx c e=>?_,?_,λx c e=>?_,λp hp=>?_,af,I.len⟩
 . exact keep b o (ac b o e) hb (ab b o e J) (I.base.keep b o e n hb J) (I.base.free b o e n J)
 . obtain⟨sl,e1⟩:=I.base.slot b o e n hb J;obtain⟨ag,e2⟩:=slot b _ (ac b o e) hb (ab b o e J) e1 (I.base.free b o e n J);exact⟨ag,e2⟩
 . obtain⟨o',e1⟩:=I.base.there b o e J;exact free b o' (ab b o e J) e1 (I.base.free b o e n J)
 . obtain⟨o',e1⟩:=I.base.there b o e J;exact there b o' (ab b o e J) e1
 . obtain⟨m1,e1⟩:=I.base.jf b ps e;obtain⟨m2,e2⟩:=jf b _ e1;exact⟨m1++m2,by rw[e2,Array.append_assoc]⟩
 . obtain⟨m,hn,hl⟩:=I.loc;refine⟨m,ns m hn,λi x v e1 e2 e3=>?_⟩;obtain⟨u,r,l⟩:=hl i x v e1 e2 e3;refine⟨u,r,?_⟩;rcases l with l|⟨k,c,e,z⟩
   . exact .inl l
   . exact .inr ⟨k,c,e,aa x c e _ z⟩
 . obtain⟨v,z⟩:=I.cell x c e;exact⟨v,aa x c e v z⟩
 . obtain⟨m,⟨o,_,_,ho,_⟩,_⟩:=I.loc;exact free _ o (λz=>(U _ z).2.1 rfl) ho I.free
 . obtain⟨v,o,ho,hd⟩:=I.cell x c e;exact free c o (λz=>(U c z).2.2.1 x c e rfl) ho (I.ij x c e)
 . obtain⟨e,n,ne,nf,d⟩:=I.pin p hp;have Y:p.1 ∉ ch:=λz=>(U p.1 z).2.2.2 p hp rfl;exact⟨keep p.1 p.2 ne nf Y e n,free p.1 p.2 Y e n,ne,nf,d⟩
theorem Inv.un {t':Nat}(I:Inv X pins σ H s)(u:Un X.fs [] H H' s.heap h')(Y:gu X.prog X.w H' h'):Inv X pins σ H' { s with heap:=h',toks:=t' }:=by
 obtain⟨m,⟨o,es,ep,ho,r⟩,_⟩:=id I.loc;obtain⟨sl,hL⟩:=u.any ho I.free (by simp)
 exact I.step (g':=s.gens) (d':=s.drawn) (ch:=[]) (λ_ z=>nomatch z) (λb o _ U _ e n=>u.keep b o e n U (by simp)) (λb o _ U _ e n=>u.slot b o e n U (by simp)) (λb o _ e n=>u.free b o e n (by simp)) (λb o _ e=>u.there b o e (by simp)) u.tups u.je u.jf (λm' hm=>by
  obtain⟨o',aa,ab,J,r'⟩:=hm;rw[ho] at J;cases J;exact⟨_,aa,ab,hL,r'⟩) Y I.bare
theorem Inv.call {g':Array GenState}{t':Nat}{d':Drawn}{ch:List Addr}(I:Inv X pins σ H s)(u:Un (frs X.stack) ch H H' s.heap h')(aa:gu X.prog X.w H' h')(hg:AllBare g')
 (J:∀b∈ch,(b∈X.ex\/X.s₀.heap.objs.size<=b)/\b≠X.env.locals/\(∀x c,X.env.cells.lookup x=some c->c≠b)/\∀p∈X.pn++pins,p.1≠b):
 Inv X pins σ H' { s with heap:=h',gens:=g',drawn:=d',toks:=t' }:=by
 obtain⟨m,⟨o,es,ep,ho,r⟩,_⟩:=id I.loc;obtain⟨sl,Y⟩:=u.any ho I.free λz=>(J _ z).2.1 rfl
 exact I.step (ch:=ch) J (λb o Y hb hc e n=>u.keep b o e n (λz=>(List.mem_cons.mp (I.n_ b z)).elim Y hb) hc) (λb o _ _ hc e n=>u.any e n hc) (λb o hc e n=>u.free b o e n hc) (λb o hc e=>u.there b o e hc) u.tups u.je u.jf (λm' hm=>by
  obtain⟨o',ab,ac,U,r'⟩:=hm;rw[ho] at U;cases U;exact⟨_,ab,ac,Y,r'⟩) aa hg
theorem Inv.turned {t':Nat}{it:Addr}(I:Inv X pins σ H s)(k:∀b o,b≠it->s.heap.get? b=some o->h'.get? b=some o)(Y:H it=none)(U:it≠X.env.locals)
 (h1:it∈X.ex\/X.s₀.heap.objs.size<=it) (h2:∀x c,X.env.cells.lookup x=some c->c≠it) (h3:∀p∈X.pn++pins,p.1≠it):Inv X pins σ H { s with heap:=h',toks:=t' }:=by
 have J:∀b u,H b=some u->b≠it:=λb u e z=>by rw[z,Y] at e;cases e
 refine I.step (g':=s.gens) (d':=s.drawn) (ch:=[it]) (λb hb=>?_) (λb o _ _ hc e _=>k b o (λz=>hc (by simp[z])) e) (λb o _ _ hc e _=>⟨o.slots,k b o (λz=>hc (by simp[z])) e⟩) (λ_ _ _ _ n=>n)
  (λb o hc e=>⟨o,k b o (λz=>hc (by simp[z])) e⟩) (λ_ _ e=>e) (λ_ _ _ e=>e) (λb ps e=>⟨#[],by rw[e];simp⟩) (λm hm=>?_) (λb u e=>?_) I.bare
 . have e:b=it:=by simpa using hb
   subst e;exact⟨h1,U,h2,h3⟩
 . obtain⟨o,es,ep,ho,r⟩:=hm;exact⟨o,es,ep,k _ o (Ne.symm U) ho,r⟩
 . refine(I.hok b u e).stay (λc v hc q=>k c v ?_ q) (λ_ q=>q) λ_ _ q=>q;rcases hc with z|z
   . rw[z];exact J b u e
   . exact J c _ z
theorem Inv.tok (I:Inv X pins σ H s)(t:Nat):Inv X pins σ H { s with toks:=t }:=I.un (h':=s.heap) (t':=t) Un.refl I.hok
theorem Inv.kept {t':Nat}(I:Inv X pins σ H s)(k:∀b u,s.heap.get? b=some u->h'.get? b=some u):Inv X pins σ H { s with heap:=h',toks:=t' }:=I.un (Un.kept k) (I.hok.kept k)
theorem Inv.laid {a:Addr}{o:HO}{t':Nat}(I:Inv X pins σ H s)(k:∀b u,s.heap.get? b=some u->h'.get? b=some u)(hp:s.heap.objs.size<=a)(new:gB X.prog X.w (upd H a o) h' a o):
 Inv X pins σ (upd H a o) { s with heap:=h',toks:=t' }:=I.un (Un.laid k hp (I.hok.fresh hp)) (I.hok.laid k hp new)
theorem Inv.write {x e:Addr}{o:HO}{t':Nat}(I:Inv X pins σ H s)(mu:nY (H x))(U:e=x\/H e=some (.own x))(k:∀b u,b≠e->s.heap.get? b=some u->h'.get? b=some u)(J:∃u,h'.get? e=some u)
 (new:gB X.prog X.w (upd H x o) h' x o):Inv X pins σ (upd H x o) { s with heap:=h',toks:=t' }:=I.un (Un.write mu U k J) (I.hok.write mu U k J new)
theorem Inv.weak {J:List (Option V)}(I:Inv X pins σ H s)(hl:J.length=σ.length)(w:∀(i:Nat) v,J[i]? =some (some v)->σ[i]? =some (some v)):Inv X pins J H s:=
 ⟨I.ok,I.os,I.bare,I.base,let⟨m,Y,U⟩:=I.loc;⟨m,Y,λi x v e1 e2 e3=>U i x v e1 (w i v e2) e3⟩,I.cell,I.free,I.ij,I.pin,I.hok,hl.trans I.len⟩
theorem Inv.lC {J:List (Addr × Obj)}(I:Inv X pins σ H s)(h:∀p∈J,s.heap.get? p.1=some p.2/\H p.1=none/\p.1≠X.env.locals/\p.1 ∉ X.fs/\∀v,p.2.data≠ .cell v):Inv X J σ H s:=
 ⟨I.ok,I.os,I.bare,I.base,I.loc,I.cell,I.free,I.ij,λp hp=>(List.mem_append.mp hp).elim (λz=>I.pin p (Q0u _ z)) (h p),I.hok,I.len⟩
theorem rm {N:List Str}(I:N.Nodup){i j:Nat}{x:Str}(a:N[i]? =some x)(b:N[j]? =some x):i=j:=by
 obtain⟨h1,J⟩:=List.getElem?_eq_some_iff.mp a;obtain⟨h2,U⟩:=List.getElem?_eq_some_iff.mp b;exact(Q1s I).mp (J.trans U.symm)
theorem DM {M:Model}{A:Around}{E:Value->Shared->Prop}{i:Nat}{x:Str}{v:V}{u:Value}{Q:Unit->Shared->Prop}(I:Inv X pins σ H s)(hN:X.N.Nodup)(hi:X.N[i]? =some x)(hx:Loc X.env.scope x)(r:RelV v u)
 (h:∀s',Inv X pins (σ.set i (some v)) H s'->(∃a,Heap.SameBut a s.heap s'.heap/\(a=X.env.locals\/X.env.cells.lookup x=some a))->Q () s') (hf:X.fn x=true\/X.env.scope.names.lookup x=some .local:=by first|exact .inl rfl|exact .inr rfl|assumption):wpAny M A (storeName X.env x u) Q E s:=by
 obtain⟨m,hn,hl⟩:=id I.loc;have ah:(X.env.scope.kind == .class || (X.env.scope.kind == .module && X.env.locals != X.env.globals))=false:=by rw[I.ok.kind];rfl
 have ab:i<σ.length:=by rw[I.len];exact(List.getElem?_eq_some_iff.mp hi).1
 have jt:=I.jt
 have Y:∀{a:Addr} {h':Heap},(∃o,s.heap.get? a=some o/\H a=none)->Heap.SameBut a s.heap h'->gu X.prog X.w H h':=λ{a h'} ha J b ob e=>by
  obtain⟨_,_,aa⟩:=ha;refine(I.hok b ob e).stay (λc w' hc q=>(J.2 c ?_).trans q) (λ_ q=>q) λ_ _ q=>q;rintro rfl;rcases hc with rfl|hc
  . rw[aa] at e;cases e
  . rw[aa] at hc;cases hc
 rcases hx with hk|hk
 . refine wpAny_storeName_local hk hn (λh' aj J=>?_) ah;obtain⟨oL,_,_,ak,_⟩:=id hn;refine h _ ⟨I.ok,I.os,I.bare,⟨λb o e n hb hx=>?_,λb o e n hb hx=>?_,I.base.free,λb o e hx=>?_,I.base.tups,I.base.je,I.base.jf⟩,⟨_,aj,λj y v' U e2 e3=>?_⟩,λy c e=>?_,I.free,I.ij,λp hp=>?_,Y ⟨oL,ak,I.free⟩ J,by simpa using I.len⟩ ⟨_,J,.inl rfl⟩
   . exact(J.2 b (Q08 (Q0a (Q01 e) I.ok.above))).trans (I.base.keep b o e n hb hx)
   . obtain⟨sl,U⟩:=I.base.slot b o e n hb hx;exact⟨sl,(J.2 b (Q08 (Q0a (Q01 e) I.ok.above))).trans U⟩
   . obtain⟨o',U⟩:=I.base.there b o e hx;exact⟨o',(J.2 b (Q08 (Q0a (Q01 e) I.ok.above))).trans U⟩
   . by_cases hj:j=i
     . subst hj;rw[hi] at U;cases U;rw[Q1t ab] at e2
       cases e2;exact⟨u,r,.inl ⟨hk,by simp⟩⟩
     . rw[Q1j (Ne.symm hj)] at e2;obtain⟨u',r',q⟩:=hl j y v' U e2 e3;refine⟨u',r',?_⟩;rcases q with⟨k,e⟩|⟨k,c,e,z⟩
       . refine .inl ⟨k,?_⟩;have:y≠x:=λe=>hj (rm hN U (e ▸ hi));simp[this,e]
       . exact .inr ⟨k,c,e,z.sameBut J (jt y c e)⟩
   . obtain⟨w',z⟩:=I.cell y c e;exact⟨w',z.sameBut J (jt y c e)⟩
   . obtain⟨e,n,ne,nf,d⟩:=I.pin p hp;exact⟨(J.2 p.1 ne).trans e,n,ne,nf,d⟩
 . have ac:X.fn x=true:=by
    rcases hf with z|z
    . exact z
    . rw[z] at hk;cases hk
   obtain⟨c,hc⟩:=I.ok.has x (.inl hk);obtain⟨w',z⟩:=I.cell x c hc;refine wpAny_storeName_cell I.ok.kind hk hc z (λh' ae J=>?_);obtain⟨oc,af,ai⟩:=id z;refine h { s with heap:=h' } ⟨I.ok,I.os,I.bare,⟨λb o e n hb hx=>?_,λb o e n hb hx=>?_,I.base.free,λb o e hx=>?_,I.base.tups,I.base.je,I.base.jf⟩,⟨m,hn.sameBut J (Ne.symm (jt x c hc)),λj y v' U e2 e3=>?_⟩,λy c' e=>?_,I.free,I.ij,λp hp=>?_,Y ⟨oc,af,I.ij x c hc⟩ J,by simpa using I.len⟩ ⟨c,J,.inr hc⟩
   . exact(J.2 b (Q08 (Q0a (Q01 e) (I.ok.cab x c ac hc)))).trans (I.base.keep b o e n hb hx)
   . obtain⟨sl,U⟩:=I.base.slot b o e n hb hx;exact⟨sl,(J.2 b (Q08 (Q0a (Q01 e) (I.ok.cab x c ac hc)))).trans U⟩
   . obtain⟨o',U⟩:=I.base.there b o e hx;exact⟨o',(J.2 b (Q08 (Q0a (Q01 e) (I.ok.cab x c ac hc)))).trans U⟩
   . by_cases hj:j=i
     . subst hj;rw[hi] at U;cases U;rw[Q1t ab] at e2
       cases e2;exact⟨u,r,.inr ⟨.inl hk,c,hc,ae⟩⟩
     . rw[Q1j (Ne.symm hj)] at e2;obtain⟨u',r',q⟩:=hl j y v' U e2 e3;refine⟨u',r',?_⟩;rcases q with q|⟨k,c',e,z'⟩
       . exact .inl q
       . refine .inr ⟨k,c',e,z'.sameBut J ?_⟩;rintro rfl;exact hj (rm hN U (I.ok.inj _ _ _ e hc ▸ hi))
   . by_cases ag:c'=c
     . subst ag;exact⟨_,ae⟩
     . obtain⟨w2,z2⟩:=I.cell y c' e;exact⟨w2,z2.sameBut J ag⟩
   . obtain⟨e,n,ne,nf,d⟩:=I.pin p hp;refine⟨(J.2 p.1 ?_).trans e,n,ne,nf,d⟩;intro q;rw[q,af] at e;have q':oc=p.2:=Option.some.inj e;exact d w' (by rw[<-q'];exact ai)
theorem og {M:Model}{A:Around}{E:Value->Shared->Prop}{i:Nat}{x:Str}{v:V}{u:Value}{Q:Unit->Shared->Prop}(I:Inv X pins σ H s)(J:X.N.Nodup)(hi:X.N[i]? =some x)(U:Loc X.env.scope x)(r:RelV v u)
 (h:∀s',Inv X pins (σ.set i (some v)) H s'->Q () s') (Y:X.fn x=true\/X.env.scope.names.lookup x=some .local:=by first|exact .inl rfl|exact .inr rfl|assumption):wpAny M A (storeName X.env x u) Q E s:=
 DM I J hi U r (λs' I' _=>h s' I') Y
theorem Inv.call' {s':Shared}{ch:List Addr}(I:Inv X pins σ H s)(Y:s'.os=s.os)(u:Un (frs X.stack) ch H H' s.heap s'.heap)(J:gu X.prog X.w H' s'.heap)(hg:AllBare s'.gens)
 (U:∀b∈ch,(b∈X.ex\/X.s₀.heap.objs.size<=b)/\b≠X.env.locals/\(∀x c,X.env.cells.lookup x=some c->c≠b)/\∀p∈X.pn++pins,p.1≠b):Inv X pins σ H' s':=by
 obtain⟨h',g',d',t',o'⟩:=s';have e:o'=s.os:=Y;subst e;exact I.call (g':=g') (t':=t') (d':=d') u J hg U
end
noncomputable abbrev XK:=Value->Option Addr->Hp->Prop
noncomputable abbrev St:=List (Option V)
noncomputable abbrev VK:=V->Hp->Prop
noncomputable abbrev TE:=St->Hp->VK->Prop
noncomputable abbrev TT:=St->Hp->(Bool->Hp->Prop)->Prop
noncomputable abbrev TA:=St->Hp->(List V->Hp->Prop)->Prop
structure Ends where
 nx:St->Hp->Prop
 rt:VK
 bk:St->Hp->Prop:=λ_ _=>False
 ct:St->Hp->Prop:=λ_ _=>False
noncomputable abbrev TS:=Ends->St->Hp->Prop
def EP (X:Cx) (pins:List (Addr × Obj)) (σ:St) (Q:VK) (u:Value) (s':Shared):Prop:=∃v H',Inv X pins σ H' s'/\RelV v u/\Q v H'
def TP (X:Cx) (pins:List (Addr × Obj)) (σ:St) (Q:Bool->Hp->Prop) (b:Bool) (s':Shared):Prop:=∃H',Inv X pins σ H' s'/\Q b H'
def AP (X:Cx) (pins:List (Addr × Obj)) (σ:St) (Q:List V->Hp->Prop) (us:List Value) (s':Shared):Prop:=∃vs H',Inv X pins σ H' s'/\Vals vs us/\Q vs H'
def SP (X:Cx) (pins:List (Addr × Obj)) (D:Ends) (f:Flow) (s':Shared):Prop:=
 match f with
 | .next=>∃I H',Inv X pins I H' s'/\D.nx I H'
 | .brk=>∃I H',Inv X pins I H' s'/\D.bk I H'
 | .cont=>∃I H',Inv X pins I H' s'/\D.ct I H'
 | .ret u=>∃v I H',Inv X pins I H' s'/\RelV v u/\D.rt v H'
def PE (X:Cx) (e:Expr) (t:TE):Prop:=
 ∀(pins:List (Addr × Obj)) (s:Shared) (σ:St) (H:Hp) (Q:VK),Inv X pins σ H s->t σ H Q->wpAny (model X.prog X.w) X.A (eval e X.env) (EP X pins σ Q) X.xe s
def PT (X:Cx) (e:Expr) (t:TT):Prop:=
 ∀(pins:List (Addr × Obj)) (s:Shared) (σ:St) (H:Hp) (Q:Bool->Hp->Prop),Inv X pins σ H s->t σ H Q->wpAny (model X.prog X.w) X.A (isTrue e X.env (eval e X.env)) (TP X pins σ Q) X.xe s
def PW (X:Cx) (e:Expr) (t:TT):Prop:=
 ∀(I:Sem Value) (pins:List (Addr × Obj)) (s:Shared) (σ:St) (H:Hp) (Q:Bool->Hp->Prop),Inv X pins σ H s->t σ H Q->wpAny (model X.prog X.w) X.A (isTrue e X.env I) (TP X pins σ Q) X.xe s
theorem PW.pt {X:Cx}{e:Expr}{t:TT}(h:PW X e t):PT X e t:=h _
def PA (X:Cx) (es:List Expr) (t:TA):Prop:=
 ∀(pos:Pos) (pins:List (Addr × Obj)) (s:Shared) (σ:St) (H:Hp) (Q:List V->Hp->Prop),Inv X pins σ H s->t σ H Q->wpAny (model X.prog X.w) X.A (spliced (backTo pos (starEach es X.env))) (AP X pins σ Q) X.xe s
def PS (X:Cx) (st:Stmt) (t:TS):Prop:=
 ∀(pins:List (Addr × Obj)) (s:Shared) (σ:St) (H:Hp) (D:Ends),Inv X pins σ H s->t D σ H->wpAny (model X.prog X.w) X.A (exec st X.env) (SP X pins D) X.xe s
def iG (X:Cx) (st:List Stmt) (t:TS):Prop:=
 ∀(pins:List (Addr × Obj)) (s:Shared) (σ:St) (H:Hp) (D:Ends),Inv X pins σ H s->t D σ H->wpAny (model X.prog X.w) X.A (execs st X.env) (SP X pins D) X.xe s
theorem eZ {α:Type}{t:Sem α}{Q I:α->Shared->Prop}{M:Model}{A:Around}{E:Value->Shared->Prop}{s:Shared}(h:wpAny M A t Q E s)(J:∀a s,Q a s->I a s):wpAny M A t I E s:=Q0o h J λ_ _ x=>x
section
variable {X:Cx}
def fT (i:Nat):TE:=λσ H Q=>∃v,σ[i]? =some (some v)/\Q v H
def tC (v:V):TE:=λ_ H Q=>Q v H
theorem DN {i:Nat}{x:Str}{pos:Pos}(hN:X.N[i]? =some x)(hv:pG X.env.scope x)(hd:(x == ("__debug__":Str))=false:=by decide)(Y:(x == ("__classdict__":Str))=false:=by decide):PE X (.Name x pos) (fT i):=by
 intro pins s σ H Q I h;obtain⟨v,e,h⟩:=h;obtain⟨m,hn,hl⟩:=I.loc;obtain⟨u,r,l⟩:=hl i x v hN e hv;have fin:EP X pins σ Q u s:=⟨v,H,I,r,h⟩;rcases l with⟨U,hm⟩|⟨U,c,hc,J⟩
 . exact wpAny_Name (wpAny_loadName_local I.ok.kind U hn hm fin) hd
 . rcases U with U|U
   . exact wpAny_Name (wpAny_loadName_cell I.ok.kind U hc J fin) hd
   . exact wpAny_Name (wpAny_loadName_free I.ok.kind U hc J fin Y) hd
theorem b_ {i j pos}:PE X (.Constant (.int i) j pos) (tC (.int i)):=λ_ _ _ H _ I h=>wpAny_Constant_int ⟨.int i,H,I.tok _,⟨_,rfl⟩,h⟩
theorem g8 {b j pos}:PE X (.Constant (.bool b) j pos) (tC (.bl b)):=λ_ _ _ H _ I h=>Constant_bool ⟨.bl b,H,I,rfl,h⟩
theorem gP {j pos}:PE X (.Constant .none j pos) (tC .non):=λ_ _ _ H _ I h=>Constant_none ⟨.non,H,I,rfl,h⟩
theorem eY {x j pos}:PE X (.Constant (.str x) j pos) (tC (.str x)):=λ_ _ _ H _ I h=>Calls.Constant_str ⟨.str x,H,I.tok _,⟨_,rfl⟩,h⟩
def Gl (X:Cx) (x:Str):Prop:=X.env.kindOf x=some .globalImplicit
theorem rn {E:Value->Shared->Prop}{pins:List (Addr × Obj)}{s:Shared}{σ:St}{H:Hp}{x:Str}{u:Value}{pos:Pos}{Q:Value->Shared->Prop}(I:Inv X pins σ H s)(J:Gl X x)(U:X.mg x=some u)(h:Q u s)
 (hd:(x == ("__debug__":Str))=false:=by decide):wpAny (model X.prog X.w) X.A (eval (.Name x pos) X.env) Q E s:=
 Calls.Name_function_global I.ok.kind J (Calls.loadGlobal_global (by rw[I.ok.glob];exact I.mod.glob.keeps I.bk) U h) hd
theorem lD {E:Value->Shared->Prop}{pins:List (Addr × Obj)}{s:Shared}{σ:St}{H:Hp}{x:Str}{u:Value}{pos:Pos}{Q:Value->Shared->Prop}(I:Inv X pins σ H s)(J:Gl X x)(U:X.mg x=none)(Y:bootBuiltins x=some u)(h:Q u s)
 (hn:x≠"__name__":=by decide) (hd:(x == ("__debug__":Str))=false:=by decide):wpAny (model X.prog X.w) X.A (eval (.Name x pos) X.env) Q E s:=by
 obtain⟨mb,h1,h2⟩:=I.mod.blt;exact Calls.Name_function_global I.ok.kind J (Calls.loadGlobal_builtin (by rw[I.ok.glob];exact I.mod.glob.keeps I.bk) U (by rw[I.ok.blt];exact h1.keeps I.bk) ((h2 x hn).trans Y) h) hd
theorem ik {x:Str}{v:V}{u:Value}{pos:Pos}(J:Gl X x)(U:X.mg x=none)(Y:bootBuiltins x=some u)(r:RelV v u)(hn:x≠"__name__":=by decide)(hd:(x == ("__debug__":Str))=false:=by decide):PE X (.Name x pos) (tC v):=
 λ_ _ _ H _ I h=>lD I J U Y ⟨v,H,I,r,h⟩ hn hd
variable {a b:Expr}{ta tb:TE}{pos:Pos}
def PC (X:Cx) (op:CmpOp) (a b:Expr) (t:TE):Prop:=
 ∀(pins:List (Addr × Obj)) (s:Shared) (σ:St) (H:Hp) (Q:VK),Inv X pins σ H s->t σ H Q->
  wpAny (model X.prog X.w) X.A (eval a X.env) (λv I=>wpAny (model X.prog X.w) X.A (eval b X.env) (λu J=>wpAny (model X.prog X.w) X.A (compareOp op v u) (EP X pins σ Q) X.xe J) X.xe I) X.xe s
def tB (t:TE):TT:=λσ H Q=>t σ H λx H1=>∃c,x=.bl c/\Q c H1
theorem DO {op:CmpOp}{t:TE}(h:PC X op a b t)(h1:behindInMarks op b=false:=by first|exact J _ (by decide) (by decide)|rfl):PE X (.Compare a [op] [b] pos) t:=λpins s σ H Q I hw=>wpAny_Compare1 (h pins s σ H Q I hw) h1
theorem pI {op:CmpOp}{t:TE}(h:PC X op a b t)(h1:behindInMarks op b=false:=by first|exact J _ (by decide) (by decide)|rfl):PT X (.Compare a [op] [b] pos) (tB t):=by
 intro pins s σ H Q I hw;refine wpAny_isTrue_Compare1 (eZ (h pins s σ H _ I hw) λv s1 h1=>eZ h1 λu s2 h2=>eZ h2 λc s3 zq=>?_) h1;obtain⟨x,H1,U,Y,q1⟩:=zq;obtain⟨d,rfl,q⟩:=q1
 cases Y;exact wpAny_truthy_bool ⟨H1,U,q⟩
theorem gx {e:Expr}{t:TE}(h:PE X e t)(U:∀J,isTrue e X.env J=(do let v <-J;standAt e.pos;holding [v] (truthy v)):=by intro _;rfl):PT X e (tB t):=by
 intro pins s σ H Q I hw;refine isTrue_plain (eZ (h pins s σ H _ I hw) λv s1 zq=>?_) (U _);obtain⟨x,H1,Y,r1,q1⟩:=zq;obtain⟨d,rfl,q⟩:=q1
 cases r1;exact wpAny_truthy_bool ⟨H1,Y,q⟩
variable {tA pJ:TT}{rest:List Expr}
def yQ (t u:TT):TT:=λσ H Q=>t σ H λc H1=>if c=true then u σ H1 Q else Q false H1
def DP (t u:TT):TT:=λσ H Q=>t σ H λc H1=>if c=true then Q true H1 else u σ H1 Q
def rq (t:TT):TT:=λσ H Q=>t σ H λc H1=>Q (!c) H1
theorem oh (J:PT X a tA):PW X (.BoolOp .And [a] pos) tA:=by
 intro U pins s σ H Q I h;refine isTrue_and (eZ (J pins s σ H Q I h) λc Y e=>?_)
 cases c with
 |true=>exact isTrue_and_nil e
 |false=>exact e
theorem hU (J:PT X a tA):PW X (.BoolOp .Or [a] pos) tA:=by
 intro U pins s σ H Q I h;refine isTrue_or (eZ (J pins s σ H Q I h) λc Y e=>?_)
 cases c with
 |false=>exact isTrue_or_nil e
 |true=>exact e
theorem mP (Y:PT X a tA)(hb:PW X (.BoolOp .And (b::rest) pos) pJ):PW X (.BoolOp .And (a::b::rest) pos) (yQ tA pJ):=by
 intro wh pins s σ H Q I h;refine isTrue_and (eZ (Y pins s σ H _ I h) λc s1 ⟨H1,J,U⟩=>?_)
 cases c with
 |true=>exact hb wh pins s1 σ H1 Q J U
 |false=>exact⟨H1,J,U⟩
theorem g9 (Y:PT X a tA)(hb:PW X (.BoolOp .Or (b::rest) pos) pJ):PW X (.BoolOp .Or (a::b::rest) pos) (DP tA pJ):=by
 intro wh pins s σ H Q I h;refine isTrue_or (eZ (Y pins s σ H _ I h) λc s1 ⟨H1,J,U⟩=>?_)
 cases c with
 |true=>exact⟨H1,J,U⟩
 |false=>exact hb wh pins s1 σ H1 Q J U
theorem gW (J:PT X a tA):PT X (.UnaryOp .Not a pos) (rq tA):=by
 intro pins s σ H Q I h;exact isTrue_not (J pins s σ H (λc H1=>Q (!c) H1) I h)
def DQ (ta tb:TE):TE:=λσ H Q=>ta σ H λx H1=>∃c,x=.bl c/\if c=true then tb σ H1 Q else Q (.bl false) H1
def DR (ta tb:TE):TE:=λσ H Q=>ta σ H λx H1=>∃c,x=.bl c/\if c=true then Q (.bl true) H1 else tb σ H1 Q
def DS (ta:TE):TE:=λσ H Q=>ta σ H λx H1=>∃c,x=.bl c/\Q (.bl (!c)) H1
theorem iO {op}{t:TE}(h:PE X a t):PE X (.BoolOp op [a] pos) t:=λpins s σ H Q I hw=>BoolOp_one (h pins s σ H Q I hw)
theorem ju (Y:PE X a ta)(hb:PE X (.BoolOp .And (b::rest) pos) tb):PE X (.BoolOp .And (a::b::rest) pos) (DQ ta tb):=by
 intro pins s σ H Q I h;refine BoolOp_and (eZ (Y pins s σ H _ I h) λv s1 zq=>?_);obtain⟨x,H1,U,r1,J⟩:=zq;obtain⟨c,rfl,J⟩:=J
 cases r1;refine wpAny_truthy_bool ?_
 cases c with
 |true=>exact hb pins s1 σ H1 Q U J
 |false=>exact⟨.bl false,H1,U,rfl,J⟩
theorem pK (Y:PE X a ta)(hb:PE X (.BoolOp .Or (b::rest) pos) tb):PE X (.BoolOp .Or (a::b::rest) pos) (DR ta tb):=by
 intro pins s σ H Q I h;refine BoolOp_or (eZ (Y pins s σ H _ I h) λv s1 zq=>?_);obtain⟨x,H1,U,r1,J⟩:=zq;obtain⟨c,rfl,J⟩:=J
 cases r1;refine wpAny_truthy_bool ?_
 cases c with
 |false=>exact hb pins s1 σ H1 Q U J
 |true=>exact⟨.bl true,H1,U,rfl,J⟩
theorem rz (U:PE X a ta):PE X (.UnaryOp .Not a pos) (DS ta):=by
 intro pins s σ H Q I h;refine UnaryOp_ (eZ (U pins s σ H _ I h) λv s1 zq=>?_);obtain⟨x,H1,Y,r1,J⟩:=zq;obtain⟨c,rfl,J⟩:=J
 cases r1;exact not_of (wpAny_truthy_bool ⟨.bl (!c),H1,Y,rfl,J⟩)
def DT (t:TT) (ta tb:TE):TE:=λσ H Q=>t σ H λc H1=>if c=true then ta σ H1 Q else tb σ H1 Q
theorem mQ {c:Expr}(hc:PT X c tA)(ha:PE X a ta)(hb:PE X b tb):PE X (.IfExp c a b pos) (DT tA ta tb):=by
 intro pins s σ H Q I h;refine wpAny_IfExp (eZ (hc pins s σ H _ I h) λd J ⟨H1,U,Y⟩=>?_)
 cases d with
 |true=>exact ha pins J σ H1 Q U Y
 |false=>exact hb pins J σ H1 Q U Y
end
def eB (K:W.Frag) (H:Hp) (a:Addr) (xs:List V):Prop:=
 Rd H a (.lst xs)\/
  ∃(o:Obj) (I:Array Value) (n:Nat),K.lookup a=some o/\o.cls=.type "list"/\o.dict=none/\o.data=.seq I n/\I.size<=sizeLine/\Vals xs I.toList
def d_ (K:W.Frag) (H:Hp) (a:Addr) (xs:List V):Prop:=
 Rd H a (.tup xs)\/
  ∃(o:Obj) (I:Array Value) (n:Nat),K.lookup a=some o/\o.cls=.type "tuple"/\o.data=.seq I n/\I.size<=sizeLine/\Vals xs I.toList
noncomputable def DU:Value->Option V
 | .none=>some .non
 | .bool b=>some (.bl b)
 | .int i _=>some (.int i)
 | .str x _=>some (.str x)
 | .bytes b _=>some (.jd b)
 | .float b _=>some (.flt b)
 | .ref a=>some (.ref a)
 | .type n=>some (.ty n)
 |_=>none
theorem RelV.abs {x:V}{u:Value}(r:RelV x u):DU u=some x:=by
 cases x with
 |non=>cases r;rfl
 |bl _=>cases r;rfl
 |int _=>obtain⟨t,rfl⟩:=r;rfl
 |str _=>obtain⟨t,rfl⟩:=r;rfl
 |jd _=>obtain⟨t,rfl⟩:=r;rfl
 |flt _=>obtain⟨t,rfl⟩:=r;rfl
 |ref _=>cases r;rfl
 |ty _=>cases r;rfl
theorem RelV.inj {x y:V}{u:Value}(r:RelV x u)(q:RelV y u):x=y:=Option.some.inj (r.abs.symm.trans q.abs)
theorem Vals.inj:∀{xs ys:List V}{us:List Value},Vals xs us->Vals ys us->xs=ys
 |_,_,_,.nil,.nil=>rfl
 |_,_,_,.cons r t,.cons I t'=>by rw[r.inj I,Vals.inj t t']
section
variable {X:Cx}{pins:List (Addr × Obj)}{σ:St}{H:Hp}{s:Shared}{a:Addr}{xs ys:List V}
theorem eB.of {K:W.Frag}(h:H a=some (.lst xs)):eB K H a xs:=.inl (.inl h)
theorem d_.of {K:W.Frag}(h:H a=some (.tup xs)):d_ K H a xs:=.inl (.inl h)
theorem Inv.list (I:Inv X pins σ H s)(h:eB X.K H a xs):∃J:List Value,Vals xs J/\PlainL s.heap a J.toArray/\xs.length<=sizeLine:=by
 rcases h with h|⟨o,J,n,U,hc,hd,Y,hz,r⟩
 . obtain⟨z,J,n,r,e⟩:=h.ok I.hok;exact⟨J,r,⟨_,n,e,rfl,rfl,rfl⟩,z⟩
 . refine⟨J.toList,r,⟨o,n,I.gR a o U,hc,hd,by simpa using Y⟩,?_⟩;have e:=r.length;simp only[Q1i] at e;omega
theorem Inv.tuple (I:Inv X pins σ H s)(h:d_ X.K H a xs):∃J:List Value,Vals xs J/\IsTup s.heap a J.toArray/\xs.length<=sizeLine:=by
 rcases h with h|⟨o,J,n,U,hc,Y,hz,r⟩
 . obtain⟨z,J,r,p⟩:=h.ok I.hok;exact⟨J,r,p,z⟩
 . refine⟨J.toList,r,⟨o,I.gR a o U,hc,n,by simpa using Y⟩,?_⟩;have e:=r.length;simp only[Q1i] at e;omega
theorem Inv.pL (I:Inv X pins σ H s)(h:eB X.K H a xs)(h':eB X.K H a ys):xs=ys:=by
 obtain⟨J,r,⟨o,n,e,_,_,d⟩,_⟩:=I.list h;obtain⟨its',Y,⟨o',n',U,_,_,d'⟩,_⟩:=I.list h';rw[e] at U;cases U;rw[d] at d';injection d' with d1 _
 have:J=its':=by simpa using congrArg Array.toList d1
 subst this;exact r.inj Y
theorem Inv.DV (I:Inv X pins σ H s)(h:d_ X.K H a xs)(h':d_ X.K H a ys):xs=ys:=by
 obtain⟨J,r,⟨o,e,_,n,d⟩,_⟩:=I.tuple h;obtain⟨its',Y,⟨o',U,_,n',d'⟩,_⟩:=I.tuple h';rw[e] at U;cases U;rw[d] at d';injection d' with d1 _
 have:J=its':=by simpa using congrArg Array.toList d1
 subst this;exact r.inj Y
end
noncomputable abbrev Cx.wish (X:Cx) (E:Value->Shared->Prop):Cx:={ X with xe:=E }
noncomputable abbrev Cx.fj (X:Cx):Cx:=X.wish λ_ _=>False
theorem Cx.Ok.wish {X:Cx}(ok:X.Ok)(E:Value->Shared->Prop):(X.wish E).Ok:=
 ⟨ok.mod,ok.kind,ok.glob,ok.blt,ok.above,ok.inj,ok.has,ok.cab,ok.hd,ok.frames,ok.stk,ok.n9,ok.bs,ok.iX,ok.kx,ok.lB,ok.iF,ok.jI⟩
theorem Cx.Ok.j0 {X:Cx}{E:Value->Shared->Prop}(ok:(X.wish E).Ok):X.Ok:=
 ⟨ok.mod,ok.kind,ok.glob,ok.blt,ok.above,ok.inj,ok.has,ok.cab,ok.hd,ok.frames,ok.stk,ok.n9,ok.bs,ok.iX,ok.kx,ok.lB,ok.iF,ok.jI⟩
section
variable {X:Cx}{pins:List (Addr × Obj)}{σ:St}{H:Hp}{s:Shared}{E:Value->Shared->Prop}
theorem Inv.wish (I:Inv X pins σ H s)(E:Value->Shared->Prop):Inv (X.wish E) pins σ H s:=⟨I.ok.wish E,I.os,I.bare,I.base,I.loc,I.cell,I.free,I.ij,I.pin,I.hok,I.len⟩
theorem Inv.j0 (I:Inv (X.wish E) pins σ H s):Inv X pins σ H s:=⟨I.ok.j0,I.os,I.bare,I.base,I.loc,I.cell,I.free,I.ij,I.pin,I.hok,I.len⟩
theorem SP.j0 {D:Ends}{f:Flow}{s':Shared}(h:SP (X.wish E) pins D f s'):SP X pins D f s':=by
 cases f with
 |next=>obtain⟨J,H',I,q⟩:=h;exact⟨J,H',I.j0,q⟩
 |brk=>obtain⟨J,H',I,q⟩:=h;exact⟨J,H',I.j0,q⟩
 |cont=>obtain⟨J,H',I,q⟩:=h;exact⟨J,H',I.j0,q⟩
 |ret u=>obtain⟨v,J,H',I,r,q⟩:=h;exact⟨v,J,H',I.j0,r,q⟩
theorem iG.fj {st:List Stmt}{t:TS}(h:iG X.fj st t):iG X st t:=λpins s σ H D I hw=>
 Q0o (h pins s σ H D (I.wish _) hw) (λ_ _ q=>q.j0) λ_ _ z=>False.elim z
end
section
variable {X:Cx}{st:Stmt}{rest:List Stmt}{t u:TS}{e:Expr}{te:TE}{pos:Pos}
def DW:TS:=λD σ H=>D.nx σ H
def yR (t u:TS):TS:=λD σ H=>t { D with nx:=u D } σ H
theorem eQ:iG X [] DW:=λ_ _ σ H _ I h=>wpAny_execs_nil ⟨σ,H,I,h⟩
theorem eh (h1:PS X st t)(h2:iG X rest u):iG X (st::rest) (yR t u):=by
 intro pins s σ H D I h;refine wpAny_execs_cons (eZ (h1 pins s σ H { D with nx:=u D } I h) λf U q=>?_)
 cases f with
 |next=>
  obtain⟨J,H',Y,q⟩:=q;exact h2 pins U J H' D Y q
 |ret v=>exact q
 |brk=>exact q
 |cont=>exact q
theorem eA (h1:PS X st t):iG X [st] t:=by
 intro pins s σ H D I h;refine wpAny_execs_cons (eZ (h1 pins s σ H D I h) λf J q=>?_)
 cases f with
 |next=>exact wpAny_execs_nil q
 |ret v=>exact q
 |brk=>exact q
 |cont=>exact q
theorem Inv.quiet {pins:List (Addr × Obj)}{σ:St}{H:Hp}{s:Shared}(I:Inv X pins σ H s):interactive X.env=false:=by simp[interactive,I.ok.kind]
def DX (te:TE):TS:=λD σ H=>te σ H λ_ H1=>D.nx σ H1
theorem j1 (J:PE X e te)(U:swapsWith e none pos.line X.env=pure false:=by rfl):PS X (.Expr e pos) (DX te):=by
 intro pins s σ H D I h;exact wpAny_Expr_any (eZ (J pins s σ H _ I h) λv s1 ⟨x,H1,Y,r1,q1⟩=>⟨σ,H1,Y,q1⟩) I.quiet U
def DY (te:TE):TS:=λD σ H=>te σ H D.rt
theorem eJ (J:PE X e te):PS X (.Return (some e) pos) (DY te):=by
 intro pins s σ H D I h;exact wpAny_Return_some (eZ (J pins s σ H _ I h) λv s1 ⟨x,H1,U,Y,q1⟩=>⟨x,σ,H1,U,Y,q1⟩)
def j2 (c:TT) (t u:TS):TS:=λD σ H=>c σ H λb H1=>if b=true then t D σ H1 else u D σ H1
theorem eO {c:Expr}{a b:List Stmt}{tc:TT}(hc:PT X c tc)(ha:iG X a t)(hb:iG X b u):PS X (.If c a b pos) (j2 tc t u):=by
 intro pins s σ H D I h;refine wpAny_If (eZ (hc pins s σ H _ I h) λd J ⟨H1,U,Y⟩=>?_)
 cases d with
 |true=>exact ha pins J σ H1 D U Y
 |false=>exact hb pins J σ H1 D U Y
def yS:TS:=λ_ _ _=>False
theorem mR:PS X st yS:=λ_ _ _ _ _ _ h=>h.elim
theorem yT {I:List Stmt}:iG X I yS:=λ_ _ _ _ _ _ h=>h.elim
end
noncomputable abbrev TG:=V->St->Hp->(St->Hp->Prop)->Prop
noncomputable abbrev lF:=List V->St->Hp->(St->Hp->Prop)->Prop
def PG (X:Cx) (I:Expr) (t:TG):Prop:=
 ∀(pins:List (Addr × Obj)) (s:Shared) (σ:St) (H:Hp) (v:V) (u:Value) (Q:St->Hp->Prop),Inv X pins σ H s->RelV v u->t v σ H Q->
  wpAny (model X.prog X.w) X.A (assign I X.env u) (λ_ s'=>∃J H',Inv X pins J H' s'/\Q J H') X.xe s
def pM (X:Cx) (J:List Expr) (t:lF):Prop:=
 ∀(pins:List (Addr × Obj)) (s:Shared) (σ:St) (H:Hp) (vs:List V) (us:List Value) (Q:St->Hp->Prop),Inv X pins σ H s->Vals vs us->t vs σ H Q->
  wpAny (model X.prog X.w) X.A (assignInOrder ((assignEach J X.env).map (·.2)) us) (λ_ s'=>∃I H',Inv X pins I H' s'/\Q I H') X.xe s
noncomputable abbrev rA:=V->V->V->Hp->(Hp->Prop)->Prop
def yU (X:Cx) (t:rA):Prop:=
 ∀(pins:List (Addr × Obj)) (s:Shared) (σ:St) (H:Hp) (o i v:V) (I J u:Value) (Q:Hp->Prop),Inv X pins σ H s->RelV o I->RelV i J->RelV v u->t o i v H Q->
  wpAny (model X.prog X.w) X.A (setItem I J u) (λ_ s'=>∃H',Inv X pins σ H' s'/\Q H') X.xe s
section
variable {X:Cx}{pos:Pos}
def gS (i:Nat):TG:=λv σ H Q=>Q (σ.set i (some v)) H
theorem fL {i:Nat}{x:Str}(J:X.N.Nodup)(hi:X.N[i]? =some x)(U:Loc X.env.scope x)(Y:X.fn x=true\/X.env.scope.names.lookup x=some .local:=by first|exact .inl rfl|exact .inr rfl|assumption):PG X (.Name x pos) (gS i):=by
 intro pins s σ H v u Q I r h;exact wpAny_assign_Name (og I J hi U r (λs' I'=>⟨_,H,I',h⟩) Y)
def pN:lF:=λvs σ H Q=>vs=[]/\Q σ H
def lG (t:TG) (u:lF):lF:=λvs σ H Q=>∃v r,vs=v::r/\t v σ H λI H'=>u r I H' Q
theorem iY:pM X [] pN:=by
 intro pins s σ H vs us Q I r h;obtain⟨e,h⟩:=h;subst e
 cases r;exact assignInOrder_nil ⟨σ,H,I,h⟩
theorem gQ {e:Expr}{es:List Expr}{t:TG}{u:lF}(h1:PG X e t)(h2:pM X es u)
 (U:(assignEach (e::es) X.env).map (·.2)=assign e X.env::(assignEach es X.env).map (·.2):=by rfl):pM X (e::es) (lG t u):=by
 intro pins s σ H vs us Q I r h;obtain⟨v,vr,Y,h⟩:=h;subst Y
 cases r with
 |cons r rr=>
  rw[U];refine assignInOrder_cons (eZ (h1 pins s σ H _ _ _ I r h) λ_ s1 zq=>?_);obtain⟨J,H1,I1,q1⟩:=zq;exact h2 pins s1 J H1 _ _ Q I1 rr q1
def pO (K:W.Frag) (n:Nat) (t:lF):TG:=λv σ H Q=>∃a xs,v=.ref a/\d_ K H a xs/\xs.length=n/\t xs σ H Q
theorem iZ {es:List Expr}{k:Nat}{t:lF}{n:Nat}(hc:X.calm=true)(h:pM X es t)
 (Y:(assignEach es X.env).length=n:=by rfl) (J:(assignEach es X.env).findIdx? (·.1)=none:=by rfl):PG X (.Tuple es k pos) (pO X.K n t):=by
 intro pins s σ H v u Q I r hw;obtain⟨a,xs,e1,hq,hl,hw⟩:=hw;subst e1
 cases r;obtain⟨aa,U,ht,hz⟩:=I.tuple hq;refine assign_Tuple_tuple (I.ok.hd hc) ht (by simp[Y,<-hl,U.length]) J λh' hx=>?_;have I1:Inv X pins σ H { s with heap:=h' }:=I.kept (t':=s.toks) λb o e=>hx b o (Q08 (Q01 e)) e;exact h pins _ σ H xs _ Q I1 (by simpa using U) hw
def DZ (to I:TE) (t:rA):TG:=λv σ H Q=>to σ H λo H1=>I σ H1 λi H2=>t o i v H2 λJ=>Q σ J
theorem D0 {o i:Expr}{to Y:TE}{t:rA}(ho:PE X o to)(hi:PE X i Y)(hs:yU X t)
 (ha:∀v,assign (.Subscript o i pos) X.env v=(do
   let J <-holding [v] (eval o X.env);let U <-holding [v,J] (eval i X.env)
   standAt pos
   holding [v,J,U] (setItem J U v)
   release [v,J,U] []):=by intro _;rfl):PG X (.Subscript o i pos) (DZ to Y t):=by
 intro pins s σ H v u Q I r h;rw[ha];refine Q0 (wpAny_holding (eZ (ho pins s σ H _ I h) λJ s1 zq=>?_));obtain⟨x,H1,I1,r1,q1⟩:=zq;refine Q0 (wpAny_holding (eZ (hi pins s1 σ H1 _ I1 q1) λU s2 zq=>?_));obtain⟨y,H2,I2,r2,q2⟩:=zq;refine Q0 (wpAny_standAt (Q0 (wpAny_holding (eZ (hs pins s2 σ H2 x y v J U u _ I2 r1 r2 r q2) λ_ s3 ⟨H3,I3,q3⟩=>?_))));exact wpAny_release ⟨σ,H3,I3,q3⟩
def lH (te:TE) (g:TG):TS:=λD σ H=>te σ H λx H1=>g x σ H1 D.nx
theorem pP {tg e:Expr}{te:TE}{g:TG}(J:PE X e te)(U:PG X tg g)(Y:swapsWithSole [tg] e pos.line X.env=pure false:=by rfl)(hw:swappedStores [tg] e X.env=pure none:=by rfl)
 (h1:(assignEach [tg] X.env).map (·.2)=[assign tg X.env]:=by rfl):PS X (.Assign [tg] e pos) (lH te g):=by
 intro pins s σ H D I h;refine wpAny_Assign_stores (eZ (J pins s σ H _ I h) λv s1 zq=>?_) Y hw;obtain⟨x,H1,I1,r1,q1⟩:=zq;rw[h1];exact eZ (U pins s1 σ H1 x v _ I1 r1 q1) λ_ s2 q=>q
theorem yV {i:Nat}{x:Str}{e:Expr}{te:TE}{pos':Pos}(J:X.N.Nodup)(hi:X.N[i]? =some x)(U:Loc X.env.scope x)(Y:PE X e te)(hs:swapsWith e (some (.Name x pos')) pos.line X.env=pure false:=by rfl)(hf:X.fn x=true\/X.env.scope.names.lookup x=some .local:=by first|exact .inl rfl|exact .inr rfl|assumption):
 PS X (.Assign [.Name x pos'] e pos) (lH te (gS i)):=by
 intro pins s σ H D I h;refine wpAny_Assign_Name (eZ (Y pins s σ H _ I h) λv s1 zq=>?_) hs;obtain⟨y,H1,I1,r1,q1⟩:=zq;exact og I1 J hi U r1 (λs2 I2=>⟨_,H1,I2,q1⟩) hf
end
section
variable {X:Cx}{pos:Pos}
end
structure It where
 go:Nat->Hp->Prop
 jJ:Nat->Hp->V->Hp->Prop
 stop:Nat->Hp->Prop
def ia (X:Cx) (pins:List (Addr × Obj)) (H:Hp) (b:Addr):Prop:=
 H b=none/\b≠X.env.locals/\b ∉ X.fs/\(b∈X.ex\/X.s₀.heap.objs.size<=b)/\(∀x c,X.env.cells.lookup x=some c->c≠b)/\∀p∈X.pn++pins,p.1≠b
theorem Inv.lI {X:Cx}{pins:List (Addr × Obj)}{σ:St}{H H':Hp}{s:Shared}{b:Addr}(I:Inv X pins σ H s)(J:s.heap.objs.size<=b)(U:H' b=none):ia X pins H' b:=by
 refine⟨U,Q0s (Q0a I.lt J),I.mO J,.inr (Q0f I.sz J),λx c e z=>?_,λp hp z=>?_⟩
 . obtain⟨v,q⟩:=I.cell x c e;exact absurd (Q0a q.lt (by rw[z];exact J)) (Q0p _)
 . exact absurd (Q0a (Q01 (I.pin p hp).1) (by rw[z];exact J)) (Q0p _)
structure Turn (P:Program) (w:World) (K:W.Frag) (tg:Expr) (J:It) (fp:List Addr) (it:Addr) (tn:Nat->Heap->Prop):Prop where
 mem:it∈fp
 obj:∀i h,tn i h->∀b∈fp,∃o,h.get? b=some o/\∀v,o.data≠ .cell v
 keep:∀i h h',tn i h->(∀b∈fp,∀o,h.get? b=some o->h'.get? b=some o)->tn i h'
 item:∀(X:Cx),X.prog=P->X.w=w->X.K=K->X.calm=true->∀(i:Nat) (pins:List (Addr × Obj)) (s:Shared) (σ:St) (H:Hp) (E:Value->Shared->Prop),Inv X pins σ H s->(∀b∈fp,ia X pins H b)->tn i s.heap->J.go i H->
  wpAny (model P w) X.A (pyNext (.ref it)) (λr s1=>∃u,r=some u/\
   wpAny (model P w) X.A (letOwnedTupleGo tg (.ref it) u) (λ_ s2=>∃x H',Inv X pins σ H' s2/\RelV x u/\J.jJ i H x H'/\tn (i+1) s2.heap/\∀b∈fp,H' b=none) E s1) E s
 done:∀(X:Cx),X.prog=P->X.w=w->X.K=K->X.calm=true->∀(i:Nat) (pins:List (Addr × Obj)) (s:Shared) (σ:St) (H:Hp) (E:Value->Shared->Prop),Inv X pins σ H s->(∀b∈fp,ia X pins H b)->tn i s.heap->J.stop i H->
  wpAny (model P w) X.A (pyNext (.ref it)) (λr s1=>r=none/\Inv X pins σ H s1) E s
 self:∀(A:Around) (i:Nat) (s:Shared) (Q:Value->Shared->Prop) (E:Value->Shared->Prop),tn i s.heap->Q (.ref it) s->wpAny (model P w) A (pyIter (.ref it)) Q E s
noncomputable abbrev TI:=St->Hp->(It->Hp->Prop)->Prop
def PIE (X:Cx) (pins:List (Addr × Obj)) (σ:St) (tg:Expr) (R:It->Hp->Prop) (I:Value) (U:Shared):Prop:=
 ∃(it:Addr) (Y:List Addr) (tn:Nat->Heap->Prop) (J:It) (H':Hp),I=.ref it/\Inv X pins σ H' U/\Turn X.prog X.w X.K tg J Y it tn/\tn 0 U.heap/\(∀b∈Y,ia X pins H' b)/\R J H'
def PI (X:Cx) (tg iter:Expr) (I:TI):Prop:=
 ∀(pins:List (Addr × Obj)) (s:Shared) (σ:St) (H:Hp) (R:It->Hp->Prop),Inv X pins σ H s->I σ H R->
  wpAny (model X.prog X.w) X.A (eval iter X.env) (λv J=>wpAny (model X.prog X.w) X.A (pyIter v) (PIE X pins σ tg R) X.xe J) X.xe s
theorem rB {M:Model}{A:Around}{E:Value->Shared->Prop}{s:Shared}{tg:Expr}{it:Addr}{u:Value}{o:Obj}{n:String}{vs:Array Value}{Q:Unit->Shared->Prop}(J:s.heap.get? it=some o)(hc:o.cls=.type n)(hd:o.data=.fields vs)
 (U:["enumerate","zip","dict_itemiterator","dict_reverseitemiterator","odict_iterator","itertools.zip_longest","itertools.pairwise"].contains n=false) (I:Q () s):wpAny M A (letOwnedTupleGo tg (.ref it) u) Q E s:=by
 unfold letOwnedTupleGo
 cases tg <;> first
  |exact Q0c I
  |(cases u <;> first
     |exact Q0c I
     |(refine Q0 (wpAny_load J ?_)
       rw[hc,hd];show wpAny M A (if(["enumerate","zip","dict_itemiterator","dict_reverseitemiterator","odict_iterator","itertools.zip_longest","itertools.pairwise"].contains n && vs[0]? == some (rawInt _))=true then _ else _) Q E s;rw[if_neg (by intro h;rw[U,Bool.false_and] at h;cases h)];exact Q0c I))
noncomputable def mS (K:W.Frag) (a:Addr):It:=
 ⟨λi H=>∃xs x,eB K H a xs/\xs[i]? =some x,λi H x H'=>H'=H/\∀xs,eB K H a xs->xs[i]? =some x,λi H=>∃xs,eB K H a xs/\xs.length<=i⟩
noncomputable def mT (K:W.Frag) (a:Addr):It:=
 ⟨λi H=>∃xs x,d_ K H a xs/\xs[i]? =some x,λi H x H'=>H'=H/\∀xs,d_ K H a xs->xs[i]? =some x,λi H=>∃xs,d_ K H a xs/\xs.length<=i⟩
noncomputable def mU (lo:Int) (n:Nat):It:=⟨λi _=>i<n,λi H x H'=>H'=H/\x=.int (lo+i),λi _=>n<=i⟩
theorem D5 {P:Program}{w:World}{K:W.Frag}{tg:Expr}(a it:Addr):Turn P w K tg (mS K a) [it] it (λi h=>h.IsListIter it a i) where
 mem:=by simp
 obj:=λi h st b J=>by
  have e:b=it:=by simpa using J
  subst e;obtain⟨o,e,c,d⟩:=st;exact⟨o,e,λv z=>by rw[d] at z;cases z⟩
 keep:=λi h h' st k=>st.at λo e=>k it (by simp) o e
 item:=by
  intro X hP hw hK hc i pins s σ H E I Y st hg;subst hP hw hK;obtain⟨xs,x,hq,hx⟩:=hg;obtain⟨aa,rv,p,hz⟩:=I.list hq;obtain⟨u,hu,ru⟩:=rv.get hx;obtain⟨f0,f1,f2,f3,f4,f5⟩:=Y it (by simp);refine wpAny_pyNext_list_item st p.isList (x:=u) (by simpa using hu) λh' U sb=>?_;have I1:Inv X pins σ H { s with heap:=h' }:=I.turned (t':=s.toks) (λb o J e=>(sb.2 b J).trans e) f0 f1 f3 f4 f5;obtain⟨o,e,c,d⟩:=id U;exact⟨u,rfl,rB (s:={ s with heap:=h' }) e c d (by decide) ⟨x,H,I1,ru,⟨rfl,λys hy=>by rw[I.pL hy hq];exact hx⟩,U,λb J=>(Y b J).1⟩⟩
 done:=by
  intro X hP hw hK hc i pins s σ H E I Y st hg;subst hP hw hK;obtain⟨xs,hq,hx⟩:=hg;obtain⟨aa,rv,p,hz⟩:=I.list hq;obtain⟨f0,f1,f2,f3,f4,f5⟩:=Y it (by simp);have hl:=rv.length;exact wpAny_pyNext_list_end (I.ok.hd hc) st p.isList (by simp;omega) λh' eb=>⟨rfl,I.turned (t':=s.toks) (λb o J e=>eb b o J e) f0 f1 f3 f4 f5⟩
 self:=λ_ _ _ _ _ st h=>wpAny_pyIter_listiter st h
theorem D6 {P:Program}{w:World}{K:W.Frag}{tg:Expr}(a it:Addr):Turn P w K tg (mT K a) [it] it (λi h=>h.IsTupleIter it a i) where
 mem:=by simp
 obj:=λi h st b J=>by
  have e:b=it:=by simpa using J
  subst e;obtain⟨o,e,c,d⟩:=st;exact⟨o,e,λv z=>by rw[d] at z;cases z⟩
 keep:=λi h h' st k=>st.at λo e=>k it (by simp) o e
 item:=by
  intro X hP hw hK hc i pins s σ H E I hf st hg;subst hP hw hK;obtain⟨xs,x,hq,hx⟩:=hg;obtain⟨U,rv,p,hz⟩:=I.tuple hq;obtain⟨u,hu,ru⟩:=rv.get hx;obtain⟨f0,f1,f2,f3,f4,f5⟩:=hf it (by simp);refine wpAny_pyNext_tuple_item st (show s.heap.IsTuple a U.toArray from p) (x:=u) (by simpa using hu) λh' Y sb=>?_;have I1:Inv X pins σ H { s with heap:=h' }:=I.turned (t':=s.toks) (λb o J e=>(sb.2 b J).trans e) f0 f1 f3 f4 f5;obtain⟨o,e,c,d⟩:=id Y;exact⟨u,rfl,rB (s:={ s with heap:=h' }) e c d (by decide) ⟨x,H,I1,ru,⟨rfl,λys hy=>by rw[I.DV hy hq];exact hx⟩,Y,λb J=>(hf b J).1⟩⟩
 done:=by
  intro X hP hw hK hc i pins s σ H E I hf st hg;subst hP hw hK;obtain⟨xs,hq,hx⟩:=hg;obtain⟨U,rv,p,hz⟩:=I.tuple hq;obtain⟨f0,f1,f2,f3,f4,f5⟩:=hf it (by simp);have hl:=rv.length;exact wpAny_pyNext_tuple_end (I.ok.hd hc) st (show s.heap.IsTuple a U.toArray from p) (by simp;omega) λh' eb=>⟨rfl,I.turned (t':=s.toks) (λb o J e=>eb b o J e) f0 f1 f3 f4 f5⟩
 self:=λ_ _ _ _ _ st h=>wpAny_pyIter_tupleiter st h
theorem D7 {P:Program}{w:World}{K:PySem.W.Frag}{tg:Expr}(it:Addr)(lo:Int)(n:Nat):Turn P w K tg (mU lo n) [it] it (λi h=>IsRangeIter h it (lo+(i:Nat) * 1) ((n:Int) - (i:Nat)) 1) where
 mem:=by simp
 obj:=λi h st b J=>by
  have e:b=it:=by simpa using J
  subst e
  exact⟨_,st,λv z=>by
   have z':Data.fields _=Data.cell v:=z
   cases z'⟩
 keep:=λi h h' st k=>k it (by simp) _ st
 item:=by
  intro X hP hw hK hc i pins s σ H E I Y st hg;subst hP hw hK;obtain⟨f0,f1,f2,f3,f4,f5⟩:=Y it (by simp);have W:=Walks.range (prog:=X.prog) (w:=X.w) (I.ok.hd hc) it lo 1 n;refine W.item i s _ _ hg st λv h' tk hv U kk=>?_;obtain⟨t,rfl⟩:=hv;have I1:Inv X pins σ H { s with heap:=h',toks:=tk }:=I.turned (λb o J e=>kk b o (by simpa using J) e) f0 f1 f3 f4 f5;refine(Zr rfl (rB (s:={ s with heap:=h',toks:=tk }) (n:="range_iterator") U rfl rfl (by decide) ⟨.int (lo+i),H,I1,⟨t,?_⟩,⟨rfl,rfl⟩,U,λb J=>(Y b J).1⟩));rw[Int.mul_one]
 done:=by
  intro X hP hw hK hc i pins s σ H E I Y st hg;subst hP hw hK;obtain⟨f0,f1,f2,f3,f4,f5⟩:=Y it (by simp);exact wpAny_pyNext_range_end (I.ok.hd hc) st (by have:n<=i:=hg;omega) λh' eb=>⟨rfl,I.turned (t':=s.toks) (λb o J e=>eb b o J e) f0 f1 f3 f4 f5⟩
 self:=λ_ _ _ _ _ st h=>wpAny_pyIter_rangeiter st h
section
variable {X:Cx}{tg:Expr}
def D8 (K:W.Frag) (tl:TE):TI:=λσ H R=>tl σ H λx H1=>∃a,x=.ref a/\(∃xs,eB K H1 a xs)/\R (mS K a) H1
def D9 (K:W.Frag) (tl:TE):TI:=λσ H R=>tl σ H λx H1=>∃a,x=.ref a/\(∃xs,d_ K H1 a xs)/\R (mT K a) H1
theorem j3 {l:Expr}{tl:TE}(hl:PE X l tl):PI X tg l (D8 X.K tl):=by
 intro pins s σ H R I h;refine eZ (hl pins s σ H _ I h) λv J zq=>?_;obtain⟨x,H1,U,Y,q1⟩:=zq;obtain⟨a,e,⟨xs,hq⟩,q⟩:=q1;subst e
 cases Y;obtain⟨aa,rv,p,hz⟩:=U.list hq;refine wpAny_pyIter_list p.isList ?_;refine⟨J.heap.objs.size,[J.heap.objs.size],_,_,H1,rfl,U.kept (t':=J.toks) λb o e=>Q09 _ e,D5 a _,⟨_,Q0l _ rfl,rfl,rfl⟩,λb hb=>?_,q⟩;have e:b=J.heap.objs.size:=by simpa using hb
 subst e;exact U.lI (Q00 _) (U.hok.fresh (Q00 _))
theorem jv {l:Expr}{tl:TE}(hl:PE X l tl):PI X tg l (D9 X.K tl):=by
 intro pins s σ H R I h;refine eZ (hl pins s σ H _ I h) λv J zq=>?_;obtain⟨x,H1,U,r1,q1⟩:=zq;obtain⟨a,e,⟨xs,hq⟩,q⟩:=q1;subst e
 cases r1;obtain⟨Y,rv,p,hz⟩:=U.tuple hq;refine wpAny_pyIter_tuple (show J.heap.IsTuple a Y.toArray from p) ?_;refine⟨J.heap.objs.size,[J.heap.objs.size],_,_,H1,rfl,U.kept (t':=J.toks) λb o e=>Q09 _ e,D6 a _,⟨_,Q0l _ rfl,rfl,rfl⟩,λb hb=>?_,q⟩;have e:b=J.heap.objs.size:=by simpa using hb
 subst e;exact U.lI (Q00 _) (U.hok.fresh (Q00 _))
theorem D_ {pins:List (Addr × Obj)}{σ:St}{H:Hp}{s:Shared}{R:It->Hp->Prop}{E:Value->Shared->Prop}{lo hi:Int}{t u v:Tok}{tk:Nat}(I:Inv X pins σ H s)(h1: -(2 ^ 62)<=lo)(h2:lo<2 ^ 62)(U: -(2 ^ 62)<=hi)(Y:hi<2 ^ 62)
 (q:R (mU lo (hi - lo).toNat) H):wpAny (model X.prog X.w) X.A (pyIter (.ref s.heap.objs.size)) (PIE X pins σ tg R) E { s with heap:=s.heap.push { cls:=.type "range",data:=.fields #[.int lo t,.int hi u,.int 1 v] },toks:=tk }:=by
 refine wpAny_pyIter_range (IsRange.new ..) (small_one h1 h2 U Y) ?_;have J:Inv X pins σ H { s with heap:=s.heap.push { cls:=.type "range",data:=.fields #[.int lo t,.int hi u,.int 1 v] },toks:=tk }:=I.kept λb o e=>Q09 _ e
 refine⟨(s.heap.push { cls:=.type "range",data:=.fields #[.int lo t,.int hi u,.int 1 v] }).objs.size,[(s.heap.push { cls:=.type "range",data:=.fields #[.int lo t,.int hi u,.int 1 v] }).objs.size],_,_,H,rfl,
  J.kept (t':=tk) λb o e=>Q09 _ e,D7 _ lo (hi - lo).toNat,?_,λb hb=>?_,q⟩
 . have e1:lo+((0:Nat):Int) * 1=lo:=by simp
   have e2:(((hi - lo).toNat:Nat):Int) - ((0:Nat):Int)=Builtin.Range.rangeSize lo hi 1:=by rw[rangeSize_one];split <;> omega
   show IsRangeIter _ _ (lo+((0:Nat):Int) * 1) ((((hi - lo).toNat:Nat):Int) - ((0:Nat):Int)) 1;rw[e1,e2];exact Q0l _ rfl
 . have e:b=(s.heap.push { cls:=.type "range",data:=.fields #[.int lo t,.int hi u,.int 1 v] }).objs.size:=by simpa using hb
   subst e;exact J.lI (Q00 _) (J.hok.fresh (Q00 _))
def Ea (ta:TA):TI:=λσ H R=>ta σ H λvs H1=>∃j:Int,vs=[.int j]/\ -(2 ^ 62)<=j/\j<2 ^ 62/\R (mU 0 j.toNat) H1
theorem ky {a:Expr}{ta:TA}{p pos:Pos}(U:Gl X "range")(Y:X.mg "range"=none)(ha:PA X [a] ta)(hs:starEach [a] X.env=[(false,eval a X.env)]:=by rfl):PI X tg (.Call (.Name "range" p) [a] [] pos) (Ea ta):=by
 intro pins s σ H R I h;refine Call_ (lD I U Y boot_range (PyProof.Rows.callWith_type1 (eZ (ha pos pins s σ H _ I h) λus s1 zq=>?_) hs rfl));obtain⟨vs,H1,I1,r1,J⟩:=zq;obtain⟨j,e,J,q2,q⟩:=J;subst e
 cases r1 with
 |cons r rr=>
  cases rr;obtain⟨t,rfl⟩:=r;exact call_range_1 (D_ I1 (by omega) (by omega) J q2 (by simpa using q))
def Eb (wi:TI) (g:TG) (tb:TS):TS:=λD σ H=>wi σ H λJ H1=>∃W:Nat->Nat->St->Hp->Prop,(∃m,W 0 m σ H1)/\∀i m σ H,W i m σ H->
 (J.stop i H/\D.nx σ H)\/(J.go i H/\∃N:St->Hp->Prop,(∀I H',N I H'->∃Y,Y<m/\W (i+1) Y I H')/\∀x H',J.jJ i H x H'->g x σ H' λU H2=>tb { D with nx:=N,ct:=N,bk:=D.nx } U H2)
noncomputable def pQ (I:List Addr) (h:Heap):List (Addr × Obj):=I.filterMap λb=>(h.get? b).map λo=>(b,o)
theorem oi {I:List Addr}{h:Heap}{b:Addr}{o:Obj}(J:b∈I)(e:h.get? b=some o):(b,o)∈pQ I h:=List.mem_filterMap.mpr ⟨b,J,by rw[e];rfl⟩
theorem Ec {I:List Addr}{h:Heap}{p:Addr × Obj}(hp:p∈pQ I h):p.1∈I/\h.get? p.1=some p.2:=by
 obtain⟨b,J,e⟩:=List.mem_filterMap.mp hp
 cases q:h.get? b with
 |none=>rw[q] at e;cases e
 |some o=>
  rw[q] at e;have U:(b,o)=p:=Option.some.inj e;subst U;exact⟨J,q⟩
theorem Inv.pinned {pins:List (Addr × Obj)}{σ:St}{H:Hp}{s:Shared}{J:List Addr}(I:Inv X pins σ H s)(hf:∀b∈J,ia X pins H b)(ho:∀b∈J,∃o,s.heap.get? b=some o/\∀v,o.data≠ .cell v):Inv X (pins++pQ J s.heap) σ H s:=
 I.lC λp hp=>(List.mem_append.mp hp).elim (λz=>I.pin p (Q06 _ z)) λz=>by
   obtain⟨U,e⟩:=Ec z;obtain⟨f0,f1,f2,_⟩:=hf p.1 U;obtain⟨o,Y,d⟩:=ho p.1 U;rw[e] at Y;cases Y;exact⟨e,f0,f1,f2,d⟩
theorem Inv.kz {pins pl:List (Addr × Obj)}{σ:St}{H:Hp}{s:Shared}(I:Inv X (pins++pl) σ H s):Inv X pins σ H s:=I.lC λp hp=>I.pin p (Q06 _ (Q0u _ hp))
theorem hX {iter:Expr}{body:List Stmt}{wi:TI}{g:TG}{tb:TS}{pos:Pos}(hp:PassesOwn (model X.prog X.w) X.A X.env X.xe)(hc:X.calm=true)(hi:PI X tg iter wi)(hg:PG X tg g)(Y:iG X body tb)
 (hs:∀x,foldedSetIterable iter X.env x=pure x:=by intro _;rfl):PS X (.For tg iter body [] pos) (Eb wi g tb):=by
 intro pins s σ H D I h;refine wpAny_For (eZ (hi pins s σ H _ I h) λv s1 h1=>eZ h1 λal s2 h2=>?_) hs;obtain⟨it,fp,tn,J,H2,e,I2,T,ah,f2,W,⟨m0,w0⟩,turn⟩:=h2;subst e;have ac:∀{H':Hp},(∀b∈fp,H' b=none)->∀b∈fp,ia X pins H' b:=λhn b Y=>⟨hn b Y,(f2 b Y).2⟩;refine codeAny_forLoop_any (λn s'=>∃i aa H',Inv X pins aa H' s'/\tn i s'.heap/\(∀b∈fp,H' b=none)/\W i n aa H') ?_ m0 ⟨0,σ,H2,I2,ah,λb Y=>(f2 b Y).1,w0⟩;intro n s3 zq;obtain⟨i,ab,H3,I3,af,ag,w3⟩:=zq;rcases turn i n ab H3 w3 with⟨stop,qn⟩|⟨go,N,hN,step⟩
 . refine wpAny_passesOwn hp (eZ (T.done X rfl rfl rfl hc i pins s3 ab H3 X.xe I3 (ac ag) af stop) λr s4 ⟨hr,I4⟩=>?_);subst hr;exact wpAny_execs_nil ⟨ab,H3,I4,qn⟩
 . refine wpAny_passesOwn hp (eZ (T.item X rfl rfl rfl hc i pins s3 ab H3 X.xe I3 (ac ag) af go) λr s4 ⟨u,hr,h4⟩=>?_);subst hr;refine wpAny_passesOwn hp (eZ h4 λ_ s5 zq=>?_);obtain⟨x,H5,I5,r5,y5,ae,ai⟩:=zq;have aj:=I5.pinned (ac ai) (T.obj _ _ ae);refine wpAny_passesOwn hp (eZ (hg _ s5 ab H5 x u _ aj r5 (step x H5 y5)) λ_ s6 zq=>?_);obtain⟨ak,H6,I6,q6⟩:=zq;refine wpAny_passesOwn hp (eZ (Y _ s6 ak H6 _ I6 q6) λf s7 q7=>?_)
   have again:∀{U:St} {H7:Hp},Inv X (pins++pQ fp s5.heap) U H7 s7->N U H7->∃m,m<n/\∃i aa H',Inv X pins aa H' s7/\tn i s7.heap/\(∀b∈fp,H' b=none)/\W i m aa H':=λ{U H7} I7 n7=>by
    obtain⟨m',hm,w7⟩:=hN U H7 n7;refine⟨m',hm,i+1,U,H7,I7.kz,T.keep _ _ _ ae λb Y o e=>(I7.pin (b,o) (Q06 _ (Q06 _ (oi Y e)))).1,λb Y=>?_,w7⟩;obtain⟨o,e,d⟩:=T.obj _ _ ae b Y;exact(I7.pin (b,o) (Q06 _ (Q06 _ (oi Y e)))).2.1
   cases f with
   |next=>obtain⟨U,H7,I7,n7⟩:=q7;exact again I7 n7
   |cont=>obtain⟨U,H7,I7,n7⟩:=q7;exact again I7 n7
   |brk=>obtain⟨U,H7,I7,q7⟩:=q7;exact⟨U,H7,I7.kz,q7⟩
   |ret v=>obtain⟨x7,U,H7,I7,r7,q7⟩:=q7;exact⟨x7,U,H7,I7.kz,r7,q7⟩
end
theorem yW {K:PySem.W.Frag}{a:Addr}{xs:List V}{g:TG}{tb:TS}{D:Ends}{σ:St}{H:Hp}(Pv:Nat->St->Hp->Prop)(h0:Pv 0 σ H)(hl:∀i σ H,i<=xs.length->Pv i σ H->eB K H a xs)
 (hs:∀i x σ H,xs[i]? =some x->Pv i σ H->g x σ H λI H2=>tb { D with nx:=Pv (i+1),ct:=Pv (i+1),bk:=D.nx } I H2) (hd:∀σ H,Pv xs.length σ H->D.nx σ H):
 ∃W:Nat->Nat->St->Hp->Prop,(∃m,W 0 m σ H)/\∀i m σ H,W i m σ H->
  ((mS K a).stop i H/\D.nx σ H)\/((mS K a).go i H/\∃N:St->Hp->Prop,(∀J H',N J H'->∃Y,Y<m/\W (i+1) Y J H')/\∀x H',(mS K a).jJ i H x H'->g x σ H' λI H2=>tb { D with nx:=N,ct:=N,bk:=D.nx } I H2):=by
 refine⟨λi m σ H=>m=xs.length - i/\i<=xs.length/\Pv i σ H,⟨xs.length,by simp,Q07 _,h0⟩,?_⟩;rintro i m σ H ⟨rfl,hi,p⟩;have q:=hl i σ H hi p;by_cases U:i<xs.length
 . refine .inr ⟨⟨xs,xs[i],q,by simp[U]⟩,Pv (i+1),λJ H' p'=>⟨xs.length - (i+1),by omega,rfl,U,p'⟩,λx H' y=>?_⟩;obtain⟨e,y⟩:=y;subst e;exact hs i x σ _ (y xs q) p
 . have e:i=xs.length:=by omega
   subst e;exact .inl ⟨⟨xs,q,Q00 _⟩,hd σ H p⟩
theorem kB {K:PySem.W.Frag}{a:Addr}{xs:List V}{g:TG}{tb:TS}{D:Ends}{σ:St}{H:Hp}(Pv:Nat->St->Hp->Prop)(h0:Pv 0 σ H)(hl:∀i σ H,i<=xs.length->Pv i σ H->d_ K H a xs)
 (hs:∀i x σ H,xs[i]? =some x->Pv i σ H->g x σ H λI H2=>tb { D with nx:=Pv (i+1),ct:=Pv (i+1),bk:=D.nx } I H2) (hd:∀σ H,Pv xs.length σ H->D.nx σ H):
 ∃W:Nat->Nat->St->Hp->Prop,(∃m,W 0 m σ H)/\∀i m σ H,W i m σ H->
  ((mT K a).stop i H/\D.nx σ H)\/((mT K a).go i H/\∃N:St->Hp->Prop,(∀J H',N J H'->∃Y,Y<m/\W (i+1) Y J H')/\∀x H',(mT K a).jJ i H x H'->g x σ H' λI H2=>tb { D with nx:=N,ct:=N,bk:=D.nx } I H2):=by
 refine⟨λi m σ H=>m=xs.length - i/\i<=xs.length/\Pv i σ H,⟨xs.length,by simp,Q07 _,h0⟩,?_⟩;rintro i m σ H ⟨rfl,hi,p⟩;have q:=hl i σ H hi p;by_cases U:i<xs.length
 . refine .inr ⟨⟨xs,xs[i],q,by simp[U]⟩,Pv (i+1),λJ H' p'=>⟨xs.length - (i+1),by omega,rfl,U,p'⟩,λx H' y=>?_⟩;obtain⟨e,y⟩:=y;subst e;exact hs i x σ _ (y xs q) p
 . have e:i=xs.length:=by omega
   subst e;exact .inl ⟨⟨xs,q,Q00 _⟩,hd σ H p⟩
theorem kE {lo:Int}{n:Nat}{g:TG}{tb:TS}{D:Ends}{σ:St}{H:Hp}(Pv:Nat->St->Hp->Prop)(h0:Pv 0 σ H)
 (hs:∀i σ H,i<n->Pv i σ H->g (.int (lo+i)) σ H λI H2=>tb { D with nx:=Pv (i+1),ct:=Pv (i+1),bk:=D.nx } I H2) (hd:∀σ H,Pv n σ H->D.nx σ H):
 ∃W:Nat->Nat->St->Hp->Prop,(∃m,W 0 m σ H)/\∀i m σ H,W i m σ H->
  ((mU lo n).stop i H/\D.nx σ H)\/((mU lo n).go i H/\∃N:St->Hp->Prop,(∀J H',N J H'->∃Y,Y<m/\W (i+1) Y J H')/\∀x H',(mU lo n).jJ i H x H'->g x σ H' λI H2=>tb { D with nx:=N,ct:=N,bk:=D.nx } I H2):=by
 refine⟨λi m σ H=>m=n - i/\i<=n/\Pv i σ H,⟨n,by simp,Q07 _,h0⟩,?_⟩;rintro i m σ H ⟨rfl,hi,p⟩;by_cases U:i<n
 . refine .inr ⟨U,Pv (i+1),λJ H' p'=>⟨n - (i+1),by omega,rfl,U,p'⟩,λx H' y=>?_⟩;obtain⟨e,y⟩:=y;subst e y;exact hs i σ _ U p
 . have e:i=n:=by omega
   subst e;exact .inl ⟨Q00 _,hd σ H p⟩
noncomputable abbrev R2:=V->V->Hp->VK->Prop
def gn (X:Cx) (f:Value->Value->Sem Value) (r:R2):Prop:=
 ∀(pins:List (Addr × Obj)) (s:Shared) (σ:St) (H:Hp) (x y:V) (v u:Value) (Q:VK),Inv X pins σ H s->RelV x v->RelV y u->r x y H Q->
  wpAny (model X.prog X.w) X.A (f v u) (EP X pins σ Q) X.xe s
def rD (X:Cx) (f:Value->Sem Value) (r:V->Hp->VK->Prop):Prop:=
 ∀(pins:List (Addr × Obj)) (s:Shared) (σ:St) (H:Hp) (x:V) (v:Value) (Q:VK),Inv X pins σ H s->RelV x v->r x H Q->
  wpAny (model X.prog X.w) X.A (f v) (EP X pins σ Q) X.xe s
def i2 (X:Cx) (f:Value) (r:List V->Hp->VK->Prop):Prop:=
 ∀(pins:List (Addr × Obj)) (s:Shared) (σ:St) (H:Hp) (xs:List V) (us:List Value) (Q:VK),Inv X pins σ H s->Vals xs us->r xs H Q->
  wpAny (model X.prog X.w) X.A (call f us) (EP X pins σ Q) X.xe s
def gT (r:R2) (ta tb:TE):TE:=λσ H Q=>ta σ H λx H1=>tb σ H1 λy H2=>r x y H2 Q
def Ed (r:V->Hp->VK->Prop) (ta:TE):TE:=λσ H Q=>ta σ H λx H1=>r x H1 Q
def rI (C:Int->Int->Prop) (g:Int->Int->V):R2:=λx y H Q=>∃i j,x=.int i/\y=.int j/\C i j/\Q (g i j) H
def lJ (g:Int->Int->V):R2:=λx y H Q=>∃i j,x=.int i/\y=.int j/\Q (g i j) H
def rU (g:Int->V):V->Hp->VK->Prop:=λx H Q=>∃i,x=.int i/\Q (g i) H
section
variable {X:Cx}{a b c:Expr}{ta tb tc:TE}{pos:Pos}
theorem rE (ha:PE X a ta)(hb:PE X b tb){pins:List (Addr × Obj)}{s:Shared}{σ:St}{H:Hp}{R:V->V->Hp->Prop}(I:Inv X pins σ H s)
 (h:ta σ H λx H1=>tb σ H1 λy H2=>R x y H2) {Q:Value->Shared->Prop} {f:Value->Value->Sem Value}
 (hf:∀v u Y x y H2,Inv X pins σ H2 Y->RelV x v->RelV y u->R x y H2->wpAny (model X.prog X.w) X.A (f v u) Q X.xe Y):
 wpAny (model X.prog X.w) X.A (eval a X.env) (λv J=>wpAny (model X.prog X.w) X.A (eval b X.env) (λu U=>wpAny (model X.prog X.w) X.A (f v u) Q X.xe U) X.xe J) X.xe s:=by
 refine eZ (ha pins s σ H _ I h) λv s1 zq=>?_;obtain⟨x,H1,I1,r1,q1⟩:=zq;refine eZ (hb pins s1 σ H1 _ I1 q1) λu Y zq=>?_;obtain⟨y,H2,I2,r2,q2⟩:=zq;exact hf v u Y x y H2 I2 r1 r2 q2
theorem eG {op:Operator}{r:R2}(J:gn X (binaryOp op) r)(U:PE X a ta)(Y:PE X b tb):PE X (.BinOp a op b pos) (gT r ta tb):=by
 intro pins s σ H Q I h;exact wpAny_BinOp (rE U Y I h λv u s2 x y H2 I2 rx ry q=>J pins s2 σ H2 x y v u Q I2 rx ry q)
theorem pR {op:UnaryOp}{r:V->Hp->VK->Prop}(J:rD X (unaryOp op) r)(U:PE X a ta):PE X (.UnaryOp op a pos) (Ed r ta):=by
 intro pins s σ H Q I h;exact UnaryOp_ (eZ (U pins s σ H _ I h) λv Y ⟨x,H1,I1,r1,q1⟩=>J pins Y σ H1 x v Q I1 r1 q1)
theorem pS {f:Value->Value->Sem Value}{C:Int->Int->Prop}{g:Int->Int->Int}
 (rule:∀(i j:Int) (t u:Tok) (s:Shared) (Q:Value->Shared->Prop) (E:Value->Shared->Prop),C i j->Q (.int (g i j) s.toks) { s with toks:=s.toks+1 }->wpAny (model X.prog X.w) X.A (f (.int i t) (.int j u)) Q E s):
 gn X f (rI C λi j=>.int (g i j)):=by
 intro pins s σ H x y v u Q I J U h;obtain⟨i,j,rfl,rfl,hc,q⟩:=h;obtain⟨t,rfl⟩:=J;obtain⟨t',rfl⟩:=U;exact rule i j t t' s _ _ hc ⟨.int (g i j),H,I.tok _,⟨_,rfl⟩,q⟩
theorem yX {f:Value->Value->Sem Value}{g:Int->Int->Int}
 (rule:∀(i j:Int) (t u:Tok) (s:Shared) (Q:Value->Shared->Prop) (E:Value->Shared->Prop),Q (.int (g i j) s.toks) { s with toks:=s.toks+1 }->wpAny (model X.prog X.w) X.A (f (.int i t) (.int j u)) Q E s):
 gn X f (lJ λi j=>.int (g i j)):=by
 intro pins s σ H x y v u Q I J U h;obtain⟨i,j,rfl,rfl,q⟩:=h;obtain⟨t,rfl⟩:=J;obtain⟨t',rfl⟩:=U;exact rule i j t t' s _ _ ⟨.int (g i j),H,I.tok _,⟨_,rfl⟩,q⟩
theorem rF {f:Value->Value->Sem Value}{g:Int->Int->Bool}
 (rule:∀(i j:Int) (t u:Tok) (s:Shared) (Q:Value->Shared->Prop) (E:Value->Shared->Prop),Q (.bool (g i j)) s->wpAny (model X.prog X.w) X.A (f (.int i t) (.int j u)) Q E s):
 gn X f (lJ λi j=>.bl (g i j)):=by
 intro pins s σ H x y v u Q I J U h;obtain⟨i,j,rfl,rfl,q⟩:=h;obtain⟨t,rfl⟩:=J;obtain⟨t',rfl⟩:=U;exact rule i j t t' s _ _ ⟨.bl (g i j),H,I,rfl,q⟩
def Ee (i j:Int):Prop:=0<j/\j<1073741824
def rG (i j:Int):Prop:=0<=j/\j<=1000000/\i.natAbs<2 ^ 64
def rH (i j:Int):Prop:=(-(2 ^ 64)<i/\i<2 ^ 64)\/(-(2 ^ 64)<j/\j<2 ^ 64)
theorem rH.ok {i j:Int}(h:rH i j):IntMulOk i j:=by
 rcases h with⟨h1,h2⟩|⟨h1,h2⟩
 . exact .of_left (intBits_le_64 h1 h2)
 . exact .of_right (intBits_le_64 h1 h2)
theorem iH:gn X (binaryOp .Add) (lJ λi j=>.int (i+j)):=yX λ_ _ _ _ _ _ _ q=>add_int q
theorem jK:gn X (binaryOp .Sub) (lJ λi j=>.int (i - j)):=yX λ_ _ _ _ _ _ _ q=>sub_int q
theorem j4:gn X (binaryOp .Mult) (rI rH λi j=>.int (i * j)):=pS λ_ _ _ _ _ _ _ hc q=>mul_int q hc.ok
theorem gC:gn X (binaryOp .FloorDiv) (rI Ee λi j=>.int (i / j)):=pS λi j _ _ _ _ _ hc q=>by
 have h1:(0:Int)<j:=hc.1;have h2:j<1073741824:=hc.2;exact floordiv_int (by omega) (by rw[Int.fdiv_eq_ediv_of_nonneg i (by omega)];exact q) (.inl (PyProof.noPylong_small (by omega)))
theorem fA:gn X (binaryOp .Mod) (rI (λ_ j=>0<j) λi j=>.int (i % j)):=pS λi j _ _ _ _ _ hc q=>by
 have h1:(0:Int)<j:=hc;exact mod_int' (by omega) (by rw[Int.fmod_eq_emod_of_nonneg i (by omega)];exact q)
theorem pT:gn X (binaryOp .Pow) (rI rG λi j=>.int (i ^ j.toNat)):=pS λ_ _ _ _ _ _ _ hc q=>pow_int_small hc.1 hc.2.1 hc.2.2 q
theorem Ef {f:Value->Sem Value}{g:Int->Int}
 (rule:∀(i:Int) (t:Tok) (s:Shared) (Q:Value->Shared->Prop) (E:Value->Shared->Prop),Q (.int (g i) s.toks) { s with toks:=s.toks+1 }->wpAny (model X.prog X.w) X.A (f (.int i t)) Q E s):
 rD X f (rU λi=>.int (g i)):=by
 intro pins s σ H x v Q I J h;obtain⟨i,rfl,q⟩:=h;obtain⟨t,rfl⟩:=J;exact rule i t s _ _ ⟨.int (g i),H,I.tok _,⟨_,rfl⟩,q⟩
theorem pU:rD X (unaryOp .USub) (rU λi=>.int (-i)):=Ef λ_ _ _ _ _ q=>neg_int q
end
noncomputable def yY:V->V->Bool
 | .non,.non=>true| .non,.int _=>true| .int _,.non=>true| .non,.bl _=>true| .bl _,.non=>true| .non,.str _=>true| .str _,.non=>true
 | .int _,.int _=>true| .bl _,.bl _=>true| .str _,.str _=>true| .jd _,.jd _=>true
 | .int _,.str _=>true| .str _,.int _=>true| .bl _,.str _=>true| .str _,.bl _=>true
 |_,_=>false
def kF:R2:=λx y H Q=>yY x y=true/\Q (.bl (decide (x=y))) H
def Eg:R2:=λx y H Q=>yY x y=true/\Q (.bl (!decide (x=y))) H
theorem yZ {i j:Int}:decide (V.int i=V.int j)=(i == j):=by
 rw[Bool.eq_iff_iff];simp
theorem y7 {i j:Bool}:decide (V.bl i=V.bl j)=(i == j):=by
 rw[Bool.eq_iff_iff];simp
theorem y8 {i j:Str}:decide (V.str i=V.str j)=(i == j):=by
 rw[Bool.eq_iff_iff];simp
theorem y9 {i j:Array UInt8}:decide (V.jd i=V.jd j)=(i.toList == j.toList):=by
 rw[Bool.eq_iff_iff]
 cases i
 cases j;simp
section
variable {X:Cx}{a b c:Expr}{ta tb tc:TE}{pos:Pos}
theorem gp {pins:List (Addr × Obj)}{σ:St}{H:Hp}{s:Shared}{Q:VK}{k J:Bool}(I:Inv X pins σ H s)(q:Q (.bl k) H)(e:k=J):EP X pins σ Q (.bool J) s:=by
 subst e;exact⟨.bl k,H,I,rfl,q⟩
theorem fc:gn X (compareOp .Eq) kF:=by
 intro pins s σ H x y v u Q I Y J h;obtain⟨U,q⟩:=h
 cases x with
 |non=>
  cases Y
  cases y with
  |non=>cases J;exact PySem.EqNone.eq_none_none (gp I q (by simp))
  |bl j=>cases J;exact PySem.EqNone.eq_none_bool (gp I q (by simp))
  |int j=>obtain⟨t',rfl⟩:=J;exact PySem.EqNone.eq_none_int (gp I q (by simp))
  |str j=>obtain⟨t',rfl⟩:=J;exact PySem.EqNone.eq_none_str (gp I q (by simp))
  |_=>exact absurd (show false=true from U) Bool.false_ne_true
 |bl i=>
  cases Y
  cases y with
  |non=>cases J;exact PySem.EqNone.eq_bool_none (gp I q (by simp))
  |bl j=>cases J;exact eq_bool (gp I q y7)
  |str j=>obtain⟨t',rfl⟩:=J;exact PySem.EqMixed.eq_bool_str (gp I q (by simp))
  |_=>exact absurd (show false=true from U) Bool.false_ne_true
 |int i=>
  obtain⟨t,rfl⟩:=Y
  cases y with
  |non=>cases J;exact PySem.EqNone.eq_int_none (gp I q (by simp))
  |int j=>obtain⟨t',rfl⟩:=J;exact eq_int (gp I q yZ)
  |str j=>obtain⟨t',rfl⟩:=J;exact PySem.EqMixed.eq_int_str (gp I q (by simp))
  |_=>exact absurd (show false=true from U) Bool.false_ne_true
 |str i=>
  obtain⟨t,rfl⟩:=Y
  cases y with
  |non=>cases J;exact PySem.EqNone.eq_str_none (gp I q (by simp))
  |bl j=>cases J;exact PySem.EqMixed.eq_str_bool (gp I q (by simp))
  |int j=>obtain⟨t',rfl⟩:=J;exact PySem.EqMixed.eq_str_int (gp I q (by simp))
  |str j=>obtain⟨t',rfl⟩:=J;exact eq_str (gp I q y8)
  |_=>exact absurd (show false=true from U) Bool.false_ne_true
 |jd i=>
  obtain⟨t,rfl⟩:=Y
  cases y with
  |jd j=>obtain⟨t',rfl⟩:=J;exact W.eq_bytes (gp I q y9)
  |_=>exact absurd (show false=true from U) Bool.false_ne_true
 |_=>cases y <;> exact absurd (show false=true from U) Bool.false_ne_true
theorem jw:gn X (compareOp .NotEq) Eg:=by
 intro pins s σ H x y v u Q I Y J h;obtain⟨U,q⟩:=h
 cases x with
 |non=>
  cases Y
  cases y with
  |non=>cases J;exact PySem.EqNone.ne_none_none (gp I q (by simp))
  |bl j=>cases J;exact PySem.EqNone.ne_none_bool (gp I q (by simp))
  |int j=>obtain⟨t',rfl⟩:=J;exact PySem.EqNone.ne_none_int (gp I q (by simp))
  |str j=>obtain⟨t',rfl⟩:=J;exact PySem.EqNone.ne_none_str (gp I q (by simp))
  |_=>exact absurd (show false=true from U) Bool.false_ne_true
 |bl i=>
  cases Y
  cases y with
  |non=>cases J;exact PySem.EqNone.ne_bool_none (gp I q (by simp))
  |bl j=>cases J;exact ne_bool (gp I q (congrArg not y7))
  |str j=>obtain⟨t',rfl⟩:=J;exact PySem.EqMixed.ne_bool_str (gp I q (by simp))
  |_=>exact absurd (show false=true from U) Bool.false_ne_true
 |int i=>
  obtain⟨t,rfl⟩:=Y
  cases y with
  |non=>cases J;exact PySem.EqNone.ne_int_none (gp I q (by simp))
  |int j=>obtain⟨t',rfl⟩:=J;exact ne_int (gp I q (congrArg not yZ))
  |str j=>obtain⟨t',rfl⟩:=J;exact PySem.EqMixed.ne_int_str (gp I q (by simp))
  |_=>exact absurd (show false=true from U) Bool.false_ne_true
 |str i=>
  obtain⟨t,rfl⟩:=Y
  cases y with
  |non=>cases J;exact PySem.EqNone.ne_str_none (gp I q (by simp))
  |bl j=>cases J;exact PySem.EqMixed.ne_str_bool (gp I q (by simp))
  |int j=>obtain⟨t',rfl⟩:=J;exact PySem.EqMixed.ne_str_int (gp I q (by simp))
  |str j=>obtain⟨t',rfl⟩:=J;exact ne_str (gp I q (congrArg not y8))
  |_=>exact absurd (show false=true from U) Bool.false_ne_true
 |jd i=>
  obtain⟨t,rfl⟩:=Y
  cases y with
  |jd j=>obtain⟨t',rfl⟩:=J;exact W.ne_bytes (gp I q (congrArg not y9))
  |_=>exact absurd (show false=true from U) Bool.false_ne_true
 |_=>cases y <;> exact absurd (show false=true from U) Bool.false_ne_true
theorem lK:gn X (compareOp .Lt) (lJ λi j=>.bl (decide (i<j))):=rF λ_ _ _ _ _ _ _ q=>lt_int q
theorem y_:gn X (compareOp .LtE) (lJ λi j=>.bl (decide (i<=j))):=rF λ_ _ _ _ _ _ _ q=>le_int q
theorem jL:gn X (compareOp .Gt) (lJ λi j=>.bl (decide (j<i))):=rF λ_ _ _ _ _ _ _ q=>gt_int q
theorem Eh:gn X (compareOp .Lt) (λx y H Q=>∃i j,x=.str i/\y=.str j/\Q (.bl (decide (i.cps.toList<j.cps.toList))) H):=by
 intro pins s σ H x y v u Q I J U h;obtain⟨i,j,rfl,rfl,q⟩:=h;obtain⟨t,rfl⟩:=J;obtain⟨t',rfl⟩:=U;exact lt_str (gp I q rfl)
theorem lL:gn X (compareOp .Is) (λx y H Q=>y=.non/\Q (.bl (decide (x=.non))) H):=by
 intro pins s σ H x y v u Q I J U h;obtain⟨rfl,q⟩:=h
 cases U;refine is_none_gen (gp I q ?_)
 cases x <;> first
  |(cases J;rfl)
  |(obtain⟨t,rfl⟩:=J;rfl)
theorem kG:gn X (compareOp .IsNot) (λx y H Q=>y=.non/\Q (.bl (!decide (x=.non))) H):=by
 intro pins s σ H x y v u Q I J U h;obtain⟨rfl,q⟩:=h
 cases U;refine isnot_none_gen (gp I q ?_)
 cases x <;> first
  |(cases J;rfl)
  |(obtain⟨t,rfl⟩:=J;rfl)
theorem eK (b:Expr){op:CmpOp}(h:op≠ .In:=by decide)(h2:op≠ .NotIn:=by decide):behindInMarks op b=false:=by
 have I:(op == CmpOp.In)=false:=by cases op <;> first|rfl|exact absurd rfl h
 have J:(op == CmpOp.NotIn)=false:=by cases op <;> first|rfl|exact absurd rfl h2
 cases b <;> simp[behindInMarks,I,J]
theorem gU {op:CmpOp}{r:R2}(J:gn X (compareOp op) r)(U:PE X a ta)(Y:PE X b tb)(hm:behindInMarks op b=false):PE X (.Compare a [op] [b] pos) (gT r ta tb):=by
 intro pins s σ H Q I h;exact wpAny_Compare1 (rE U Y I h λv u s2 x y H2 I2 rx ry q=>J pins s2 σ H2 x y v u Q I2 rx ry q) hm
def kH (t:TE):TT:=λσ H Q=>t σ H λx H'=>∃k,x=.bl k/\Q k H'
theorem eM {op:CmpOp}{r:R2}(J:gn X (compareOp op) r)(U:PE X a ta)(Y:PE X b tb)(hm:behindInMarks op b=false):PT X (.Compare a [op] [b] pos) (kH (gT r ta tb)):=by
 intro pins s σ H Q I h
 refine wpAny_isTrue_Compare1 (eZ (U pins s σ H _ I h) λv s1 ⟨x,H1,I1,r1,q1⟩=>eZ (Y pins s1 σ H1 _ I1 q1) λu s2 ⟨y,H2,I2,r2,q2⟩=>
  eZ (J pins s2 σ H2 x y v u _ I2 r1 r2 q2) λc s3 ⟨z,H3,I3,r3,k,e,q3⟩=>?_) hm
 subst e
 cases r3;exact wpAny_truthy_bool ⟨H3,I3,q3⟩
theorem mV:(sizeLine:Nat)<2 ^ 63:=by rw[sizeLine_eq];decide
theorem lM:gn X (binaryOp .Add) (λx y H Q=>∃i j,x=.str i/\y=.str j/\i.length+j.length<=sizeLine/\Q (.str (i++j)) H):=by
 intro pins s σ H x y v u Q I J U h;obtain⟨i,j,rfl,rfl,Y,q⟩:=h;obtain⟨t,rfl⟩:=J;obtain⟨t',rfl⟩:=U;exact add_str (λt' tk=>⟨.str (i++j),H,I.tok _,⟨_,rfl⟩,q⟩) Y
theorem vals1 {x:V}{us:List Value}(r:Vals [x] us):∃u,us=[u]/\RelV x u:=by
 cases r with
 |cons I J=>cases J;exact(Zr rfl I)
theorem vals2 {x y:V}{us:List Value}(r:Vals [x,y] us):∃u I,us=[u,I]/\RelV x u/\RelV y I:=by
 cases r with
 |cons J U=>
  cases U with
  |cons Y r4=>cases r4;exact⟨_,Zr rfl ⟨J,Y⟩⟩
theorem Ej (hc:X.calm=true):i2 X (.builtin "min") (λxs H Q=>∃i j,xs=[.int i,.int j]/\Q (.int (if j<i then j else i)) H):=by
 intro pins s σ H xs us Q I r h;obtain⟨i,j,rfl,q⟩:=h;obtain⟨u,U,rfl,⟨t,rfl⟩,⟨t',rfl⟩⟩:=vals2 r;refine min_two_ints (I.ok.hd hc) λh' tk k=>⟨_,H,I.kept k,?_,q⟩;by_cases J:j<i
 . rw[if_pos J,if_pos J];exact⟨_,rfl⟩
 . rw[if_neg J,if_neg J];exact⟨_,rfl⟩
theorem za:i2 X (.type "int") (λxs H Q=>(∃i,xs=[.int i]/\Q (.int i) H)\/∃k,xs=[.bl k]/\Q (.int (if k then 1 else 0)) H):=by
 intro pins s σ H xs us Q I r h;rcases h with⟨i,rfl,q⟩|⟨k,rfl,q⟩
 . obtain⟨u,rfl,t,rfl⟩:=vals1 r;exact call_int_int ⟨.int i,H,I,⟨_,rfl⟩,q⟩
 . obtain⟨u,rfl,J⟩:=vals1 r
   cases J;exact call_int_bool ⟨.int (if k then 1 else 0),H,I.tok _,⟨_,rfl⟩,q⟩
end
structure lP (h:Heap) (x dx C:Addr) (mA:Str->Option Value):Prop where
 obj:h.get? x=some (W.instObj C dx)
 ns:h.Ns1 dx mA
 ne:dx≠x
theorem El {h:Heap}{dx:Addr}{mA:Str->Option Value}(n:h.Ns1 dx mA):∃J,h.get? dx=some J/\∀name,W.lookIn name J=some (mA name):=by
 obtain⟨o,es,ep,U,hd,Y,_,hm⟩:=n;refine⟨o,U,λname=>?_⟩;have e:=hm name;unfold nsFind findBy at e;rw[<-Array.find?_toList] at e;unfold W.lookIn;rw[hd];dsimp only;split
 . rename_i y q;rw[q] at e;exact congrArg some e
 . rename_i q;rw[q] at e
   have a:es.toList.any (·.refKey)=false:=by
    rw[List.any_eq_false];intro y hy;obtain⟨z,t,I⟩:=Y y (Array.mem_toList_iff.mp hy);simp[DictEntry.refKey,I]
   have a':¬es.toList.any (·.refKey)=true:=by rw[a];exact Bool.false_ne_true
   rw[if_neg a'];exact congrArg some e
theorem lP.look {h:Heap}{x dx C:Addr}{mA:Str->Option Value}(I:lP h x dx C mA):∃J,W.InstAt h x (W.instObj C dx) C (some J)/\∀name,W.lookIn name J=some (mA name):=
 let⟨J,U,hl⟩:=El I.ns
 ⟨J,⟨I.obj,rfl,rfl,U⟩,hl⟩
section
variable {prog:Program}{w:World}{A:Around}{E:Value->Shared->Prop}{s:Shared}{K:W.Frag}{x dx C f:Addr}{mA:Str->Option Value}{name:Str}{v:Value}
theorem get_map {U:Bool}{Q:Value->Shared->Prop}(X:K.In s.heap)(I:lP s.heap x dx C mA)(hg:W.plainGet K C name=true)(hh:W.hasDictIn K C=true)
 (ha:W.findIn K (.ref C) name=some none) (hv:mA name=some v) (Y:W.handedIn v=true) (h:Q v { s with toks:=s.toks+1 }):
 wpAny (model prog w) A (getAttr (.ref x) name U) Q E s:=by
 obtain⟨od,J,hl⟩:=I.look;exact W.get_value X J (W.plainGet_of hg).1 (W.findObj_own hh ha rfl (by rw[hl,hv])) Y h
theorem Em {pl:Sem Bool}{Q:Value × List Value->Shared->Prop}(X:K.In s.heap)(I:lP s.heap x dx C mA)(U:W.plainGet K C name=true)
 (Y:W.findIn K (.ref C) name=some (some (.ref f))) (ht:W.isFn K (.ref f)=true) (hv:mA name=none) (h:Q (.ref f,[.ref x]) s):
 wpAny (model prog w) A (getMethod (.ref x) name pl) Q E s:=by
 obtain⟨od,J,hl⟩:=I.look;exact W.method_fn X J (W.plainGet_of U).1 (W.plainGet_of U).2 Y (beq_iff_eq.mp ht) (by show(W.lookIn name od).map (·.isSome)=some false;rw[hl,hv];rfl) h
theorem En {ns:List Str}{Q:Unit->Shared->Prop}(X:K.In s.heap)(I:lP s.heap x dx C mA)
 (hs:W.findIn K (.ref C) "__setattr__"=some (some (.builtin "object.__setattr__"))) (hp:W.plainOver K C=true) (ht:W.takerIn K C name=some none) (hh:W.hasDictIn K C=true)
 (hw:PySem.Within mA ns) (hsz:ns.length<=sizeLine)
 (h:∀h',lP h' x dx C (λy=>if y=name then some v else mA y)->Heap.SameBut dx s.heap h'->Q () { s with heap:=h',toks:=s.toks+2 }):
 wpAny (model prog w) A (setAttr (.ref x) name v) Q E s:=by
 obtain⟨od,J,hl⟩:=I.look;refine W.set_plain X J hs (W.osa_open (s:={ s with toks:=s.toks+1 }) (r:=none) X J hp ht λb=>?_);obtain⟨cd,hc,aa⟩:=W.any_some hh;have hx:s.heap.get? x=some ⟨.ref C,some dx,.plain,#[]⟩:=I.obj;refine Q0 (Q0c (Q0 (Q0 (wpAny_loadPart hx (Q0 (W.Looks.here (s:={ s with toks:=s.toks+1 }) (W.looks_clsIn X hc) ?_))))));rw[aa];refine Q0c (a:=some dx) (Q0 (Q0c (Q0 ?_)));refine wpAny_nsSet1 (s:={ s with toks:=s.toks+1 }) I.ns λh' U Y=>?_;obtain⟨oD,af,ag,ab,ac,ae⟩:=U.count (PySem.Within.cons name v hw);refine Q0 (wpAny_lookBehind ab (by rw[ac];exact pastItsLine_dict (Q0f ae (by rw[Q0h];omega))) ?_);exact Q0c (h _ ⟨(Y.2 _ (Ne.symm I.ne)).trans I.obj,U,I.ne⟩ Y)
theorem Eo {R:Result->Shared->Prop}{vs:List Value}{I:List (Str × Value)}(X:K.In s.heap)(J:W.makesIn K C=true)
 (hi:W.findIn K (.ref C) "__init__"=some (some (.ref f))) (U:W.typeIn K (.ref f)=some (.type "function"))
 (h:codeAny (model prog w) (A.under (.builtin "type.__call__" ⟨.ref C::vs,I⟩)) (.call (.ref f) ⟨.ref (s.heap.objs.size+1)::vs,I⟩) (W.InitBack (s.heap.objs.size+1) R)
   { s with heap:=(s.heap.push W.emptyDict).push (W.instObj C s.heap.objs.size) }):
 codeAny (model prog w) A (.call (.ref C) ⟨vs,I⟩) R s:=by
 obtain⟨Y,g,d,t,os⟩:=s;exact W.make_core (W.makes_of X J) (W.looks_findIn X hi) (λself=>W.bind_fn X self U) (.inl rfl) h
end
noncomputable def iy (f:Str) (v:V):List (Str × V)->List (Str × V)
 |[]=>[(f,v)]
 |(g,x)::r=>if g=f then(g,v)::r else(g,x)::iy f v r
theorem zb (f g:Str)(v:V):∀fs:List (Str × V),(iy f v fs).lookup g=if g=f then some v else fs.lookup g
 |[]=>by
  show List.lookup g [(f,v)]=_;by_cases h:g=f
  . have I:(g == f)=true:=beq_iff_eq.mpr h;simp only[List.lookup,I,if_pos h]
  . have I:(g == f)=false:=beq_eq_false_iff_ne.mpr h;simp only[List.lookup,I,if_neg h]
 |(k,x)::r=>by
  have U:=zb f g v r;rw[show iy f v ((k,x)::r)=(if k=f then(k,v)::r else(k,x)::iy f v r) from rfl];by_cases J:k=f
  . rw[if_pos J];by_cases h:g=k
    . have I:(g == k)=true:=beq_iff_eq.mpr h;simp only[List.lookup,I,if_pos (h.trans J)]
    . have I:(g == k)=false:=beq_eq_false_iff_ne.mpr h;simp only[List.lookup,I,if_neg (λe:g=f=>h (e.trans J.symm))]
  . rw[if_neg J];by_cases h:g=k
    . have I:(g == k)=true:=beq_iff_eq.mpr h;simp only[List.lookup,I,if_neg (λe:g=f=>J (h.symm.trans e))]
    . have I:(g == k)=false:=beq_eq_false_iff_ne.mpr h;simp only[List.lookup,I];exact U
theorem rJ (f:Str)(v:V):∀fs:List (Str × V),f∈(iy f v fs).map (·.1)/\∀g,g∈fs.map (·.1)->g∈(iy f v fs).map (·.1)
 |[]=>⟨by simp[iy],λg h=>by simp at h⟩
 |(k,x)::r=>by
  obtain⟨J,U⟩:=rJ f v r;rw[show iy f v ((k,x)::r)=(if k=f then(k,v)::r else(k,x)::iy f v r) from rfl];by_cases I:k=f
  . rw[if_pos I];subst I;exact⟨by simp,λg h=>by simpa using h⟩
  . rw[if_neg I];refine⟨?_,λg h=>?_⟩
    . rw[Q0y];exact Q0b _ J
    . rw[Q0y] at h ⊢;rcases List.mem_cons.mp h with e|e
      . exact List.mem_cons.mpr (.inl e)
      . exact Q0b _ (U g e)
theorem zc (f:Str)(v:V):∀fs:List (Str × V),(iy f v fs).length<=fs.length+1
 |[]=>by simp[iy]
 |(k,x)::r=>by
  have J:=zc f v r;rw[show iy f v ((k,x)::r)=(if k=f then(k,v)::r else(k,x)::iy f v r) from rfl];by_cases I:k=f
  . rw[if_pos I,Q0h,Q0h];omega
  . rw[if_neg I,Q0h,Q0h];omega
theorem ix.some_of {v:V}{o:Option Value}(r:ix (some v) o):∃u,o=some u/\RelV v u:=by
 cases o with
 |none=>exact(show False from r).elim
 |some u=>exact⟨u,rfl,r⟩
theorem ix.none_of {o:Option Value}(r:ix none o):o=none:=by
 cases o with
 |none=>rfl
 |some u=>exact(show False from r).elim
theorem Ep {v:V}{u:Value}(r:RelV v u):W.handedIn u=true:=by
 cases v with
 |non=>cases(show u=Value.none from r);rfl
 |bl b=>cases(show u=Value.bool b from r);rfl
 |int i=>obtain⟨t,e⟩:=(show ∃t,u=Value.int i t from r);cases e;rfl
 |str x=>obtain⟨t,e⟩:=(show ∃t,u=Value.str x t from r);cases e;rfl
 |jd b=>obtain⟨t,e⟩:=(show ∃t,u=Value.bytes b t from r);cases e;rfl
 |flt b=>obtain⟨t,e⟩:=(show ∃t,u=Value.float b t from r);cases e;rfl
 |ref a=>cases(show u=Value.ref a from r);rfl
 |ty n=>cases(show u=Value.type n from r);rfl
section
variable {P:Program}{w:World}{H H':Hp}{h h':Heap}{a C dx:Addr}{fs fs':List (Str × V)}
theorem pV (I:gu P w H h)(e:H a=some (.ins C dx fs)):∃mA,lP h a dx C mA/\(∀f,ix (fs.lookup f) (mA f))/\PySem.Within mA (fs.map (·.1))/\fs.length<=1000/\H dx=some (.own a):=by
 obtain⟨d,z,J,U,mA,n,r,q⟩:=(show gB P w H h a (.ins C dx fs) from I a _ e);exact⟨mA,⟨U,n,J⟩,r,q,z,d⟩
end
structure Cls (K:W.Frag) (C:Addr):Prop where
 pg:W.plainGet K C Str.empty=true
 hd:W.hasDictIn K C=true
 po:W.plainOver K C=true
 sa:W.findIn K (.ref C) "__setattr__"=some (some (.builtin "object.__setattr__"))
theorem Cls.get {K:W.Frag}{C:Addr}(c:Cls K C)(f:Str):W.plainGet K C f=true:=c.pg
def lQ (K:W.Frag) (C:Addr) (f:Str):Prop:=W.findIn K (.ref C) f=some none
theorem lQ.taker {K:W.Frag}{C:Addr}{f:Str}(n:lQ K C f):W.takerIn K C f=some none:=by
 unfold W.takerIn;rw[show W.findIn K (.ref C) f=some none from n];rfl
structure Meth (K:W.Frag) (C:Addr) (m:Str) (f:Addr):Prop where
 at_:W.findIn K (.ref C) m=some (some (.ref f))
 fn:W.isFn K (.ref f)=true
 kp:W.keepIn K (.ref f)=true
section
variable {X:Cx}{pins:List (Addr × Obj)}{σ:St}{H:Hp}{s:Shared}{a C dx:Addr}{fs:List (Str × V)}{f:Str}{v:V}{A:Around}{E:Value->Shared->Prop}
theorem Er {b:Bool}{Q:Value->Shared->Prop}(I:Inv X pins σ H s)(e:H a=some (.ins C dx fs))(c:Cls X.K C)(n:lQ X.K C f)(l:fs.lookup f=some v)
 (h:∀u s',Inv X pins σ H s'->RelV v u->Q u s'):wpAny (model X.prog X.w) A (getAttr (.ref a) f b) Q E s:=by
 obtain⟨mA,O,r,_,_,_⟩:=pV I.hok e;obtain⟨u,U,J⟩:=ix.some_of (v:=v) (o:=mA f) (by rw[<-l];exact r f);exact get_map I.gR O (c.get f) c.hd n U (Ep J) (h u _ (I.tok _) J)
theorem zd {m:Str}{g:Addr}{pl:Sem Bool}{Q:Value × List Value->Shared->Prop}(I:Inv X pins σ H s)(e:H a=some (.ins C dx fs))(c:Cls X.K C)(k:Meth X.K C m g)(l:fs.lookup m=none)
 (h:Q (.ref g,[.ref a]) s):wpAny (model X.prog X.w) A (getMethod (.ref a) m pl) Q E s:=by
 obtain⟨mA,O,r,_,_,_⟩:=pV I.hok e;have J:mA m=none:=ix.none_of (by rw[<-l];exact r m);exact Em I.gR O (c.get m) k.at_ k.fn J h
theorem Es {y:V}{u:Value}{Q:Unit->Shared->Prop}(I:Inv X pins σ H s)(e:H a=some (.ins C dx fs))(c:Cls X.K C)(n:lQ X.K C f)(hl:fs.length<1000)(ry:RelV y u)
 (h:∀s',Inv X pins σ (upd H a (.ins C dx (iy f y fs))) s'->Q () s'):wpAny (model X.prog X.w) A (setAttr (.ref a) f u) Q E s:=by
 obtain⟨mA,O,r,U,_,Y⟩:=pV I.hok e;have hz:(fs.map (·.1)).length<=sizeLine:=by rw[Q04,sizeLine_eq];omega
 refine En I.gR O c.sa c.po n.taker c.hd U hz λh' J sb=>h _ ?_;have hd:∃o,h'.get? dx=some o:=let⟨o,_,_,e',_⟩:=J.ns;⟨o,e'⟩
 refine I.write (x:=a) (e:=dx) (by rw[e];exact True.intro) (.inr Y) (λb q hb z=>(sb.2 b hb).trans z) hd ?_;refine⟨by rw[eE O.ne];exact Y,?_,O.ne,J.obj,_,J.ns,λg=>?_,λg hg=>?_⟩
 . have:=zc f y fs;omega
 . show ix ((iy f y fs).lookup g) (if g=f then some u else mA g);rw[zb];by_cases q:g=f
   . rw[if_pos q,if_pos q];exact ry
   . rw[if_neg q,if_neg q];exact r g
 . by_cases q:g=f
   . rw[q];exact(rJ f y fs).1
   . refine(rJ f y fs).2 g (U g λz=>hg ?_);show(if g=f then some u else mA g)=none;rw[if_neg q];exact z
theorem Inv.made (I:Inv X pins σ H s):Inv X pins σ (upd (upd H s.heap.objs.size (.own (s.heap.objs.size+1))) (s.heap.objs.size+1) (.ins C s.heap.objs.size []))
 { s with heap:=(s.heap.push W.emptyDict).push (W.instObj C s.heap.objs.size) }:=by
 have J:(s.heap.push W.emptyDict).get? s.heap.objs.size=some W.emptyDict:=Q0l s.heap rfl
 have Y:((s.heap.push W.emptyDict).push (W.instObj C s.heap.objs.size)).get? (s.heap.objs.size+1)=some (W.instObj C s.heap.objs.size):=by
  have:=Q0l (s.heap.push W.emptyDict) (o:=W.instObj C s.heap.objs.size) rfl
  rwa [Q1u] at this
 have e3:(s.heap.push W.emptyDict).Ns s.heap.objs.size (λ_=>none):=⟨W.emptyDict,#[],_,J,rfl,(λe he=>absurd he (by simp)),λ_=>rfl⟩;have I1:=I.laid (a:=s.heap.objs.size) (o:=.own (s.heap.objs.size+1)) (h':=s.heap.push W.emptyDict) (t':=s.toks) (λb u q=>Q09 _ q) (Q00 _) ⟨_,J⟩;refine I1.laid (a:=s.heap.objs.size+1) (o:=.ins C s.heap.objs.size []) (t':=s.toks) (λb u q=>Q09 _ q) (Q1k (Q1u _ _)) ?_;have U:s.heap.objs.size≠s.heap.objs.size+1:=Q08 (Q1 _);refine⟨by rw[eE U,eF],Q07 _,U,Y,λ_=>none,(Heap.Ns1.of_empty e3).at λo q=>Q09 _ q,λ_=>True.intro,λy hy=>absurd rfl hy⟩
theorem Et {prog:Program}{w:World}{env:Env}{e:Expr}{f:Str}{pos:Pos}{s:Shared}{Q:Value->Shared->Prop}(J:attributeBase e f env (eval e env)=eval e env)
 (h:wpAny (model prog w) A (eval e env) (λo I=>wpAny (model prog w) A (getAttr o f true) Q E I) E s):wpAny (model prog w) A (eval (.Attribute e f pos) env) Q E s:=
 Attribute_any_ h (by rw[arm_eval_Attribute,J])
end
def rK (K:W.Frag) (ta:TE) (f:Str):TE:=λσ H Q=>ta σ H λx H1=>∃a C dx fs v,x=.ref a/\H1 a=some (.ins C dx fs)/\Cls K C/\lQ K C f/\fs.lookup f=some v/\Q v H1
def Eu (K:W.Frag) (ta tv:TE) (f:Str):TS:=λD σ H=>tv σ H λy H1=>ta σ H1 λx H2=>∃a C dx fs,x=.ref a/\H2 a=some (.ins C dx fs)/\Cls K C/\lQ K C f/\fs.length<1000/\
 D.nx σ (upd H2 a (.ins C dx (iy f y fs)))
section
variable {X:Cx}{o e value:Expr}{f:Str}{pos pos' tpos:Pos}{ta tv:TE}
theorem pW (J:PE X e ta)(U:attributeBase e f X.env (eval e X.env)=eval e X.env):PE X (.Attribute e f pos) (rK X.K ta f):=by
 intro pins s σ H Q I h;refine Et U (eZ (J pins s σ H _ I h) λu s1 zq=>?_);obtain⟨x,H1,Y,rx,a,C,dx,fs,v,ex,ea,c,n,l,q⟩:=zq;subst ex;obtain rfl:u=Value.ref a:=rx;exact Er Y ea c n l λu' s2 I2 ru=>⟨v,H1,I2,ru,q⟩
theorem Ew (J:PE X o ta)(U:PE X value tv)(Y:swapsWith value (some (.Attribute o f pos')) pos.line X.env=pure false):PS X (.Assign [.Attribute o f pos'] value pos) (Eu X.K ta tv f):=by
 intro pins s σ H D I h;refine plainObj_wpAny_Assign_Attribute (eZ (U pins s σ H _ I h) λu s1 ⟨y,H1,I1,ry,q⟩=>eZ (J pins s1 σ H1 _ I1 q) λov s2 zq=>?_) Y;obtain⟨x,H2,I2,rx,a,C,dx,fs,ex,ea,c,n,l,q2⟩:=zq;subst ex;obtain rfl:ov=Value.ref a:=rx;exact Es I2 ea c n l ry λs3 I3=>⟨σ,_,I3,q2⟩
end
section
variable {X:Cx}{pins:List (Addr × Obj)}{σ:St}{H:Hp}{s:Shared}{A:Around}{E:Value->Shared->Prop}{Q:Value->Shared->Prop}{c:Value}{b:Bool}
inductive iP (K:W.Frag) (H:Hp):V->Value->Prop where
 |non:iP K H .non (.type "NoneType")
 |bl (x:Bool):iP K H (.bl x) (.type "bool")
 |int (i:Int):iP K H (.int i) (.type "int")
 |str (x:Str):iP K H (.str x) (.type "str")
 |flt (x:UInt64):iP K H (.flt x) (.type "float")
 |lst {a:Addr} {xs:List V} (e:H a=some (.lst xs)):iP K H (.ref a) (.type "list")
 |iE {a:Addr} {o:Obj} {xs:List V} (e:H a=some (.iE o (.lst xs))):iP K H (.ref a) (.type "list")
 |tup {a:Addr} {xs:List V} (e:H a=some (.tup xs)):iP K H (.ref a) (.type "tuple")
 |dK {a:Addr} {kvs:List (Key × V)} (e:H a=some (.dK kvs)):iP K H (.ref a) (.type "dict")
 |dT {a:Addr} {kvs:List (List Key × V)} (e:H a=some (.dT kvs)):iP K H (.ref a) (.type "dict")
 |ins {a C dx:Addr} {fs:List (Str × V)} (e:H a=some (.ins C dx fs)) (cl:Cls K C) (ha:W.findIn K (.ref C) "__class__"=some (some (.builtin "object.__class__")))
   (hn:W.specialIn K (.builtin "object.__class__") "__get__"=some (some (.builtin "getset_descriptor.__get__"))) (htk:W.takesIn K (.builtin "object.__class__")=some true)
   (hm:W.mroIn K C (.type "object")=some true):iP K H (.ref a) (.ref C)
theorem Ex {x:V}{u t:Value}(I:Inv X pins σ H s)(U:RelV x u)(ty:iP X.K H x t)(e:W.kitOne X.K t c=some b)(h:∀tk,Q (.bool b) { s with toks:=tk }):
 wpAny (model X.prog X.w) A (call (.builtin "isinstance") [u,c]) Q E s:=by
 cases ty with
 |non=>cases(show u=Value.none from U);exact W.kia_one W.kitx_none I.gR True.intro e (λz=>nomatch z) h
 |bl y=>cases(show u=Value.bool y from U);exact W.kia_one W.kitx_bool I.gR True.intro e (λz=>nomatch z) h
 |int i=>obtain⟨t,q⟩:=(show ∃t,u=Value.int i t from U);cases q;exact W.kia_one W.kitx_int I.gR True.intro e (λz=>nomatch z) h
 |str y=>obtain⟨t,q⟩:=(show ∃t,u=Value.str y t from U);cases q;exact W.kia_one W.kitx_str I.gR True.intro e (λz=>nomatch z) h
 |flt y=>obtain⟨t,q⟩:=(show ∃t,u=Value.float y t from U);cases q;exact W.kia_one W.kitx_float I.gR True.intro e (λz=>nomatch z) h
 |@lst a xs Y=>
  cases(show u=Value.ref a from U);obtain⟨_,_,n,_,h1⟩:=(show gB X.prog X.w H s.heap a (.lst xs) from I.hok a _ Y);exact W.kia_one W.kitx_list I.gR ⟨_,h1,rfl⟩ e (λz=>nomatch z) h
 |@iE a ob xs Y=>
  cases(show u=Value.ref a from U);obtain⟨_,_,_,n,_,h1⟩:=(show gB X.prog X.w H s.heap a (.iE ob (.lst xs)) from I.hok a _ Y);exact W.kia_one W.kitx_list I.gR ⟨_,h1,rfl⟩ e (λz=>nomatch z) h
 |@tup a xs Y=>
  cases(show u=Value.ref a from U);obtain⟨_,_,_,p⟩:=(show gB X.prog X.w H s.heap a (.tup xs) from I.hok a _ Y);obtain⟨o,h1,h2,_⟩:=p;exact W.kia_one W.kitx_tuple I.gR ⟨o,h1,h2⟩ e (λz=>nomatch z) h
 |@dK a kvs Y=>
  cases(show u=Value.ref a from U);obtain⟨_,_,vs,_,p⟩:=(show gB X.prog X.w H s.heap a (.dK kvs) from I.hok a _ Y);obtain⟨o,es,ep,h1,h2,_⟩:=p;exact W.kia_one W.kitx_dict I.gR ⟨o,h1,h2.1⟩ e (λz=>nomatch z) h
 |@dT a kvs Y=>
  cases(show u=Value.ref a from U);obtain⟨_,_,xs,_,o,es,ep,h1,h2,_⟩:=(show gB X.prog X.w H s.heap a (.dT kvs) from I.hok a _ Y);exact W.kia_one W.kitx_dict I.gR ⟨o,h1,h2.1⟩ e (λz=>nomatch z) h
 |@ins a C dx fs Y cl ha hn aa hm=>
  cases(show u=Value.ref a from U);obtain⟨mA,O,_⟩:=pV I.hok Y;obtain⟨od,J,_⟩:=O.look;exact W.kia_one (W.kitx_own (cl.get _) cl.hd ha hn aa hm) I.gR J e (λz=>nomatch z) h
end
structure fY (k:Nat) (A:Around):Prop where
 hd:A.handled=none
 dp:A.depth+3 * k+5<recursionLimit
 un:A.units+16 * k+200<cLine
theorem fY.mono {j k:Nat}{A:Around}(r:fY k A)(h:j<=k):fY j A:=⟨r.hd,by have:=r.dp;omega,by have:=r.un;omega⟩
theorem fY.deeper {k:Nat}{A:Around}(r:fY (k+1) A)(env:Env):fY k (A.deeper env):=
 ⟨r.hd,by have:=r.dp;show A.depth+1+3 * k+5<_;omega,by have:=r.un;show A.units+3+16 * k+200<_;omega⟩
theorem fY.in1 {k:Nat}{A:Around}(r:fY (k+1) A):fY k A.in1:=
 ⟨r.hd,by have:=r.dp;show A.depth+3 * k+5<_;omega,by have:=r.un;show A.units+1+16 * k+200<_;omega⟩
theorem Ey {A:Around}{C:Addr}{us:List Value}{I:List (Str × Value)}:(A.under (.builtin "type.__call__" ⟨.ref C::us,I⟩)).depth=A.depth+1:=by
 first|rfl|simp[Around.under,Code.weight,Code.isCreation,Code.isGuard,Code.isCaller,Code.frames,Code.isFrame,guardIds]
theorem Ez {A:Around}{C:Addr}{us:List Value}{I:List (Str × Value)}:(A.under (.builtin "type.__call__" ⟨.ref C::us,I⟩)).units=A.units+1:=by
 first|rfl|simp[Around.under,Code.cUnits,Code.frames,Code.isFrame]
theorem fY.make {k:Nat}{A:Around}(r:fY (k+1) A)(C:Addr)(us:List Value)(I:List (Str × Value)):fY k (A.under (.builtin "type.__call__" ⟨.ref C::us,I⟩)):=
 ⟨r.hd,by have:=r.dp;rw[Ey];omega,by have:=r.un;rw[Ez];omega⟩
theorem fY.depth {k:Nat}{A:Around}(r:fY k A):A.depth<recursionLimit:=by have:=r.dp;omega
theorem fY.units {k:Nat}{A:Around}(r:fY k A):A.units+64<cLine:=by have:=r.un;omega
theorem fY.ze {k:Nat}{A:Around}(r:fY k A):A.units<cLine:=by have:=r.un;omega
def iz:TA:=λ_ H Q=>Q [] H
def gy (ta:TE) (I:TA):TA:=λσ H Q=>ta σ H λx H1=>I σ H1 λxs H2=>Q (x::xs) H2
section
variable {X:Cx}{e:Expr}{es:List Expr}{te:TE}{t:TA}{pos:Pos}
theorem c_:PA X [] iz:=λ_ _ _ _ H Q I h=>Calls.spliced_nil ⟨[],H,I,.nil,h⟩
theorem a_ (J:PE X e te)(U:PA X es t)(Y:starEach (e::es) X.env=(false,eval e X.env)::starEach es X.env:=by rfl):PA X (e::es) (gy te t):=by
 intro pos pins s σ H Q I h;rw[Y];show wpAny _ _ (spliced ((false,eval e X.env)::backTo pos (starEach es X.env))) _ _ s;refine Calls.spliced_cons (eZ (J pins s σ H _ I h) λu s1 zq=>?_);obtain⟨x,H1,I1,r1,q1⟩:=zq;exact eZ (U pos pins s1 σ H1 _ I1 q1) λus s2 ⟨xs,H2,I2,r2,q2⟩=>⟨x::xs,H2,I2,.cons r1 r2,q2⟩
def rL (t:TA):TE:=λσ H Q=>t σ H λxs H1=>xs.length<=sizeLine/\∀p,H1 p=none->Q (.ref p) (upd H1 p (.tup xs))
def EA (t:TA):TE:=λσ H Q=>t σ H λxs H1=>xs.length<=sizeLine/\∀p,H1 p=none->Q (.ref p) (upd H1 p (.lst xs))
theorem gd {Y}(h:PA X es t):PE X (.Tuple es Y pos) (rL t):=by
 intro pins s σ H Q I hq;refine wpAny_Tuple_spliced (eZ (h pos pins s σ H _ I hq) λus J ⟨xs,H1,U,r,z,q⟩=>⟨by rw[<-r.length];exact z,?_⟩);have hf:H1 J.heap.objs.size=none:=U.hok.fresh (Q00 _);refine⟨.ref J.heap.objs.size,upd H1 J.heap.objs.size (.tup xs),U.laid (t':=J.toks) (λb u e=>Q09 _ e) (Q00 _) ?_,rfl,q _ hf⟩;exact⟨z,us,r,⟨_,Q0l _ rfl,rfl,_,rfl⟩⟩
theorem gi (h:PA X es t):PE X (.List es pos) (EA t):=by
 intro pins s σ H Q I Y;refine wpAny_List_spliced (eZ (h pos pins s σ H _ I Y) λus J ⟨xs,H1,U,r,z,q⟩=>⟨by rw[<-r.length];exact z,?_⟩);have hf:H1 J.heap.objs.size=none:=U.hok.fresh (Q00 _);refine⟨.ref J.heap.objs.size,upd H1 J.heap.objs.size (.lst xs),U.laid (t':=J.toks) (λb u e=>Q09 _ e) (Q00 _) ?_,rfl,q _ hf⟩;exact⟨z,us,0,r,Q0l _ rfl⟩
end
noncomputable abbrev Sp:=List V->Hp->VK->XK->Prop
noncomputable abbrev iI:=List Env->Hp->Shared->XK->Value->Shared->Prop
structure lU (P:Program) (w:World) (K:W.Frag) (mg:Str->Option Value) (base:Heap) (A:Around) (outer:List Env) (s:Shared) (H:Hp):Prop where
 frames:A.frames=some outer
 mod:Mod K mg base
 bs:∀b o,base.get? b=some o->s.heap.get? b=some o/\H b=none
 iX:base.objs.size<=s.heap.objs.size
 iF:s.heap.FunFrames base outer
 jI:∀b∈frs outer,H b=none
 hok:gu P w H s.heap
 bare:AllBare s.gens
def CE (outer:List Env) (P:Program) (w:World) (H:Hp) (s:Shared) (Q:VK) (u:Value) (s':Shared):Prop:=
 ∃v H',s'.os=s.os/\AllBare s'.gens/\Un (frs outer) [] H H' s.heap s'.heap/\gu P w H' s'.heap/\RelV v u/\Q v H'
def CR (CX:iI) (outer:List Env) (P:Program) (w:World) (H:Hp) (s:Shared) (Q:VK) (E:XK) (r:Result) (s':Shared):Prop:=
 match r with
 | .ok (.ret u)=>CE outer P w H s Q u s'
 | .ok _=>False
 | .error e=>CX outer H s E e s'
structure en (P:Program) (w:World) (K:W.Frag) (mg:Str->Option Value) (base:Heap) (CX:iI) (k:Nat) (f:Addr) (fd:FuncData) (ps:List Str) (sp:Sp):Prop where
 len:∀vs H Q E,sp vs H Q E->vs.length=ps.length
 run:∀(A:Around) (outer:List Env) (s:Shared) (H:Hp) (args:Args) (us:List Value) (vs:List V) (Q:VK) (E:XK),fY k A->lU P w K mg base A outer s H->BindsTo s fd args (ps.zip us)->Vals vs us->sp vs H Q E->
  codeAny (model P w) A (.call (.ref f) args) (CR CX outer P w H s Q E) s
theorem en.mono {P:Program}{w:World}{K:W.Frag}{mg:Str->Option Value}{base:Heap}{CX:iI}{j k:Nat}{f:Addr}{fd:FuncData}{ps:List Str}{sp:Sp}(F:en P w K mg base CX j f fd ps sp)(h:j<=k):
 en P w K mg base CX k f fd ps sp:=⟨F.len,λA outer s H args us vs Q E I=>F.run A outer s H args us vs Q E (I.mono h)⟩
theorem en.imp {P:Program}{w:World}{K:W.Frag}{mg:Str->Option Value}{base:Heap}{CX:iI}{k:Nat}{f:Addr}{fd:FuncData}{ps:List Str}{sp I:Sp}(F:en P w K mg base CX k f fd ps sp)
 (h:∀vs H Q E,I vs H Q E->sp vs H Q E):en P w K mg base CX k f fd ps I:=
 ⟨λvs H Q E q=>F.len vs H Q E (h _ _ _ _ q),λA outer s H args us vs Q E J U Y hv hs=>F.run A outer s H args us vs Q E J U Y hv (h _ _ _ _ hs)⟩
theorem lU.make {P:Program}{w:World}{K:W.Frag}{mg:Str->Option Value}{base:Heap}{A:Around}{outer:List Env}{s:Shared}{H:Hp}(e:lU P w K mg base A outer s H)(C:Addr)(us:List Value)(I:List (Str × Value)):
 lU P w K mg base (A.under (.builtin "type.__call__" ⟨.ref C::us,I⟩)) outer s H:=⟨by first|exact e.frames|(simpa[Around.under,Code.envs,Code.isFrame,pushEnvs] using e.frames),e.mod,e.bs,e.iX,e.iF,e.jI,e.hok,e.bare⟩
section
variable {X:Cx}{pins:List (Addr × Obj)}{σ:St}{H:Hp}{s s':Shared}
theorem Inv.env0 (I:Inv X pins σ H s):lU X.prog X.w X.K X.mg X.base X.A X.stack s H:=
 ⟨I.ok.frames,I.ok.mod,I.bs,Q0f I.ok.iX I.sz,I.stack,I.pH,I.hok,I.bare⟩
theorem Inv.after {Q:VK}{u:Value}(I:Inv X pins σ H s)(h:CE X.stack X.prog X.w H s Q u s'):EP X pins σ Q u s':=by
 obtain⟨v,H',os,J,un,U,r,q⟩:=h;obtain⟨hh,g,d,t,Y⟩:=s';obtain rfl:Y=s.os:=os;exact⟨v,H',I.call (h':=hh) (g':=g) (d':=d) (t':=t) (ch:=[]) un U J (λb z=>absurd z (by simp)),r,q⟩
end
def jg (sp:Sp) (gX:List V) (E:XK) (t:TA):TE:=λσ H Q=>t σ H λvs H1=>sp (vs++gX) H1 Q E
def zf (C:Addr) (m:Str) (sp:Sp) (gX:List V) (E:XK) (ta:TE) (t:TA):TE:=λσ H Q=>ta σ H λx H1=>∃a dx fs,x=.ref a/\H1 a=some (.ins C dx fs)/\fs.lookup m=none/\
 t σ H1 λvs H2=>sp (x::(vs++gX)) H2 Q E
def EB (C:Addr) (sp:Sp) (gX:List V) (E:XK) (t:TA):TE:=λσ H Q=>t σ H λvs H1=>∀x dx,H1 x=none->H1 dx=none->dx≠x->
 sp (.ref x::(vs++gX)) (upd (upd H1 dx (.own x)) x (.ins C dx [])) (λv H2=>v=.non/\Q (.ref x) H2) E
def Binds (K:W.Frag) (fd:FuncData) (ps:List Str) (ds:List Value):Prop:=
 ∀(s:Shared) (us:List Value),K.In s.heap->(us++ds).length=ps.length->BindsTo s fd ⟨us,[]⟩ (ps.zip (us++ds))
theorem Binds.all {K:W.Frag}{fd:FuncData}{ps:List Str}(h:∀us:List Value,us.length=ps.length->bindArgs fd ⟨us,[]⟩=pure (ps.zip us)):Binds K fd ps []:=λs us _ hl=>by
 rw[Q18] at hl ⊢;exact .of_eq (h us hl)
def Passes (CX:iI) (X:Cx) (E:XK):Prop:=∀(pins:List (Addr × Obj)) (σ:St) (H:Hp) (s:Shared) (e:Value) (s':Shared),Inv X pins σ H s->CX X.stack H s E e s'->X.xe e s'
section
variable {X:Cx}{CX:iI}{k:Nat}{f C:Addr}{fd:FuncData}{ps:List Str}{sp:Sp}{gX:List V}{ds:List Value}{E:XK}{x m:Str}{p pos apos:Pos}{e o:Expr}{es:List Expr}{ta:TE}{t:TA}
theorem rM {pins:List (Addr × Obj)}{σ:St}{H:Hp}{s:Shared}{Q:VK}{us:List Value}{vs:List V}(F:en X.prog X.w X.K X.mg X.base CX k f fd ps sp)(Y:fY k X.A)(hb:Binds X.K fd ps ds)(hd:Vals gX ds)(hx:Passes CX X E)
 (I:Inv X pins σ H s) (r:Vals vs us) (h:sp (vs++gX) H Q E):wpAny (model X.prog X.w) X.A (call (.ref f) us) (EP X pins σ Q) X.xe s:=by
 have U:Vals (vs++gX) (us++ds):=r.append hd;have hl:(us++ds).length=ps.length:=by rw[<-U.length];exact F.len _ _ _ _ h
 refine wpAny_call (codeAny_mono (F.run X.A X.stack s H ⟨us,[]⟩ (us++ds) (vs++gX) Q E Y I.env0 (hb s us I.gR hl) U h) λr s' J=>?_)
 cases r with
 |error e=>exact hx pins σ H s e s' I J
 |ok fl=>
  cases fl with
  |ret u=>exact I.after J
  |next=>exact False.elim J
  |brk=>exact False.elim J
  |cont=>exact False.elim J
theorem oj (F:en X.prog X.w X.K X.mg X.base CX k f fd ps sp)(hr:fY k X.A)(hg:Gl X x)(hm:X.mg x=some (.ref f))(hk:W.keepIn X.K (.ref f)=true)(hb:Binds X.K fd ps ds)(hd:Vals gX ds)(hx:Passes CX X E)
 (ha:PA X (e::es) t) (J:(x == ("__debug__":Str))=false:=by decide) (he:starEach (e::es) X.env=(false,eval e X.env)::starEach es X.env:=by rfl) (U:(backTo pos (starEach es X.env)).any (·.1)=false:=by rfl):
 PE X (.Call (.Name x p) (e::es) [] pos) (jg sp gX E t):=by
 intro pins s σ H Q I h;refine wpAny_Call_Name_kw (rn I hg hm ?_ J);refine W.callWith_K (h₀:=X.base) I.ok.mod.nZ hk (eZ (ha pos pins s σ H _ I h) λus s1 ⟨vs,H1,Y,r,q⟩=>⟨Y.gR,?_⟩) he U;exact rM F hr hb hd hx Y r q
theorem om {pl:Sem Bool}(he:PE X o ta)(c:Cls X.K C)(Y:Meth X.K C m f)(F:en X.prog X.w X.K X.mg X.base CX k f fd ps sp)(hr:fY k X.A)(hb:Binds X.K fd ps ds)(hd:Vals gX ds)(hx:Passes CX X E)(ha:PA X (e::es) t)
 (J:starEach (e::es) X.env=(false,eval e X.env)::starEach es X.env:=by rfl) (U:(backTo pos (starEach es X.env)).any (·.1)=false:=by rfl)
 (ht:eval (.Call (.Attribute o m apos) (e::es) [] pos) X.env=(do
   let ov <-eval o X.env
   standAt apos.atName
   let(f,first) <-holding [ov] (getMethod ov m pl)
   callWith pos f first (backTo pos (starEach (e::es) X.env)) (backToKw pos (keywordEach [] X.env))):=by rfl):
 PE X (.Call (.Attribute o m apos) (e::es) [] pos) (zf C m sp gX E ta t):=by
 intro pins s σ H Q I h;refine W.methodCall_KW (pl:=pl) (eZ (he pins s σ H _ I h) λu s1 zq=>?_) ht;obtain⟨x,H1,I1,rx,a,dx,fs,ex,ea,l,q⟩:=zq;subst ex;obtain rfl:u=Value.ref a:=rx;refine zd I1 ea c Y l ?_;refine W.callWith_K (first:=[.ref a]) (h₀:=X.base) I.ok.mod.nZ Y.kp (eZ (ha pos pins s1 σ H1 _ I1 q) λus s2 ⟨vs,H2,I2,r,q2⟩=>⟨I2.gR,?_⟩) J U;exact rM (us:=.ref a::us) (vs:=.ref a::vs) F hr hb hd hx I2 (.cons rfl r) q2
theorem EC {pl:Sem Bool}(he:PE X o ta)(c:Cls X.K C)(U:Meth X.K C m f)(F:en X.prog X.w X.K X.mg X.base CX k f fd ps sp)(hr:fY k X.A)(hb:Binds X.K fd ps ds)(hd:Vals gX ds)(hx:Passes CX X E)
 (ht:eval (.Call (.Attribute o m apos) [] [] pos) X.env=(do
   let Y <-eval o X.env
   standAt apos.atName
   let(f,first) <-holding [Y] (getMethod Y m pl)
   callWith pos f first (backTo pos (starEach [] X.env)) (backToKw pos (keywordEach [] X.env))):=by rfl):
 PE X (.Call (.Attribute o m apos) [] [] pos) (zf C m sp gX E ta iz):=by
 intro pins s σ H Q I h;refine W.methodCall_KW (pl:=pl) (eZ (he pins s σ H _ I h) λu s1 zq=>?_) ht;obtain⟨x,H1,J,rx,a,dx,fs,ex,ea,l,q⟩:=zq;subst ex;obtain rfl:u=Value.ref a:=rx;refine zd J ea c U l ?_;exact W.callWith_K0 (first:=[.ref a]) J.gR U.kp (rM (us:=[.ref a]) (vs:=[.ref a]) F hr hb hd hx J (.cons rfl .nil) q)
structure Mk (K:W.Frag) (C f:Addr):Prop where
 makes:W.makesIn K C=true
 init:W.findIn K (.ref C) "__init__"=some (some (.ref f))
 fn:W.isFn K (.ref f)=true
 kp:W.keepIn K (.ref C)=true
theorem ED {pins:List (Addr × Obj)}{σ:St}{H:Hp}{s:Shared}{Q:VK}{us:List Value}{vs:List V}(M:Mk X.K C f)(F:en X.prog X.w X.K X.mg X.base CX k f fd ps sp)(hr:fY (k+1) X.A)(hb:Binds X.K fd ps ds)(hd:Vals gX ds)
 (hx:Passes CX X E) (I:Inv X pins σ H s) (r:Vals vs us)
 (h:∀x dx,H x=none->H dx=none->dx≠x->sp (.ref x::(vs++gX)) (upd (upd H dx (.own x)) x (.ins C dx [])) (λv H2=>v=.non/\Q (.ref x) H2) E):
 wpAny (model X.prog X.w) X.A (call (.ref C) us) (EP X pins σ Q) X.xe s:=by
 have Y:=h (s.heap.objs.size+1) s.heap.objs.size (I.hok.fresh (Q19 _)) (I.hok.fresh (Q00 _)) (Q08 (Q1 _));have U:=Inv.made (C:=C) I;have r2:Vals (V.ref (s.heap.objs.size+1)::(vs++gX)) (Value.ref (s.heap.objs.size+1)::(us++ds)):=.cons rfl (r.append hd)
 have hl:(Value.ref (s.heap.objs.size+1)::us++ds).length=ps.length:=by
  have e:=r2.length;rw[F.len _ _ _ _ Y] at e;exact e.symm
 refine wpAny_call (Eo (f:=f) I.gR M.makes M.init (beq_iff_eq.mp M.fn) (codeAny_mono (F.run _ X.stack _ _ ⟨Value.ref (s.heap.objs.size+1)::us,[]⟩ (Value.ref (s.heap.objs.size+1)::(us++ds)) _ _ E (hr.make C us [])
  (U.env0.make C us []) (hb _ (Value.ref (s.heap.objs.size+1)::us) U.gR hl) r2 Y) λr s' J=>?_))
 cases r with
 |error e=>exact hx pins σ _ _ e s' U J
 |ok fl=>
  cases fl with
  |ret u=>
   obtain⟨v,H',I3,rv,ev,q3⟩:=U.after J;subst ev;exact⟨rv,⟨V.ref (s.heap.objs.size+1),H',I3,rfl,q3⟩⟩
  |next=>exact False.elim J
  |brk=>exact False.elim J
  |cont=>exact False.elim J
theorem EE (M:Mk X.K C f)(F:en X.prog X.w X.K X.mg X.base CX k f fd ps sp)(hr:fY (k+1) X.A)(hg:Gl X x)(hm:X.mg x=some (.ref C))(hb:Binds X.K fd ps ds)(hd:Vals gX ds)(hx:Passes CX X E)
 (ha:PA X (e::es) t) (J:(x == ("__debug__":Str))=false:=by decide) (he:starEach (e::es) X.env=(false,eval e X.env)::starEach es X.env:=by rfl) (U:(backTo pos (starEach es X.env)).any (·.1)=false:=by rfl):
 PE X (.Call (.Name x p) (e::es) [] pos) (EB C sp gX E t):=by
 intro pins s σ H Q I h;refine wpAny_Call_Name_kw (rn I hg hm ?_ J);refine W.callWith_K (h₀:=X.base) I.ok.mod.nZ M.kp (eZ (ha pos pins s σ H _ I h) λus s1 ⟨vs,H1,Y,r,q⟩=>⟨Y.gR,?_⟩) he U;exact ED M F hr hb hd hx Y r q
end
section
variable {X:Cx}{CX:iI}{k:Nat}{f C:Addr}{fd:FuncData}{ps ks:List Str}{sp:Sp}{E:XK}{x m:Str}{p pos apos kpos:Pos}{e o:Expr}{es:List Expr}{kws:List Keyword}{te ta:TE}{t tk:TA}{nm:Option Str}
variable {g:List Value->List Value->List Value}{gV:List V->List V->List V}
end
structure fv (N P:List Str) (sc:Scope):Prop where
 kind:sc.kind=.function
 co:sc.isCoroutine=false
 gen:sc.isGenerator=false
 nd:N.Nodup
 pre:N.take P.length=P
 par:∀x∈P,sc.names.lookup x=some .local\/sc.names.lookup x=some .cell
 EF:∀y∈sc.names,y.2≠ .free
theorem J1 {N Q:List Str}{sc:Scope}(h1:sc.kind=.function:=by rfl)(h2:sc.isCoroutine=false:=by rfl)(I:sc.isGenerator=false:=by rfl)(J:N.Nodup:=by decide +kernel)(U:N.take Q.length=Q:=by rfl)(Y:∀x∈Q,sc.names.lookup x=some .local\/sc.names.lookup x=some .cell:=by decide +kernel)(h7:∀y∈sc.names,y.2≠ .free:=by decide +kernel):fv N Q sc:=⟨h1,h2,I,J,U,Y,h7⟩
theorem zg {kindOf:Str->Option NameKind}{x:Str}:∀{binds:List (Str × Value)}{m:Str->Option Value},(∀v,(x,v) ∉ binds)->bindL kindOf binds m x=m x
 |[],_,_=>rfl
 |(n,v)::r,m,h=>by
  unfold bindL;rw[zg λw hw=>h w (Q0b _ hw)];split
  . have:x≠n:=by rintro rfl;exact h v Q05
    simp[this]
  . rfl
theorem zh {kindOf:Str->Option NameKind}{x:Str}:∀{binds:List (Str × Value)}{m:Str->Option Value},(∀v,(x,v) ∉ binds)->bindC kindOf binds m x=m x
 |[],_,_=>rfl
 |(n,v)::r,m,h=>by
  unfold bindC;rw[zh λw hw=>h w (Q0b _ hw)];split
  . rfl
  . have:x≠n:=by rintro rfl;exact h v Q05
    simp[this]
theorem zi {kindOf:Str->Option NameKind}{x:Str}{v:Value}:∀{P:List Str}{vs:List Value}{i:Nat}{m:Str->Option Value},P.Nodup->P[i]? =some x->vs[i]? =some v->kindOf x=some .local->
 bindL kindOf (P.zip vs) m x=some v
 |[],_,_,_,_,h,_,_=>by simp at h
 |_::_,[],_,_,_,_,h,_=>by simp at h
 |p::P,w::vs,0,m,I,h1,h2,J=>by
  simp at h1 h2;subst h1;subst h2;show bindL kindOf ((p,w)::P.zip vs) m p=_;unfold bindL;rw[zg λv U=>(List.nodup_cons.mp I).1 (Q1v U).1,if_pos J];simp
 |p::P,w::vs,i+1,m,I,h1,h2,J=>by
  show bindL kindOf ((p,w)::P.zip vs) m x=_;unfold bindL;exact zi (i:=i) (List.nodup_cons.mp I).2 (by simpa using h1) (by simpa using h2) J
theorem zj {kindOf:Str->Option NameKind}{x:Str}{v:Value}:∀{P:List Str}{vs:List Value}{i:Nat}{m:Str->Option Value},P.Nodup->P[i]? =some x->vs[i]? =some v->kindOf x≠some .local->
 bindC kindOf (P.zip vs) m x=some v
 |[],_,_,_,_,h,_,_=>by simp at h
 |_::_,[],_,_,_,_,h,_=>by simp at h
 |p::P,w::vs,0,m,I,h1,h2,J=>by
  simp at h1 h2;subst h1;subst h2;show bindC kindOf ((p,w)::P.zip vs) m p=_;unfold bindC;rw[zh λv U=>(List.nodup_cons.mp I).1 (Q1v U).1,if_neg J];simp
 |p::P,w::vs,i+1,m,I,h1,h2,J=>by
  show bindC kindOf ((p,w)::P.zip vs) m x=_;unfold bindC;exact zj (i:=i) (List.nodup_cons.mp I).2 (by simpa using h1) (by simpa using h2) J
noncomputable def start (N:List Str) (vs:List V):St:=vs.map some++List.replicate (N.length - vs.length) none
noncomputable def fk (CX:iI) (P:Program) (w:World) (K:W.Frag) (mg:Str->Option Value) (base:Heap) (N:List Str) (qual:Str) (scope:Scope) (f:Addr) (J:Value) (A:Around) (outer:List Env) (s:Shared) (H:Hp) (E:XK):Cx where
 prog:=P
 w:=w
 K:=K
 mg:=mg
 base:=base
 A:=A.deeper (envOfC qual scope s.heap.objs.size f J)
 N:=N
 s₀:=s
 H₀:=H
 env:=envOfC qual scope s.heap.objs.size f J
 outer:=outer
 stack:=envOfC qual scope s.heap.objs.size f J::outer
 ex:=[]
 calm:=true
 fn:=λ_=>true
 pn:=[]
 xe:=λe s'=>wpAny (model P w) (A.deeper (envOfC qual scope s.heap.objs.size f J)) (leaving (envOfC qual scope s.heap.objs.size f J) e) (λ_ I=>CX outer H s E e I) (λU I=>CX outer H s E U I) s'
theorem zk {sc:Scope}{n:Nat}{x:Str}(h:sc.names.lookup x=some .cell):∃c,(cellsFrom n sc.names []).lookup x=some c:=by
 have q:=W.cellsFrom_some sc.names n [] (.inl h);exact Option.isSome_iff_exists.mp q
theorem EG {CX:iI}{P:Program}{w:World}{K:W.Frag}{mg:Str->Option Value}{base:Heap}{N ps:List Str}{qual:Str}{scope:Scope}{f:Addr}{cd:Value}{A:Around}{outer:List Env}{s s1:Shared}{H:Hp}{E:XK}{us:List Value}{vs:List V}
 (S:fv N ps scope) (hd:A.handled=none) (I:lU P w K mg base A outer s H) (hl:vs.length=ps.length) (r:Vals vs us)
 (x:InCallC s s.heap.objs.size (bindL (envOfC qual scope s.heap.objs.size f cd).kindOf (ps.zip us) λ_=>none) (cellsFrom (s.heap.objs.size+1) scope.names []) (bindC (envOfC qual scope s.heap.objs.size f cd).kindOf (ps.zip us) λ_=>none) s1):
 Inv (fk CX P w K mg base N qual scope f cd A outer s H E) [] (start N vs) H s1:=by
 have aa:ps.length<=N.length:=by have:=congrArg List.length S.pre;rw[Q0n] at this;omega
 obtain⟨h1,tk,rfl,hk⟩:=x.done;have U:∀b:Addr,b ∉ (fk CX P w K mg base N qual scope f cd A outer s H E).ex:=λb z=>absurd (show b∈([]:List Addr) from z) (by simp)
 refine⟨⟨I.mod,S.kind,rfl,rfl,Q00 _,λy z c h1 h2=>?_,λy J=>?_,λy c _ h=>?_,λ_=>hd,Around.frames_deeper I.frames,.inr ⟨rfl,rfl⟩,λb z=>absurd z (U b),I.bs,I.iX,λb _ _=>U b,λb z=>absurd z (U b),I.iF,I.jI⟩,
  rfl,I.bare,Un.kept hk,⟨_,x.toInCall.ns,λi y v h1 h2 h3=>?_⟩,λy c h=>⟨_,x.cell y c h⟩,I.hok.fresh (Q00 _),λy c h=>?_,λp hp=>absurd (show p∈([]:List (Addr × Obj)) from hp) (by simp),I.hok.kept hk,?_⟩
 . exact name_of_addr x.apart (PySem.mem_of_lookup h1) (PySem.mem_of_lookup h2)
 . have J:scope.names.lookup y=some .cell\/scope.names.lookup y=some .free:=J;rcases J with J|J
   . exact zk J
   . exact absurd rfl (S.EF _ (PySem.mem_of_lookup J))
 . exact Q0k (x.above y c (PySem.mem_of_lookup h))
 . have hi:i<vs.length:=by
    unfold start at h2;by_cases hi:i<vs.length
    . exact hi
    . rw[Q1w (by simpa using hi)] at h2;rw[Q2h] at h2;split at h2 <;> cases h2
   have ha:vs[i]? =some v:=by
    unfold start at h2;rw[Q2i (by simpa using hi),Q0q] at h2
    cases e:vs[i]? with
    |none=>rw[e] at h2;cases h2
    |some a=>rw[e] at h2;cases h2;rfl
   obtain⟨u,hu,rv⟩:=r.get ha
   have hp:ps[i]? =some y:=by
    rw[<-S.pre,List.getElem?_take_of_lt (by omega)];exact h1
   have Y:ps.Nodup:=by rw[<-S.pre];exact S.nd.sublist (Q1x _ _)
   refine⟨u,rv,?_⟩;rcases S.par y (Q0m hp) with k|k
   . exact .inl ⟨k,zi Y hp hu k⟩
   . obtain⟨c,e⟩:=zk (n:=s.heap.objs.size+1) k;refine .inr ⟨.inl k,c,e,?_⟩;have q:=x.cell y c e;rw[zj Y hp hu (by show scope.names.lookup y≠_;rw[k];decide)] at q;exact q
 . exact I.hok.fresh (Q0k (x.above y c (PySem.mem_of_lookup h)))
 . unfold start;show _=N.length;rw[Q0d,Q04,Q1l];omega
theorem zl {CX:iI}{P:Program}{w:World}{K:W.Frag}{mg:Str->Option Value}{base:Heap}{k:Nat}{f:Addr}{name qual:Str}{Y:Arguments}{body:List Stmt}{scope:Scope}{dV kV ae pm U ct oc:Value}{an od:Option Addr}
 {ag:Array (Option Value)} {N ps:List Str} {sp:Sp} (lk:K.lookup f=some ⟨oc,od,.func (W.fnOf name qual Y body scope dV kV ae pm an U ct),ag⟩) (ah:W.codeIn K U qual=true) (S:fv N ps scope)
 (len:∀vs H Q E,sp vs H Q E->vs.length=ps.length)
 (ab:∀(A:Around) (outer:List Env) (s:Shared) (H:Hp) (vs:List V) (Q:VK) (E:XK),fY k (A.deeper (envOfC qual scope s.heap.objs.size f U))->sp vs H Q E->
   ∃t,iG (fk CX P w K mg base N qual scope f U A outer s H E) body t/\t { nx:=λ_ H'=>Q .non H',rt:=Q } (start N vs) H):
 en P w K mg base CX (k+1) f (W.fnOf name qual Y body scope dV kV ae pm an U ct) ps sp:=by
 refine⟨len,λA outer s H args us vs Q E hr e0 hb r af=>?_⟩;have hl:=len _ _ _ _ af;have KX:K.In s.heap:=e0.mod.nZ.keeps λb o e=>(e0.bs b o e).1;have ai:s.heap.NoLimit:=e0.mod.nolimit.keeps λb o e=>(e0.bs b o e).1
 have ac:∀y∈ps.zip us,scope.names.lookup y.1=some .local\/(scope.names.lookup y.1=some .cell/\((cellsFrom (s.heap.objs.size+1) scope.names []).lookup y.1).isSome=true):=λ⟨n,v⟩ hy=>by
  rcases S.par n (Q1v hy).1 with q|q
  . exact .inl q
  . exact .inr ⟨q,W.cellsFrom_some _ _ _ (.inl q)⟩
 refine codeAny_call_function hr.depth (KX _ _ lk) rfl S.co S.gen rfl (W.codeRec_of KX ah) (hb _ _ _ _ ?_);refine wpAny_newFunctionEnv_cells S.kind ac λenv he s1 x=>?_;subst he;refine⟨ai.keeps x.toInCall.keep,codeAny_func ?_⟩;obtain⟨t,ht,hq⟩:=ab A outer s H vs Q E (hr.deeper _) af;have I:Inv (fk CX P w K mg base N qual scope f U A outer s H E) [] (start N vs) H s1:=EG S hr.hd e0 hl r x;refine Q0o (ht [] s1 (start N vs) H _ I hq) (λfl s' hs=>?_) λe s' hs=>hs
 have fin:∀{aa:St} {H':Hp} {v:V} {u:Value},Inv (fk CX P w K mg base N qual scope f U A outer s H E) [] aa H' s'->RelV v u->Q v H'->CE outer P w H s Q u s':=
  λ{aa H' v u} J rv q=>⟨v,H',J.os,J.bare,J.base,J.hok,rv,q⟩
 cases fl with
 |ret u=>
  obtain⟨v,aa,H',J,rv,q⟩:=hs;exact fin J rv q
 |next=>
  obtain⟨aa,H',J,q⟩:=hs;exact fin (v:=V.non) (u:=Value.none) J rfl q
 |brk=>
  obtain⟨_,_,_,q⟩:=hs;exact False.elim q
 |cont=>
  obtain⟨_,_,_,q⟩:=hs;exact False.elim q
section
variable {X:Cx}{x:Str}{p pos:Pos}{e:Expr}{es:List Expr}{t:TA}{id T:String}{r:List V->Hp->VK->Prop}
def zm (r:List V->Hp->VK->Prop) (t:TA):TE:=λσ H Q=>t σ H λvs H1=>r vs H1 Q
theorem fM (hc:i2 X (.builtin id) r)(Y:Gl X x)(hm:X.mg x=none)(hv:bootBuiltins x=some (.builtin id))(ha:PA X (e::es) t)(hn:x≠"__name__":=by decide)(J:(x == ("__debug__":Str))=false:=by decide)
 (he:starEach (e::es) X.env=(false,eval e X.env)::starEach es X.env:=by rfl) (U:(backTo pos (starEach es X.env)).any (·.1)=false:=by rfl):PE X (.Call (.Name x p) (e::es) [] pos) (zm r t):=by
 intro pins s σ H Q I h;refine wpAny_Call_Name_kw (lD I Y hm hv ?_ hn J);exact PyProof.Rows.callWith_builtin1 (eZ (ha pos pins s σ H _ I h) λus s1 ⟨vs,H1,I1,r1,q1⟩=>hc pins s1 σ H1 vs us Q I1 r1 q1) he U
theorem mW (hc:i2 X (.type T) r)(Y:Gl X x)(hm:X.mg x=none)(hv:bootBuiltins x=some (.type T))(ha:PA X (e::es) t)(hn:x≠"__name__":=by decide)(J:(x == ("__debug__":Str))=false:=by decide)
 (he:starEach (e::es) X.env=(false,eval e X.env)::starEach es X.env:=by rfl) (U:(backTo pos (starEach es X.env)).any (·.1)=false:=by rfl):PE X (.Call (.Name x p) (e::es) [] pos) (zm r t):=by
 intro pins s σ H Q I h;refine wpAny_Call_Name_kw (lD I Y hm hv ?_ hn J);exact PyProof.Rows.callWith_type1 (eZ (ha pos pins s σ H _ I h) λus s1 ⟨vs,H1,I1,r1,q1⟩=>hc pins s1 σ H1 vs us Q I1 r1 q1) he U
end
end L2
local macro_rules|`(tactic|ac_rfl)=>`(tactic|try dsimp only[L2.fk,L2.Cx.fj])
namespace HT
open PyProof.Rows
section
open SeqAt
open PySem.AutoSeq1 (wpAny_loadPart')
open MeetsSeq MeetsSeq2 MeetsSeq3
end
section
variable {prog:Program}{w:World}{A:Around}{E:Value->Shared->Prop}{s:Shared}
theorem EH {t b:Addr}{vs ws:List Value}{Q:Value->Shared->Prop}(ht:IsTup s.heap t vs.toArray)(hb:IsTup s.heap b ws.toArray)(hv:vs≠[])
 (h1:ws=[]->Q (.ref t) s) (h2:ws≠[]->Q (.ref s.heap.objs.size) { s with heap:=s.heap.push { cls:=.type "tuple",data:=.seq (vs++ws).toArray } })
 (hsz:vs.length+ws.length<=sizeLine):wpAny (model prog w) A (binaryOp .Add (.ref t) (.ref b)) Q E s:=by
 obtain⟨⟨cls,dd,data,sl⟩,ho,hc,n,hd⟩:=id ht;obtain⟨⟨ab,J,data2,U⟩,I,Y,n2,aa⟩:=id hb;simp only at hc hd Y aa;subst hc hd Y aa;have e:vs.toArray++ws.toArray=(vs++ws).toArray:=by simp
 by_cases hw:ws=[]
 . exact concat_meets ⟨_,ho,rfl⟩ ⟨_,I,rfl⟩ noFill_tuple_add seq_tuple_add PySem.F.slot_tuple_add PySem.F.entry_tuple_add (PySem.F.args_tuple_add_2 _ _)
    (tuple_addW1 t b vs.toArray ws.toArray n n2 dd J sl U (by simpa using hv) (by simp[hw])) ⟨ho,I,h1 hw⟩
 . refine concat_meets ⟨_,ho,rfl⟩ ⟨_,I,rfl⟩ noFill_tuple_add seq_tuple_add PySem.F.slot_tuple_add PySem.F.entry_tuple_add (PySem.F.args_tuple_add_2 _ _)
    (tuple_addW2 t b vs.toArray ws.toArray n n2 dd J sl U (by simpa using hv) (by simpa using hw) (by rw[Q02,Q02];exact hsz)) ⟨ho,I,?_⟩
   rw[e];exact h2 hw
noncomputable def iJ (n d:Nat):Option Int->Nat
 |none=>d
 |some v=>if v<0 then(v+(n:Int)).toNat else min v.toNat n
end
end HT
namespace L2
open Spec PyProof.Rows
noncomputable abbrev TO:=St->Hp->(Option Int->Hp->Prop)->Prop
def PO (X:Cx) (e:Option Expr) (t:TO):Prop:=
 ∀(pins:List (Addr × Obj)) (s:Shared) (σ:St) (H:Hp) (Q:Option Int->Hp->Prop),Inv X pins σ H s->t σ H Q->
  wpAny (model X.prog X.w) X.A (evalPart e X.env) (λu s'=>∃o H',Inv X pins σ H' s'/\IsPart u o/\Q o H') X.xe s
def EI:TO:=λ_ H Q=>Q none H
def EJ (t:TE):TO:=λσ H Q=>t σ H λx H1=>∃i,x=.int i/\Q (some i) H1
section
variable {X:Cx}{e:Expr}{te:TE}{lo hi:Option Expr}{tl th:TO}{pos p2:Pos}
theorem oo:PO X none EI:=by
 intro pins s σ H Q I h;rw[evalPart_none];exact Q0c ⟨none,H,I,.none,h⟩
theorem oq (h:PE X e te):PO X (some e) (EJ te):=by
 intro pins s σ H Q I hw;rw[evalPart_some];refine eZ (h pins s σ H _ I hw) λu s1 zq=>?_;obtain⟨x,H1,J,U,Y⟩:=zq;obtain⟨i,rfl,q⟩:=Y;obtain⟨t,rfl⟩:=U;exact⟨some i,H1,J,.int i t,q⟩
def rN (X:Cx) (r:V->Option Int->Option Int->Hp->VK->Prop):Prop:=
 ∀(pins:List (Addr × Obj)) (s:Shared) (σ:St) (H:Hp) (x:V) (v I J:Value) (lo hi:Option Int) (U:Addr) (Q:VK),Inv X pins σ H s->RelV x v->s.heap.IsSliceOf U I J .none->IsPart I lo->IsPart J hi->r x lo hi H Q->
  ∃T id,typeLookup (.type T) "__getitem__"=pure (some (.builtin id))/\s.TypeIs v T/\wpAny (model X.prog X.w) X.A (getItem v (.ref U)) (EP X pins σ Q) X.xe s
def EK (r:V->Option Int->Option Int->Hp->VK->Prop) (te:TE) (tl th:TO):TE:=λσ H Q=>te σ H λx H1=>tl σ H1 λl H2=>th σ H2 λu I=>r x l u I Q
theorem ot {r:V->Option Int->Option Int->Hp->VK->Prop}(hr:rN X r)(he:PE X e te)(hl:PO X lo tl)(hu:PO X hi th):PE X (.Subscript e (.Slice lo hi none p2) pos) (EK r te tl th):=by
 intro pins s σ H Q I h;refine Subscript_ (eZ (he pins s σ H _ I h) λv s1 zq=>?_);obtain⟨x,H1,I1,r1,q1⟩:=zq;refine wpAny_Slice (eZ (hl pins s1 σ H1 _ I1 q1) λU s2 ⟨l,H2,I2,pl,q2⟩=>eZ (hu pins s2 σ H2 _ I2 q2) λY J zq=>?_);obtain⟨u,H3,I3,pu,q3⟩:=zq;rw[evalPart_none];refine Q0c ?_;have I4:Inv X pins σ H3 { J with heap:=J.heap.push { cls:=.type "slice",data:=.fields #[U,Y,.none] } }:=I3.kept (t':=J.toks) λb ob q=>Q09 _ q;obtain⟨T,id,hT,ht,hg⟩:=hr pins { J with heap:=J.heap.push { cls:=.type "slice",data:=.fields #[U,Y,.none] } } σ H3 x v U Y l u J.heap.objs.size Q I4 r1 (Heap.IsSliceOf.new ..) pl pu q3;show wpAny (model X.prog X.w) X.A (subscriptTail e (.Slice lo hi none p2) v (.ref J.heap.objs.size)) (EP X pins σ Q) X.xe { J with heap:=J.heap.push { cls:=.type "slice",data:=.fields #[U,Y,.none] } };exact tail_any (ops:=[.ref J.heap.objs.size,v]) ht hT hg (by with_unfolding_all rfl)
noncomputable def mY (xs:List V) (lo hi:Option Int):List V:=(xs.drop (HT.iJ xs.length 0 lo)).take (HT.iJ xs.length xs.length hi - HT.iJ xs.length 0 lo)
theorem zo (xs:List V)(lo hi:Option Int):(mY xs lo hi).length<=xs.length:=by
 unfold mY;rw[Q0n,List.length_drop];omega
def EL (K:W.Frag):R2:=λx y H Q=>∃a b xs ys,x=.ref a/\y=.ref b/\d_ K H a xs/\d_ K H b ys/\xs≠[]/\xs.length+ys.length<=sizeLine/\
 (ys=[]->Q (.ref a) H)/\(ys≠[]->∀p,H p=none->Q (.ref p) (upd H p (.tup (xs++ys))))
theorem Vals.pX {xs:List V}{us:List Value}(r:Vals xs us):us=[]↔xs=[]:=by
 cases r with
 |nil=>simp
 |cons _ _=>simp
theorem EM:gn X (binaryOp .Add) (EL X.K):=by
 intro pins s σ H x y v u Q I rx ry h;obtain⟨a,b,xs,ys,rfl,rfl,ha,hb,hx,Y,q1,q2⟩:=h
 cases rx
 cases ry;obtain⟨ab,U,p1,_⟩:=I.tuple ha;obtain⟨aa,J,p2,_⟩:=I.tuple hb;refine HT.EH p1 p2 (λz=>hx (U.pX.mp z)) (λz=>⟨.ref a,H,I,rfl,q1 (J.pX.mp z)⟩) (λz=>?_) (by rw[<-U.length,<-J.length];exact Y);refine⟨.ref s.heap.objs.size,_,I.laid (t':=s.toks) (o:=.tup (xs++ys)) (λb ob q=>Q09 _ q) (Q00 _) ?_,rfl,q2 (λw=>z (J.pX.mpr w)) _ (I.hok.fresh (Q00 _))⟩;exact⟨by rw[Q0d];exact Y,_,U.append J,IsTup.new _ _⟩
end
noncomputable def jx (n:Nat) (i:Int):Option Nat:=if 0<=i then(if i<n then some i.toNat else none) else if -(n:Int)<=i then some (i+n).toNat else none
noncomputable def gv {α:Type}(xs:List α) (i:Int):Option α:=(jx xs.length i).bind λj=>xs[j]?
theorem zp {n:Nat}{i:Int}{j:Nat}(h:jx n i=some j):seqIndex? i n=some j/\j<n/\ -(n:Int)<=i/\i<n:=by
 unfold jx at h;by_cases I:0<=i
 . rw[if_pos I] at h;by_cases h1:i<n
   . rw[if_pos h1] at h;have e:i.toNat=j:=Option.some.inj h;exact⟨by rw[seqIndex_of I h1,e],by omega,by omega,h1⟩
   . rw[if_neg h1] at h;cases h
 . rw[if_neg I] at h;by_cases h1: -(n:Int)<=i
   . rw[if_pos h1] at h;have e:(i+n).toNat=j:=Option.some.inj h;exact⟨by rw[seqIndex_neg (by omega) h1,e],by omega,h1,by omega⟩
   . rw[if_neg h1] at h;cases h
theorem rO {α:Type}{xs:List α}{i:Int}{v:α}(h:gv xs i=some v):∃j,seqIndex? i xs.length=some j/\xs[j]? =some v/\j<xs.length/\ -(xs.length:Int)<=i/\i<xs.length:=by
 unfold gv at h
 cases e:jx xs.length i with
 |none=>rw[e] at h;cases h
 |some j=>
  rw[e] at h;obtain⟨h1,h2,I,J⟩:=zp e;exact⟨j,h1,h,h2,I,J⟩
theorem gz {α:Type}{xs:List α}{j:Nat}{v:α}(h:xs[j]? =some v):gv xs (j:Int)=some v:=by
 have I:j<xs.length:=(List.getElem?_eq_some_iff.mp h).1
 have e:jx xs.length (j:Int)=some j:=by
  unfold jx;rw[if_pos (by omega),if_pos (by omega)];simp
 unfold gv;rw[e];exact h
def rP (b:Expr):Prop:=∀o i,subscripted b false o i=operate [o,i] (getItem o i)
def pY (X:Cx) (r:R2):Prop:=
 ∀(value I:Expr) (pins:List (Addr × Obj)) (s:Shared) (σ:St) (H:Hp) (x y:V) (v u:Value) (Q:VK),Inv X pins σ H s->RelV x v->RelV y u->r x y H Q->
  subscripted I false v u=operate [v,u] (getItem v u)->wpAny (model X.prog X.w) X.A (subscriptTail value I v u) (EP X pins σ Q) X.xe s
def zq (X:Cx) (id:String) (r:V->List V->Hp->VK->Prop):Prop:=
 ∀(pins:List (Addr × Obj)) (s:Shared) (σ:St) (H:Hp) (x:V) (xs:List V) (v:Value) (us:List Value) (Q:VK),Inv X pins σ H s->RelV x v->Vals xs us->r x xs H Q->
  wpAny (model X.prog X.w) X.A (call (.builtin id) (v::us)) (EP X pins σ Q) X.xe s
section
variable {X:Cx}{a b:Expr}{ta tb:TE}{pos:Pos}
theorem kI {r:R2}(J:pY X r)(U:PE X a ta)(Y:PE X b tb)(hs:rP b):PE X (.Subscript a b pos) (gT r ta tb):=by
 intro pins s σ H Q I h;exact Subscript_ (rE U Y I h λv u s2 x y H2 I2 rx ry q=>J a b pins s2 σ H2 x y v u Q I2 rx ry q (hs _ _))
def zr (K:W.Frag):R2:=λx y H Q=>∃p xs i v,x=.ref p/\y=.int i/\eB K H p xs/\gv xs i=some v/\Q v H
def i3 (K:W.Frag):R2:=λx y H Q=>∃p xs i v,x=.ref p/\y=.int i/\d_ K H p xs/\gv xs i=some v/\Q v H
def EN:R2:=λx y H Q=>∃z i c,x=.str z/\y=.int i/\z.length<=sizeLine/\gv z.cps.toList i=some c/\Q (.str ⟨#[c]⟩) H
theorem EO:pY X (zr X.K):=by
 intro value aa pins s σ H x y v u Q I rx ry h hs;obtain⟨p,xs,i,z,rfl,rfl,hq,he,q⟩:=h
 cases rx;obtain⟨t,rfl⟩:=ry;obtain⟨U,r,pl,hz⟩:=I.list hq;obtain⟨j,h1,h2,h3,h4,h5⟩:=rO he;obtain⟨w,ew,Y⟩:=r.get h2;have hl:=r.length;have hn:=mV;have fin:EP X pins σ Q w s:=⟨z,H,I,Y,q⟩;by_cases h0:0<=i
 . have J:i.toNat=j:=by
    rw[seqIndex_of h0 h5] at h1;exact Option.some.inj h1
   exact item_listR pl.isList h0 (by omega) (by rw[J];simpa using ew) fin hs
 . have J:(i+(U.toArray.size:Int)).toNat=j:=by
    rw[seqIndex_neg (by omega) h4] at h1;rw[Q02,<-hl];exact Option.some.inj h1
   exact subscriptTail_builtinR (x:=w) pl.isList.typeIs slot_list_getitem.lookup
    (wpAny_getItem_list_neg (Q:=λr s'=>r=w/\EP X pins σ Q r s') pl.isList (by omega) (by rw[Q02] <;> omega) (by omega) (by rw[J];simpa using ew) ⟨rfl,fin⟩) hs
theorem ER:pY X (i3 X.K):=by
 intro value U pins s σ H x y v u Q I Y ry h hs;obtain⟨p,xs,i,z,rfl,rfl,hq,he,q⟩:=h
 cases Y;obtain⟨t,rfl⟩:=ry;obtain⟨aa,r,pl,hz⟩:=I.tuple hq;obtain⟨j,h1,h2,h3,h4,h5⟩:=rO he;obtain⟨w,ew,J⟩:=r.get h2;have hl:=r.length;have hn:=mV;have fin:EP X pins σ Q w s:=⟨z,H,I,J,q⟩
 exact subscriptTail_builtinR (x:=w) pl.typeIs slot_tuple_getitem.lookup
  (getItem_tuple (j:=j) (Q:=λr s'=>r=w/\EP X pins σ Q r s') pl (by omega) (by omega) (by rw[Q02,<-hl];exact h1) (by simpa using ew) ⟨rfl,fin⟩) hs
theorem mZ:pY X EN:=by
 intro value J pins s σ H x y v u Q I U Y h hs;obtain⟨z,i,c,rfl,rfl,hz,he,q⟩:=h;obtain⟨t,rfl⟩:=U;obtain⟨t',rfl⟩:=Y;obtain⟨j,h1,h2,h3,h4,h5⟩:=rO he;have hl:z.cps.toList.length=z.length:=by simp[Str.length]
 rw[hl] at h1 h4 h5;have hn:=mV
 exact tail_any (typeIs_str s z t) slot_str_getitem.lookup (getItem_str (c:=c) (by
  have e1:decide (i< -(2 ^ 63:Int))=false:=decide_eq_false (by omega);have e2:decide (i ≥ 2 ^ 63)=false:=decide_eq_false (by omega);rw[e1,e2,Bool.or_false]) (by rw[h1];simpa using h2) ⟨.str ⟨#[c]⟩,H,I.tok _,⟨_,rfl⟩,q⟩) hs
theorem ES (I:List Value)(n j:Nat)(u:Value):Obj.mapSeq (·.setIfInBounds j u) { cls:=.type "list",data:=.seq I.toArray n }={ cls:=.type "list",data:=.seq (I.set j u).toArray n }:=by
 simp[Obj.mapSeq]
theorem Inv.lst {pins:List (Addr × Obj)}{σ:St}{H:Hp}{s:Shared}{p:Addr}{xs:List V}(I:Inv X pins σ H s)(h:H p=some (.lst xs)):
 ∃(J:List Value) (n:Nat),Vals xs J/\s.heap.get? p=some { cls:=.type "list",data:=.seq J.toArray n }/\xs.length<=sizeLine:=by
 obtain⟨z,J,n,r,e⟩:=I.hok p _ h;exact⟨J,n,r,e,z⟩
theorem Inv.ET {pins:List (Addr × Obj)}{σ:St}{H:Hp}{s:Shared}{p:Addr}{xs ys:List V}{J its':List Value}{n n':Nat}{f:Obj->Obj}(I:Inv X pins σ H s)(h:H p=some (.lst xs))
 (Y:s.heap.get? p=some { cls:=.type "list",data:=.seq J.toArray n }) (U:f { cls:=.type "list",data:=.seq J.toArray n }={ cls:=.type "list",data:=.seq its'.toArray n' }) (r:Vals ys its') (hz:ys.length<=sizeLine) (t:Nat):
 Inv X pins σ (upd H p (.lst ys)) { s with heap:=s.heap.update p f,toks:=t }:=by
 have e:(s.heap.update p f).get? p=some { cls:=.type "list",data:=.seq its'.toArray n' }:=by
  rw[Q1m f Y (by rw[U] <;> rfl),U]
 refine I.write (x:=p) (e:=p) (by rw[h];trivial) (.inl rfl) (λb u hb q=>(Q10 _ _ (Ne.symm hb)).trans q) ⟨_,e⟩ ?_;exact⟨hz,its',n',r,e⟩
def EU:V->V->V->Hp->(Hp->Prop)->Prop:=λo i v H Q=>∃p xs k j,o=.ref p/\i=.int k/\H p=some (.lst xs)/\jx xs.length k=some j/\Q (upd H p (.lst (xs.set j v)))
theorem set_list:yU X EU:=by
 intro pins s σ H o i v ov iv u Q I ro ri rv h;obtain⟨p,xs,k,j,rfl,rfl,hp,hj,q⟩:=h
 cases ro;obtain⟨t,rfl⟩:=ri;obtain⟨J,n,r,U,hz⟩:=I.lst hp;obtain⟨h1,h2,h3,h4⟩:=zp hj;have hl:=r.length;have hn:=mV
 have I':Inv X pins σ (upd H p (.lst (xs.set j v))) { s with heap:=s.heap.update p (Obj.mapSeq (·.setIfInBounds j u)) }:=
  I.ET hp U (ES J n j u) (r.set rv j) (by rw[List.length_set];exact hz) s.toks
 by_cases h0:0<=k
 . have Y:k.toNat=j:=by
    rw[seqIndex_of h0 h4] at h1;exact Option.some.inj h1
   exact W.ki_setAt U h0 (by omega) (by rw[Q02,<-hl];exact h4) (by rw[Y];exact⟨_,I',q⟩)
 . have Y:(k+(J.toArray.size:Int)).toNat=j:=by
    rw[seqIndex_neg (by omega) h3] at h1;rw[Q02,<-hl];exact Option.some.inj h1
   exact W.ki_setBack U (by omega) (by rw[Q02,<-hl];exact h3) (by omega) (by rw[Y];exact⟨_,I',q⟩)
theorem EV (lo hi:Option Int)(n:Nat):(sliceBounds lo hi none n).1=((HT.iJ n 0 lo:Nat):Int)/\(sliceBounds lo hi none n).2.1=((HT.iJ n n hi:Nat):Int)/\(sliceBounds lo hi none n).2.2=1:=by
 refine⟨?_,?_,rfl⟩
 . cases lo with
   |none=>simp[sliceBounds,HT.iJ]
   |some i=>
    simp only[sliceBounds,HT.iJ,Q2j,show(1:Int) > 0 by decide,if_true];by_cases h:i<0
    . simp only[h,if_true] <;> omega
    . simp only[h,if_false] <;> omega
 . cases hi with
   |none=>simp[sliceBounds,HT.iJ]
   |some i=>
    simp only[sliceBounds,HT.iJ,Q2j,show(1:Int) > 0 by decide,if_true];by_cases h:i<0
    . simp only[h,if_true] <;> omega
    . simp only[h,if_false] <;> omega
theorem EW (I:List Value)(lo hi:Option Int):slicePick I.toArray lo hi none=((I.drop (HT.iJ I.length 0 lo)).take (HT.iJ I.length I.length hi - HT.iJ I.length 0 lo)).toArray:=by
 obtain⟨h1,h2,J⟩:=EV lo hi I.toArray.size;unfold slicePick;rw[h1,h2,J];simp only[sliceRange_one,pick_run,Q02] <;> rfl
def EX (K:W.Frag):V->Option Int->Option Int->Hp->VK->Prop:=λx lo hi H Q=>∃a xs,x=.ref a/\eB K H a xs/\∀p,H p=none->Q (.ref p) (upd H p (.lst (mY xs lo hi)))
theorem EY:rN X (EX X.K):=by
 intro pins s σ H x v vl vu lo hi sl Q I U Y pl pu h;obtain⟨a,xs,rfl,hx,q⟩:=h
 cases U;obtain⟨aa,r,ht,hz⟩:=I.list hx;have J:=r.length;refine⟨"list",_,slot_list_getitem.lookup,ht.isList.typeIs,?_⟩;refine wpAny_getItem_list_slice ht.isList Y pl pu .none (by simp) ?_ (by rw[Q02] <;> omega);rw[EW,<-J];refine⟨.ref s.heap.objs.size,_,I.laid (t':=s.toks) (o:=.lst (mY xs lo hi)) (λb ob q=>Q09 _ q) (Q00 _) ?_,rfl,q _ (I.hok.fresh (Q00 _))⟩;exact⟨Q0f (zo xs lo hi) hz,_,0,(r.drop (HT.iJ xs.length 0 lo)).take (HT.iJ xs.length xs.length hi - HT.iJ xs.length 0 lo),Q0l _ rfl⟩
noncomputable def jM:V->Bool
 | .non=>true
 | .bl _=>true
 | .int _=>true
 | .str _=>true
 |_=>false
noncomputable def j5:V->V->Bool
 | .non,.non=>true
 | .bl a,.bl b=>a == b
 | .bl a,.int b=>(if a then 1 else 0) == b
 | .int a,.bl b=>a == (if b then 1 else 0)
 | .int a,.int b=>a == b
 | .str a,.str b=>a == b
 |_,_=>false
theorem EZ {A:Around}{s:Shared}{y x:V}{u v:Value}(J:RelV y u)(I:RelV x v)(Y:jM y=true)(U:jM x=true):SeqAt.EqAt A s u v (j5 y x):=by
 cases y with
 |non=>
  cases J
  cases x with
  |non=>cases I;exact SeqAt.EqAt.same _
  |bl b=>cases I;exact SeqAt.EqAt.none_bool b
  |int b=>obtain⟨t,rfl⟩:=I;exact SeqAt.EqAt.none_int b t
  |str b=>obtain⟨t,rfl⟩:=I;exact SeqAt.EqAt.none_str b t
  |_=>exact absurd (show false=true from U) Bool.false_ne_true
 |bl a=>
  cases J
  cases x with
  |non=>cases I;exact SeqAt.EqAt.bool_none a
  |bl b=>cases I;exact SeqAt.EqAt.bool_bool a b
  |int b=>obtain⟨t,rfl⟩:=I;exact SeqAt.EqAt.bool_int a b t
  |str b=>obtain⟨t,rfl⟩:=I;exact SeqAt.EqAt.bool_str a b t
  |_=>exact absurd (show false=true from U) Bool.false_ne_true
 |int a=>
  obtain⟨t',rfl⟩:=J
  cases x with
  |non=>cases I;exact SeqAt.EqAt.int_none a t'
  |bl b=>cases I;exact SeqAt.EqAt.int_bool a t' b
  |int b=>obtain⟨t,rfl⟩:=I;exact SeqAt.EqAt.int_int a t' b t
  |str b=>obtain⟨t,rfl⟩:=I;exact SeqAt.EqAt.int_str a t' b t
  |_=>exact absurd (show false=true from U) Bool.false_ne_true
 |str a=>
  obtain⟨t',rfl⟩:=J
  cases x with
  |non=>cases I;exact SeqAt.EqAt.str_none a t'
  |bl b=>cases I;exact SeqAt.EqAt.str_bool a t' b
  |int b=>obtain⟨t,rfl⟩:=I;exact SeqAt.EqAt.str_int a t' b t
  |str b=>obtain⟨t,rfl⟩:=I;exact SeqAt.EqAt.str_str a t' b t
  |_=>exact absurd (show false=true from U) Bool.false_ne_true
 |_=>exact absurd (show false=true from Y) Bool.false_ne_true
noncomputable def j6 (x:V) (u:Value):Bool:=match u with
 | .none=>j5 .non x
 | .bool b=>j5 (.bl b) x
 | .int i _=>j5 (.int i) x
 | .str z _=>j5 (.str z) x
 |_=>false
theorem zt {x y:V}{u:Value}(r:RelV y u)(f:jM y=true):j6 x u=j5 y x:=by
 cases y with
 |non=>cases r;rfl
 |bl b=>cases r;rfl
 |int i=>obtain⟨t,rfl⟩:=r;rfl
 |str z=>obtain⟨t,rfl⟩:=r;rfl
 |_=>exact absurd (show false=true from f) Bool.false_ne_true
theorem rQ {x:V}:∀{xs:List V}{us:List Value},Vals xs us->xs.all jM=true->us.any (j6 x)=xs.any λy=>j5 y x
 |_,_,.nil,_=>rfl
 |y::xs,u::us,.cons r t,f=>by
  rw[Q2k,Bool.and_eq_true] at f;rw[Q1a,Q1a,zt r f.1,rQ t f.2]
theorem rR {A:Around}{s:Shared}{x:V}{v:Value}(J:RelV x v)(U:jM x=true):∀{xs:List V}{us:List Value},Vals xs us->xs.all jM=true->∀u∈us,SeqAt.EqAt A s u v (j6 x u)
 |_,_,.nil,_=>λu I=>by cases I
 |y::xs,u::us,.cons r t,f=>λY I=>by
  rw[Q2k,Bool.and_eq_true] at f;rcases List.mem_cons.mp I with rfl|I
  . rw[zt r f.1];exact EZ r J f.1 U
  . exact rR J U t f.2 Y I
noncomputable def inV (x:V) (xs:List V):Bool:=xs.any λy=>j5 y x
def zu (K:W.Frag) (neg:Bool):R2:=λx y H Q=>∃p xs,y=.ref p/\(eB K H p xs\/d_ K H p xs)/\jM x=true/\xs.all jM=true/\Q (.bl (if neg then !inV x xs else inV x xs)) H
theorem zv:gn X (compareOp .NotIn) (zu X.K true):=by
 intro pins s σ H x y v u Q I Y ry h;obtain⟨p,xs,rfl,U,fx,fs,q⟩:=h
 cases ry;rcases U with U|U
 . obtain⟨J,r,pl,hz⟩:=I.list U;refine SeqAt.notIn_listAt (j6 x) pl.isList (λw hw=>rR Y fx r fs w (by simpa using hw)) ⟨.bl _,H,I,rfl,?_⟩;rw[show J.toArray.any (j6 x)=J.any (j6 x) by simp,rQ r fs];exact q
 . obtain⟨J,r,pl,hz⟩:=I.tuple U;refine SeqAt.notIn_tupleAt (j6 x) pl (λw hw=>rR Y fx r fs w (by simpa using hw)) ⟨.bl _,H,I,rfl,?_⟩;rw[show J.toArray.any (j6 x)=J.any (j6 x) by simp,rQ r fs];exact q
theorem gY:i2 X (.builtin "len") (λxs H Q=>∃p ys,xs=[.ref p]/\(eB X.K H p ys\/d_ X.K H p ys)/\Q (.int ys.length) H):=by
 intro pins s σ H xs us Q I r h;obtain⟨p,ys,rfl,U,q⟩:=h;obtain⟨u,rfl,rx⟩:=vals1 r
 cases rx;have hn:=mV;rcases U with U|U
 . obtain⟨aa,Y,pl,hz⟩:=I.list U;have J:=Y.length;exact Calls.call_len_list pl.isList (by simp only[Q02] <;> omega) ⟨.int ys.length,H,I.tok _,⟨s.toks+1,by rw[Q02,J]⟩,q⟩
 . obtain⟨aa,Y,pl,hz⟩:=I.tuple U;have J:=Y.length;exact len_tuple pl (by simp only[Q02] <;> omega) ⟨.int ys.length,H,I.tok _,⟨s.toks+1,by rw[Q02,J]⟩,q⟩
theorem zw:i2 X (.builtin "len") (λxs H Q=>∃z,xs=[.str z]/\z.length<=sizeLine/\Q (.int z.length) H):=by
 intro pins s σ H xs us Q I r h;obtain⟨z,rfl,J,q⟩:=h;obtain⟨u,rfl,t,rfl⟩:=vals1 r;have U:=mV;exact len_str (by omega) ⟨.int z.length,H,I.tok _,⟨_,rfl⟩,q⟩
theorem zx:i2 X (.type "list") (λxs H Q=>∃p ys,xs=[.ref p]/\(eB X.K H p ys\/d_ X.K H p ys)/\∀l,H l=none->Q (.ref l) (upd H l (.lst ys))):=by
 intro pins s σ H xs us Q I r h;obtain⟨p,ys,rfl,Y,q⟩:=h;obtain⟨u,rfl,rx⟩:=vals1 r
 cases rx
 have fin:∀(J:List Value),Vals ys J->ys.length<=sizeLine->∀(h':Heap) (c':Nat),(∀b o',s.heap.get? b=some o'->h'.get? b=some o')->
  h'.get? s.heap.objs.size=some { cls:=.type "list",dict:=none,data:=.seq J.toArray c',slots:=#[] }->EP X pins σ Q (.ref s.heap.objs.size) { s with heap:=h' }:=λJ U hz h' c' kp e=>
  ⟨.ref s.heap.objs.size,_,I.laid (t':=s.toks) kp (Q00 _) (show gB X.prog X.w _ h' _ (.lst ys) from⟨hz,J,c',U,e⟩),rfl,q _ (I.hok.fresh (Q00 _))⟩
 rcases Y with Y|Y
 . obtain⟨J,U,pl,hz⟩:=I.list Y;have aa:=U.length;obtain⟨o,ho,hc,n,hd⟩:=pl.isList;exact call_list_seq p (.inl rfl) ho hc hd (λh' c' kp e=>fin J U hz h' c' kp e) (by simp only[Q02] <;> omega)
 . obtain⟨J,U,pl,hz⟩:=I.tuple Y;have aa:=U.length;obtain⟨o,ho,hc,n,hd⟩:=pl;exact call_list_seq p (.inr rfl) ho hc hd (λh' c' kp e=>fin J U hz h' c' kp e) (by simp only[Q02] <;> omega)
theorem zy:i2 X (.type "tuple") (λxs H Q=>∃p ys,xs=[.ref p]/\((eB X.K H p ys/\∀l,H l=none->Q (.ref l) (upd H l (.tup ys)))\/(d_ X.K H p ys/\Q (.ref p) H))):=by
 intro pins s σ H xs us Q I r h;obtain⟨p,ys,rfl,h⟩:=h;obtain⟨u,rfl,rx⟩:=vals1 r
 cases rx;rcases h with⟨U,q⟩|⟨U,q⟩
 . obtain⟨J,Y,pl,hz⟩:=I.list U;have aa:=Y.length;refine call_tuple_list pl.isList (λh' kp=>?_) (by simp only[Q02] <;> omega);have I1:Inv X pins σ H { s with heap:=h' }:=I.kept (t':=s.toks) kp
   have I2:Inv X pins σ (upd H h'.objs.size (.tup ys)) { s with heap:=h'.push { cls:=.type "tuple",data:=.seq J.toArray } }:=
    I1.laid (t':=s.toks) (λb o e=>Q09 _ e) (Q00 _) (show gB X.prog X.w _ _ _ (.tup ys) from⟨hz,J,Y,IsTup.new _ _⟩)
   exact⟨.ref h'.objs.size,_,I2,rfl,q _ (I1.hok.fresh (Q00 _))⟩
 . obtain⟨J,Y,pl,hz⟩:=I.tuple U;exact call_tuple_same pl ⟨.ref p,H,I,rfl,q⟩
def zA (K:W.Frag) (T:String) (x:V) (H:Hp):Prop:=match x with
 | .str _=>T="str"
 | .int _=>T="int"
 | .ref p=>(T="list"/\∃xs,eB K H p xs)\/(T="tuple"/\∃o,K.lookup p=some o/\o.cls=.type "tuple"/\o.dict=none)\/
    (T="dict"/\((∃kvs,H p=some (.dK kvs))\/∃kvs,H p=some (.dT kvs)))\/(T="set"/\∃S n,H p=some (.set S n))
 |_=>False
theorem E1 {pins:List (Addr × Obj)}{σ:St}{H:Hp}{s:Shared}{T:String}{x:V}{v:Value}(I:Inv X pins σ H s)(r:RelV x v)(ty:zA X.K T x H):
 s.TypeIs v T/\∀a,v=.ref a->∃Y,s.heap.get? a=some Y/\Y.dict=none:=by
 cases x with
 |str z=>
  obtain⟨t,rfl⟩:=r
  cases(show T="str" from ty);exact⟨typeIs_str s z t,λ_ e=>nomatch e⟩
 |int i=>
  obtain⟨t,rfl⟩:=r
  cases(show T="int" from ty);exact⟨typeIs_int s i t,λ_ e=>nomatch e⟩
 |ref p=>
  cases r;rcases ty with⟨rfl,xs,hq⟩|⟨rfl,o,J,hc,hd⟩|⟨rfl,J⟩|⟨rfl,S,n,J⟩
  . obtain⟨aa,_,pl,_⟩:=I.list hq;refine⟨pl.isList.typeIs,λa e=>?_⟩
    cases e;obtain⟨o,n,e,c,hd,_⟩:=pl;exact⟨o,e,hd⟩
  . refine⟨⟨o,I.gR p o J,hc⟩,λa e=>?_⟩
    cases e;exact⟨o,I.gR _ o J,hd⟩
  . have z:∃o,s.heap.get? p=some o/\o.ExactDict:=by
     rcases J with⟨kvs,J⟩|⟨kvs,J⟩
     . obtain⟨_,_,_,_,o,_,_,e,ex,_⟩:=I.hok p _ J;exact⟨o,e,ex⟩
     . obtain⟨_,_,_,_,o,_,_,e,ex,_⟩:=I.hok p _ J;exact⟨o,e,ex⟩
    obtain⟨o,e,ex⟩:=z;refine⟨⟨o,e,ex.1⟩,λa U=>?_⟩
    cases U;exact⟨o,e,ex.2.1⟩
  . obtain⟨o,_,_,_,e,ex,_⟩:=I.hok p _ J;refine⟨⟨o,e,ex.1⟩,λa U=>?_⟩
    cases U;exact⟨o,e,ex.2.1⟩
 |_=>exact False.elim ty
def E2 (K:W.Frag) (T:String) (r:V->List V->Hp->VK->Prop) (to:TE) (t:TA):TE:=λσ H Q=>to σ H λx H1=>zA K T x H1/\t σ H1 λxs H2=>r x xs H2 Q
variable {o e:Expr}{es:List Expr}{to:TE}{t:TA}{name:Str}{apos cpos:Pos}{T id:String}{r:V->List V->Hp->VK->Prop}
theorem lV (pa:PlainAttrs T)(slot:Slot T name id)(ac:typeOf (.builtin id)=pure (.type "method_descriptor"))(hm:zq X id r)(ho:PE X o to)(ha:PA X (e::es) t)
 (U:attributeBase o name X.env (eval o X.env)=eval o X.env:=by rfl)
 (ab:((backTo cpos (starEach (e::es) X.env)).all (λx=> !x.1) && (backToKw cpos (keywordEach [] X.env)).all (λx=>x.1.isSome)
   && decide ((e::es).length+([]:List Keyword).length+(if([]:List Keyword).isEmpty then 0 else 1)<30))=true:=by rfl)
 (Y:(apos.endLine == cpos.line)=true:=by rfl) (hs:starEach (e::es) X.env=(false,eval e X.env)::starEach es X.env:=by rfl) (J:(backTo cpos (starEach es X.env)).any (·.1)=false:=by rfl):
 PE X (.Call (.Attribute o name apos) (e::es) [] cpos) (E2 X.K T r to t):=by
 intro pins s σ H Q I h;refine wpAny_Call_method_late U ab Y rfl (eZ (ho pins s σ H _ I h) λv s1 zq=>?_);obtain⟨x,H1,I1,r1,ty,q1⟩:=zq;obtain⟨h1,h2⟩:=E1 I1 r1 ty;refine⟨T,id,pa,slot,ac,h1,h2,?_⟩;have hA:=ha cpos pins s1 σ H1 _ I1 q1;rw[hs] at hA ⊢;refine Calls.callWith_builtin (by show(false || (backTo cpos (starEach es X.env)).any (·.1))=false;rw[J] <;> rfl) (Calls.evalArgs_plain ?_);exact eZ hA λus s2 ⟨vs,H2,I2,r2,q2⟩=>hm pins s2 σ H2 x vs v us Q I2 r1 r2 q2
/- xs.append(e),list.index on a aa tuple .. af zq ae of 06m -/
end
def E3 (X:Cx) (id:String) (r:V->List V->Hp->VK->Prop):Prop:=
 ∀(pins:List (Addr × Obj)) (s:Shared) (σ:St) (H:Hp) (x:V) (xs:List V) (v:Value) (us:List Value) (Q:VK),Inv X pins σ H s->RelV x v->Vals xs us->r x xs H Q->
  wpAny (model X.prog X.w) X.A (call (.builtin id) (v::us)) (EP X pins σ Q) X.xe s
theorem Vals.one:∀{x:V}{us:List Value},Vals [x] us->∃u,us=[u]/\RelV x u
 |_,_,.cons r .nil=>(Zr rfl r)
section
variable {X:Cx}{pins:List (Addr × Obj)}{σ:St}{H:Hp}{s:Shared}{l b:Addr}{xs ys zs:List V}
theorem Inv.E4 {J its':List Value}{n:Nat}{f:Array Value->Array Value}{t':Nat}(I:Inv X pins σ H s)(U:H l=some (.lst xs))
 (e:s.heap.get? l=some { cls:=.type "list",data:=.seq J.toArray n }) (Y:f J.toArray=its'.toArray) (hv:Vals ys its') (hz:ys.length<=sizeLine):
 Inv X pins σ (upd H l (.lst ys)) { s with heap:=s.heap.update l (Obj.mapSeq f),toks:=t' }:=by
 have q:=PySem.IsL.update e f;rw[Y] at q;refine I.write (x:=l) (e:=l) (by rw[U];exact trivial) (.inl rfl) (λb' u hb hu=>(Q10 s.heap (Obj.mapSeq f) (Ne.symm hb)).trans hu) ⟨_,q⟩ ?_;exact⟨hz,its',_,hv,q⟩
theorem Inv.E5 {J:List Value}{t':Nat}(I:Inv X pins σ H s)(U:Vals ys J)(Y:ys.length<=sizeLine):
 Inv X pins σ (upd H s.heap.objs.size (.lst ys)) { s with heap:=s.heap.push { cls:=.type "list",data:=.seq J.toArray },toks:=t' }:=
 I.laid (λ_ _ q=>Q09 _ q) (Q00 _) ⟨Y,J,0,U,Q0l _ rfl⟩
theorem Inv.fresh (I:Inv X pins σ H s):H s.heap.objs.size=none:=I.hok.fresh (Q00 _)
theorem Inv.rS (I:Inv X pins σ H s)(U:H l=some (.lst xs)):xs.length<=sizeLine/\∃(J:List Value) (n:Nat),Vals xs J/\xs.length=J.length/\s.heap.get? l=some { cls:=.type "list",data:=.seq J.toArray n }:=by
 obtain⟨z,J,n,r,e⟩:=I.hok l _ U;exact⟨z,J,n,r,r.length,e⟩
end
section
variable {X:Cx}
def E6:V->List V->Hp->VK->Prop:=λx vs H Q=>∃l xs y,x=.ref l/\vs=[y]/\H l=some (.lst xs)/\xs.length<sizeLine/\Q .non (upd H l (.lst (xs++[y])))
theorem lW:E3 X "list.append" E6:=by
 intro pins s σ H x vs v us Q I Y rv h;obtain⟨l,xs,y,rfl,rfl,U,hz,q⟩:=h
 cases Y;obtain⟨u,rfl,ru⟩:=rv.one;obtain⟨z,J,n,r,hl,e⟩:=I.rS U;refine call_meets F.slot_list_append ⟨_,e,rfl⟩ F.entry_list_append (F.args_list_append_2 _ _) (PySem.list_append l J.toArray n u (by rw[Q02];omega)) ⟨e,?_⟩;refine⟨.non,_,I.E4 (its':=J++[u]) U e (by simp) (r.append (.cons ru .nil)) ?_,rfl,q⟩;rw[Q0d,Q1n];omega
def E7:R2:=λx y H Q=>∃l b xs zs,x=.ref l/\y=.ref b/\H l=some (.lst xs)/\H b=some (.lst zs)/\xs.length+zs.length<=sizeLine/\∀p,H p=none->Q (.ref p) (upd H p (.lst (xs++zs)))
theorem jN:gn X (binaryOp .Add) E7:=by
 intro pins s σ H x y v u Q I Y ry h;obtain⟨l,b,xs,zs,rfl,rfl,hH,hB,hz,q⟩:=h
 cases Y
 cases ry;obtain⟨z,U,n,r,hl,e⟩:=I.rS hH;obtain⟨z2,J,n2,r2,aa,e2⟩:=I.rS hB;refine PySem.P.add_list e e2 ?_ (by rw[Q02,Q02];omega);have ea:U.toArray++J.toArray=(U++J).toArray:=by simp
 rw[ea];exact⟨.ref _,_,I.E5 (t':=s.toks) (r.append r2) (by rw[Q0d];omega),rfl,q _ I.fresh⟩
end
section
variable {prog:Program}{w:World}{A:Around}{E:Value->Shared->Prop}{s:Shared}
end
section
variable {X:Cx}
end
section
variable {κ:Type} [DecidableEq κ]
noncomputable def gD (kvs:List (κ × V)) (k:κ):Option V:=(kvs.find? λI=>decide (I.1=k)).map (·.2)
noncomputable def putK (kvs:List (κ × V)) (k:κ) (v:V):List (κ × V):=
 if(kvs.any λI=>decide (I.1=k))=true then kvs.map (λI=>if I.1=k then(I.1,v) else I) else kvs++[(k,v)]
theorem ou {p:κ × V}{r:List (κ × V)}{k:κ}(e:p.1=k):gD (p::r) k=some p.2:=by simp[gD,Q14,e]
theorem ow {p:κ × V}{r:List (κ × V)}{k:κ}(e:¬p.1=k):gD (p::r) k=gD r k:=by simp[gD,Q14,e]
theorem oy (k:κ):∀kvs:List (κ × V),(kvs.any λI=>decide (I.1=k))=(gD kvs k).isSome
 |[]=>rfl
 |p::r=>by
  rw[Q1a];by_cases e:p.1=k
  . simp only[ou e,decide_eq_true e,Bool.true_or,Option.isSome_some]
  . rw[ow e,decide_eq_false e,Bool.false_or];exact oy k r
theorem zB (kvs:List (κ × V))(k:κ)(v:V):(putK kvs k v).length<=kvs.length+1:=by
 unfold putK;split
 . rw[Q04];omega
 . rw[Q0d,Q0h,Q2l];omega
theorem ix.oz {o:Option V}{u:Option Value}(r:ix o u):o.isSome=u.isSome:=by
 cases o with
 |none=>cases u with
  |none=>rfl
  |some _=>exact(show False from r).elim
 |some _=>cases u with
  |none=>exact(show False from r).elim
  |some _=>rfl
theorem KV.val {kvs:List (κ × V)}{vs:List (κ × Value)}(r:KV kvs vs)(k:κ):ix (gD kvs k) (valueAt vs k):=by
 unfold KV at r
 induction r with
 |nil=>exact True.intro
 |@cons p q ps I h t U=>
  obtain⟨h1,h2⟩:=h;by_cases e:p.1=k
  . have J:q.1=k:=h1.symm.trans e;have b:valueAt (q::I) k=some q.2:=by simp[valueAt,Q14,J]
    rw[ou e,b];exact h2
  . have J:¬q.1=k:=λz=>e (h1.trans z);have b:valueAt (q::I) k=valueAt I k:=by simp[valueAt,Q14,J]
    rw[ow e,b];exact U
theorem KV.any {kvs:List (κ × V)}{vs:List (κ × Value)}(r:KV kvs vs)(k:κ):(kvs.any λI=>decide (I.1=k))=vs.any λI=>decide (I.1=k):=by
 unfold KV at r
 induction r with
 |nil=>rfl
 |cons h t J=>rw[Q1a,Q1a,J,h.1]
theorem KV.repl {kvs:List (κ × V)}{vs:List (κ × Value)}(r:KV kvs vs)(k:κ){y:V}{u:Value}(J:RelV y u):
 KV (kvs.map λI=>if I.1=k then(I.1,y) else I) (vs.map λI=>if I.1=k then(I.1,u) else I):=by
 unfold KV at r ⊢
 induction r with
 |nil=>exact .nil
 |@cons p q ps Y h t U=>
  rw[Q0y,Q0y];refine .cons ?_ U;obtain⟨h1,h2⟩:=h;by_cases e:p.1=k
  . rw[if_pos e,if_pos (h1.symm.trans e)];exact⟨h1,J⟩
  . rw[if_neg e,if_neg (λz=>e (h1.trans z))];exact⟨h1,h2⟩
theorem KV.put {kvs:List (κ × V)}{vs:List (κ × Value)}(r:KV kvs vs)(k:κ){y:V}{u:Value}(I:RelV y u):KV (putK kvs k y) (stored vs k u):=by
 unfold putK stored;rw[r.any k];by_cases e:(vs.any λJ=>decide (J.1=k))=true
 . rw[if_pos e,if_pos e];exact r.repl k I
 . rw[if_neg e,if_neg e];exact Paired.snoc r ⟨rfl,I⟩
theorem KV.length {kvs:List (κ × V)}{vs:List (κ × Value)}(r:KV kvs vs):kvs.length=vs.length:=Paired.length r
end
theorem oA {P:Program}{w:World}{k:Key}{u:Value}(r:RelV (kV k) u):(iW P w).is k u=true:=by
 cases k with
 |inl i=>obtain⟨t,e⟩:=(show ∃t,u=Value.int i t from r);subst e;exact DE P w i t
 |inr x=>obtain⟨t,e⟩:=(show ∃t,u=Value.str x t from r);subst e;exact DF P w x t
theorem zC {P:Program}{w:World}:∀{ks:List Key}{us:List Value},Vals (ks.map kV) us->ItemsAre (iW P w) ks us
 |[],_,r=>by rw[List.map_nil] at r;cases r;exact .nil
 |k::ks,_,r=>by
  rw[Q0y] at r
  cases r with
  |cons h t=>exact .cons (oA h) (zC t)
abbrev KT (H:Hp):List (List Key × V)->List (List Key × Addr × Value)->Prop:=Paired λp q=>p.1=q.1/\H q.2.1=some (.tup (p.1.map kV))/\RelV p.2 q.2.2
theorem KT.val {H:Hp}{kvs:List (List Key × V)}{xs:List (List Key × Addr × Value)}(r:KT H kvs xs)(k:List Key):ix (gD kvs k) ((atKey xs k).map (·.2)):=by
 induction r with
 |nil=>exact True.intro
 |@cons p q ps I h t U=>
  obtain⟨h1,_,h2⟩:=h;by_cases e:p.1=k
  . have J:q.1=k:=h1.symm.trans e;have b:atKey (q::I) k=some q.2:=by simp[atKey,Q14,J]
    rw[ou e,b];exact h2
  . have J:¬q.1=k:=λz=>e (h1.trans z);have b:atKey (q::I) k=atKey I k:=by simp[atKey,Q14,J]
    rw[ow e,b];exact U
theorem KT.repl {H:Hp}{kvs:List (List Key × V)}{xs:List (List Key × Addr × Value)}(r:KT H kvs xs)(k:List Key){y:V}{u:Value}(J:RelV y u):
 KT H (kvs.map λI=>if I.1=k then(I.1,y) else I) (xs.map (putAt k u)):=by
 induction r with
 |nil=>exact .nil
 |@cons p q ps qs h t U=>
  rw[Q0y,Q0y];refine .cons ?_ U;obtain⟨h1,h2,Y⟩:=h;unfold putAt;by_cases e:p.1=k
  . rw[if_pos e,if_pos (h1.symm.trans e)];exact⟨h1,h2,J⟩
  . rw[if_neg e,if_neg (λz=>e (h1.trans z))];exact⟨h1,h2,Y⟩
theorem KT.put {H:Hp}{kvs:List (List Key × V)}{xs:List (List Key × Addr × Value)}(r:KT H kvs xs)(k:List Key){b:Addr}{y:V}{u:Value}(J:H b=some (.tup (k.map kV)))(I:RelV y u):
 KT H (putK kvs k y) (storedH xs k b u):=by
 have e:(kvs.any λU=>decide (U.1=k))=(atKey xs k).isSome:=by
  rw[oy,(r.val k).oz,Q1y]
 unfold putK storedH;rw[e];by_cases q:(atKey xs k).isSome=true
 . rw[if_pos q,if_pos q];exact r.repl k I
 . rw[if_neg q,if_neg q];exact Paired.snoc r ⟨rfl,J,I⟩
theorem KT.keeps {H H':Hp}{kvs:List (List Key × V)}{xs:List (List Key × Addr × Value)}(r:KT H kvs xs)(ht:∀b ys,H b=some (.tup ys)->H' b=some (.tup ys)):KT H' kvs xs:=
 Paired.nX r λ_ _ z=>⟨z.1,ht _ _ z.2.1,z.2.2⟩
section
variable {P:Program}{w:World}{H:Hp}{h:Heap}{a:Addr}
theorem zD {u:HO}(ok:gu P w H h)(e:Rd H a u):gB P w H h a u:=e.ok ok
theorem m4 {kvs:List (Key × V)}(ok:gu P w H h)(e:Rd H a (.dK kvs)):kvs.length<=sizeLine/\(a == sysModules)=false/\∃vs,KV kvs vs/\h.DictOf (iW P w) a vs:=
 show gB P w H h a (.dK kvs) from zD ok e
theorem E8 {kvs:List (Key × V)}(ok:gu P w H h)(e:H a=some (.dK kvs)):kvs.length<=sizeLine/\(a == sysModules)=false/\∃vs,KV kvs vs/\h.DictOf (iW P w) a vs:=m4 ok (.inl e)
theorem oB {ks:List Key}(ok:gu P w H h)(e:H a=some (.tup (ks.map kV))):(tupleKind (iW P w)).is h ks a:=by
 obtain⟨_,I,r,o,h1,h2,n,J⟩:=(show gB P w H h a (.tup (ks.map kV)) from ok a _ e);exact⟨o,I.toArray,n,h1,h2,J,by simpa using zC r⟩
theorem oE {kvs:List (List Key × V)}(ok:gu P w H h)(e:Rd H a (.dT kvs)):kvs.length<=sizeLine/\(a == sysModules)=false/\
 ∃xs,KT H kvs xs/\h.DictOfH (tupleKind (iW P w)) a xs:=by
 obtain⟨z,y,xs,r,o,es,U,h1,h2,Y,h4,h5⟩:=(show gB P w H h a (.dT kvs) from zD ok e);refine⟨z,y,xs,r,o,es,U,h1,h2,Y,h4,λx I=>?_,h5⟩
 have all:∀{l:List (List Key × V)} {m:List (List Key × Addr × Value)},KT H l m->∀x∈m,(tupleKind (iW P w)).is h x.1 x.2.1:=by
  intro l m q
  induction q with
  |nil=>intro x I;exact nomatch I
  |@cons p q ps qs J t ih=>
   intro x I;rcases List.mem_cons.mp I with e|I
   . subst e;exact oB ok (by rw[<-J.1];exact J.2.1)
   . exact ih x I
 exact all r x I
theorem E9 {kvs:List (List Key × V)}(ok:gu P w H h)(e:H a=some (.dT kvs)):kvs.length<=sizeLine/\(a == sysModules)=false/\
 ∃xs,KT H kvs xs/\h.DictOfH (tupleKind (iW P w)) a xs:=oE ok (.inl e)
end
def f_ (H:Hp) (a:Addr) (y:V) (r:Option V):Prop:=
 (∃kvs k,Rd H a (.dK kvs)/\y=kV k/\r=gD kvs k)\/∃kvs k b,Rd H a (.dT kvs)/\y=.ref b/\H b=some (.tup (k.map kV))/\r=gD kvs k
def jy (H:Hp) (a:Addr) (y v:V) (H':Hp):Prop:=
 (∃kvs k,H a=some (.dK kvs)/\y=kV k/\kvs.length<sizeLine/\H'=upd H a (.dK (putK kvs k v)))\/
 ∃kvs k b,H a=some (.dT kvs)/\y=.ref b/\H b=some (.tup (k.map kV))/\kvs.length<sizeLine/\H'=upd H a (.dT (putK kvs k v))
theorem f_.k {H:Hp}{a:Addr}{kvs:List (Key × V)}{k:Key}(e:H a=some (.dK kvs)):f_ H a (kV k) (gD kvs k):=.inl ⟨kvs,k,.inl e,rfl,rfl⟩
theorem jy.k {H:Hp}{a:Addr}{kvs:List (Key × V)}{k:Key}{v:V}(e:H a=some (.dK kvs))(hl:kvs.length<sizeLine):jy H a (kV k) v (upd H a (.dK (putK kvs k v))):=.inl ⟨kvs,k,e,rfl,hl,rfl⟩
section
variable {X:Cx}{pins:List (Addr × Obj)}{σ:St}{H:Hp}{s:Shared}{a:Addr}{y v:V}{u r:Value}{o:Option V}{A:Around}{E:Value->Shared->Prop}
theorem Inv.big (I:Inv X pins σ H s):sysModules<s.heap.objs.size:=by
 have h:mainGlobals<s.heap.objs.size:=(I.mod.glob.keeps I.bk).lt;exact Nat.lt_trans (by decide) h
theorem E_ {Q:Value->Shared->Prop}(hu:A.units+1<cLine)(I:Inv X pins σ H s)(g:f_ H a y (some v))(ry:RelV y u)(h:∀Y s',Inv X pins σ H s'->RelV v Y->Q Y s'):
 wpAny (model X.prog X.w) A (getItem (.ref a) u) Q E s:=by
 rcases g with⟨kvs,k,e,ey,l⟩|⟨kvs,k,b,e,ey,eb,l⟩
 . subst ey;obtain⟨z,hd,vs,J,dd⟩:=m4 I.hok e;obtain⟨Y,hw,U⟩:=ix.some_of (v:=v) (o:=valueAt vs k) (by rw[l];exact J.val k);exact wpAny_getItem_of (oA ry) dd.mapOf hw (h Y _ (I.tok _) U)
 . subst ey
   cases(show u=Value.ref b from ry);obtain⟨z,hd,xs,J,dd⟩:=oE I.hok e;obtain⟨Y,hw,U⟩:=ix.some_of (v:=v) (o:=(atKey xs k).map (·.2)) (by rw[l];exact J.val k);obtain⟨p,hp,aa⟩:=Option.map_eq_some_iff.mp hw;refine wpAny_getItem_heap (tupleKind_room_in1 hu) (oB I.hok eb) dd hp ?_;rw[aa];exact h Y _ (I.tok _) U
theorem Fb {Q:Value->Shared->Prop}(hu:A.units+1<cLine)(I:Inv X pins σ H s)(g:f_ H a y o)(ry:RelV y u)(h:∀s',Inv X pins σ H s'->Q (.bool o.isSome) s'):
 wpAny (model X.prog X.w) A (compareOp .In u (.ref a)) Q E s:=by
 rcases g with⟨kvs,k,e,U,l⟩|⟨kvs,k,b,e,U,eb,l⟩
 . subst U;obtain⟨z,hd,vs,J,Y⟩:=m4 I.hok e;refine wpAny_in_of (oA ry) hd Y.mapOf ?_;rw[<-(J.val k).oz,<-l];exact h _ (I.tok _)
 . subst U
   cases(show u=Value.ref b from ry);obtain⟨z,hd,xs,J,Y⟩:=oE I.hok e;refine wpAny_in_heap (tupleKind_room_in1 hu) (oB I.hok eb) hd Y ?_;have q:=(J.val k).oz;rw[Q1y] at q;rw[<-q,<-l];exact h _ (I.tok _)
theorem Fc {Q:Value->Shared->Prop}(hu:A.units+1<cLine)(I:Inv X pins σ H s)(g:f_ H a y o)(ry:RelV y u)(h:∀s',Inv X pins σ H s'->Q (.bool (!o.isSome)) s'):
 wpAny (model X.prog X.w) A (compareOp .NotIn u (.ref a)) Q E s:=by
 rcases g with⟨kvs,k,e,U,l⟩|⟨kvs,k,b,e,U,eb,l⟩
 . subst U;obtain⟨z,hd,vs,J,Y⟩:=m4 I.hok e;refine wpAny_notIn_of (oA ry) hd Y.mapOf ?_;rw[<-(J.val k).oz,<-l];exact h _ (I.tok _)
 . subst U
   cases(show u=Value.ref b from ry);obtain⟨z,hd,xs,J,Y⟩:=oE I.hok e;refine wpAny_notIn_heap (tupleKind_room_in1 hu) (oB I.hok eb) hd Y ?_;have q:=(J.val k).oz;rw[Q1y] at q;rw[<-q,<-l];exact h _ (I.tok _)
theorem zE {h':Heap}{t':Nat}{J:HO}(I:Inv X pins σ H s)(mu:nY (H a))(U:Heap.SameBut a s.heap h')(Y:∃q,h'.get? a=some q)(new:gB X.prog X.w (upd H a J) h' a J):
 Inv X pins σ (upd H a J) { s with heap:=h',toks:=t' }:=
 I.write (x:=a) (e:=a) mu (.inl rfl) (λb q hb z=>(U.2 b hb).trans z) Y new
theorem Fe {P:Program}{w:World}{H':Hp}{h':Heap}{kvs:List (Key × V)}{vs:List (Key × Value)}(z:kvs.length<=sizeLine)(hd:(a == sysModules)=false)(I:KV kvs vs)(J:h'.DictOf (iW P w) a vs):
 gB P w H' h' a (.dK kvs):=⟨z,hd,vs,I,J⟩
theorem Ff {H':Hp}{Q:Unit->Shared->Prop}(hu:A.units+1<cLine)(I:Inv X pins σ H s)(g:jy H a y v H')(ry:RelV y u)(rv:RelV v r)(h:∀s',Inv X pins σ H' s'->Q () s'):
 wpAny (model X.prog X.w) A (setItem (.ref a) u r) Q E s:=by
 rcases g with⟨kvs,k,e,ey,l,eH⟩|⟨kvs,k,b,e,ey,eb,l,eH⟩
 . subst ey eH;obtain⟨z,hd,vs,J,dd⟩:=E8 I.hok e;have hz:vs.length<=sizeLine:=by rw[<-J.length];exact z
   have hl:(putK kvs k v).length<=sizeLine:=by have:=zB kvs k v;omega
   refine wpAny_setItem_pairs (hsz:=hz) (oA ry) dd λh' U hs=>h _ ?_;have he:∃q,h'.get? a=some q:=let⟨q,_,_,Y,_⟩:=U;⟨q,Y⟩
   exact zE I (by rw[e];exact True.intro) hs he (Fe hl hd (J.put k rv) U)
 . subst ey eH
   cases(show u=Value.ref b from ry);obtain⟨z,hd,xs,J,dd⟩:=E9 I.hok e;have hz:xs.length<=sizeLine:=by rw[<-Paired.length J];exact z
   have hl:(putK kvs k v).length<=sizeLine:=by have:=zB kvs k v;omega
   refine wpAny_setItem_heap (hsz:=hz) (tupleKind_room_in1 hu) (oB I.hok eb) dd λh' U hs=>h _ ?_;obtain⟨q,es,ep,Y,h2,h3,h4,_,h5⟩:=U;refine zE I (by rw[e];exact True.intro) hs ⟨q,Y⟩ ⟨hl,hd,_,(J.put k eb rv).keeps λc ys ec=>?_,q,es,ep,Y,h2,h3,h4,h5⟩;rw[eE (gO ec e (λz=>nomatch z))];exact ec
end
section
variable {X:Cx}{pins:List (Addr × Obj)}{σ:St}{H:Hp}{s:Shared}{a:Addr}{kvs:List (Key × V)}{k:Key}{u:Value}{A:Around}{E:Value->Shared->Prop}
theorem Fg {Q:Value->Shared->Prop}(I:Inv X pins σ H s)(e:Rd H a (.dK kvs))(h:∀t s',Inv X pins σ H s'->Q (.int kvs.length t) s'):wpAny (model X.prog X.w) A (call (.builtin "len") [.ref a]) Q E s:=by
 obtain⟨z,hd,vs,J,U⟩:=m4 I.hok e;refine call_len_dict hd U (by rw[<-J.length];rw[sizeLine_eq] at z;omega) ?_;rw[<-J.length];exact h _ _ (I.tok _)
end
def zF (i:Expr):Prop:=∀I J,subscripted i false I J=operate [I,J] (getItem I J)
theorem Fh {prog:Program}{w:World}{A:Around}{E:Value->Shared->Prop}{s:Shared}{env:Env}{value I:Expr}{pos:Pos}{T id:String}{Q:Value->Shared->Prop}
 (hl:typeLookup (.type T) "__getitem__"=pure (some (.builtin id))) (hs:zF I)
 (h:wpAny (model prog w) A (eval value env) (λo Y=>wpAny (model prog w) A (eval I env) (λi J=>J.TypeIs o T/\wpAny (model prog w) A (getItem o i) Q E J) E Y) E s):
 wpAny (model prog w) A (eval (.Subscript value I pos) env) Q E s:=by
 refine Subscript_ (Q0o h (λo Y ab=>Q0o ab (λi J U=>?_) λ_ _ x=>x) λ_ _ x=>x);obtain⟨hT,U⟩:=U;unfold subscriptTail;refine Q0 ?_;rw[getitemInPython_of_ne hT.not_modules];refine Q0 (wpAny_specialOf hT hl ?_)
 have fin:wpAny (model prog w) A (subscripted I false o i) (λr aa=>wpAny (model prog w) A (letTemporaryGo value o r >>= λ_=>pure r) Q E aa) E J:=by
  rw[hs o i];exact wpAny_operating (Q0o U (λr aa ac=>Q0 (wpAny_letTemporaryGo (Q0c ac))) λ_ _ x=>x)
 first
  |exact Q0c (Q0 fin)
  |exact Q0 (Q0c (Q0 fin))
  |exact Q0 fin
theorem Fi {X:Cx}{pins:List (Addr × Obj)}{σ:St}{H:Hp}{s:Shared}{a:Addr}{y:V}{o:Option V}(I:Inv X pins σ H s)(g:f_ H a y o):s.TypeIs (.ref a) "dict":=by
 rcases g with⟨kvs,k,e,_,_⟩|⟨kvs,k,b,e,_,_,_⟩
 . obtain⟨_,_,vs,_,J⟩:=m4 I.hok e;exact J.typeIs
 . obtain⟨_,_,xs,_,J⟩:=oE I.hok e;exact J.typeIs
def rT (td ty:TE):TE:=λσ H Q=>td σ H λx H1=>ty σ H1 λy H2=>∃a v,x=.ref a/\f_ H2 a y (some v)/\Q v H2
def Fj (ty td:TE):TE:=λσ H Q=>ty σ H λy H1=>td σ H1 λx H2=>∃a o,x=.ref a/\f_ H2 a y o/\Q (.bl o.isSome) H2
def Fk (ty td:TE):TE:=λσ H Q=>ty σ H λy H1=>td σ H1 λx H2=>∃a o,x=.ref a/\f_ H2 a y o/\Q (.bl (!o.isSome)) H2
def Fl (td ty tv:TE):TS:=λD σ H=>tv σ H λv H1=>td σ H1 λx H2=>ty σ H2 λy J=>∃a I,x=.ref a/\jy J a y v I/\D.nx σ I
section
variable {X:Cx}{o i e value:Expr}{pos pos' tpos:Pos}{td ty tv:TE}
theorem hZ (Y:X.A.units+1<cLine)(ho:PE X o td)(hi:PE X i ty)(hs:zF i):PE X (.Subscript o i pos) (rT td ty):=by
 intro pins s σ H Q I h;refine Fh PySem.F.slot_dict_getitem.lookup hs (eZ (ho pins s σ H _ I h) λu s1 ⟨x,H1,I1,rx,q1⟩=>eZ (hi pins s1 σ H1 _ I1 q1) λiv s2 zq=>?_);obtain⟨y,H2,U,ry,a,v,ex,g,q2⟩:=zq;subst ex;obtain rfl:u=Value.ref a:=rx;exact⟨Fi U g,E_ Y U g ry λw' s3 I3 J=>⟨v,H2,I3,J,q2⟩⟩
theorem rV (J:X.A.units+1<cLine)(hi:PE X i ty)(U:PE X o td):PC X .In i o (Fj ty td):=by
 intro pins s σ H Q I h;refine eZ (hi pins s σ H _ I h) λiv Y ⟨y,H1,I1,ry,q1⟩=>eZ (U pins Y σ H1 _ I1 q1) λu s2 zq=>?_;obtain⟨x,H2,I2,rx,a,ov,ex,g,q2⟩:=zq;subst ex;obtain rfl:u=Value.ref a:=rx;exact Fb J I2 g ry λs3 I3=>⟨.bl ov.isSome,H2,I3,rfl,q2⟩
theorem zG (J:X.A.units+1<cLine)(hi:PE X i ty)(U:PE X o td):PC X .NotIn i o (Fk ty td):=by
 intro pins s σ H Q I h;refine eZ (hi pins s σ H _ I h) λiv Y ⟨y,H1,I1,ry,q1⟩=>eZ (U pins Y σ H1 _ I1 q1) λu s2 zq=>?_;obtain⟨x,H2,I2,rx,a,ov,ex,g,q2⟩:=zq;subst ex;obtain rfl:u=Value.ref a:=rx;exact Fc J I2 g ry λs3 I3=>⟨.bl (!ov.isSome),H2,I3,rfl,q2⟩
theorem m7 (J:X.A.units+1<cLine)(U:PE X o td)(hi:PE X i ty)(Y:PE X value tv)(hs:swapsWith value (some (.Subscript o i pos')) pos.line X.env=pure false):
 PS X (.Assign [.Subscript o i pos'] value pos) (Fl td ty tv):=by
 intro pins s σ H D I h;refine wpAny_Assign_Subscript (eZ (Y pins s σ H _ I h) λr s1 ⟨v,H1,I1,rv,q1⟩=>eZ (U pins s1 σ H1 _ I1 q1) λu s2 ⟨x,H2,I2,rx,q2⟩=>eZ (hi pins s2 σ H2 _ I2 q2) λiv s3 zq=>?_) hs;obtain⟨y,H3,I3,ry,a,H4,ex,g,q3⟩:=zq;subst ex;obtain rfl:u=Value.ref a:=rx;exact Ff J I3 g ry rv λs4 I4=>⟨σ,H4,I4,q3⟩
end
theorem Fm {P:Program}{w:World}{H:Hp}(h:Heap)(I:sysModules<h.objs.size):gB P w H (h.push { cls:=.type "dict",data:=.dict #[] }) h.objs.size (.dK []):=
 ⟨Q07 _,beq_eq_false_iff_ne.mpr (Ne.symm (Q08 I)),[],.nil,Heap.DictOf.new h⟩
def Fn:TE:=λ_ H Q=>∀p,H p=none->Q (.ref p) (upd H p (.dK []))
section
variable {X:Cx}{pos:Pos}
theorem pZ:PE X (.Dict [] [] pos) Fn:=λpins s σ H Q I h=>
 wpAny_Dict_empty ⟨.ref s.heap.objs.size,_,I.laid (a:=s.heap.objs.size) (o:=.dK []) (t':=s.toks) (λ_ _ q=>Q09 _ q) (Q00 _) (Fm s.heap I.big),rfl,h _ (I.hok.fresh (Q00 _))⟩
end
section
variable {X:Cx}{pins:List (Addr × Obj)}{σ:St}{H:Hp}{s:Shared}{a:Addr}{y d:V}{u r:Value}{o:Option V}{A:Around}{E:Value->Shared->Prop}
end
section
variable {X:Cx}{o e f:Expr}{apos cpos:Pos}{td ty tx:TE}
end
section
variable {X:Cx}{pins:List (Addr × Obj)}{σ:St}{H:Hp}{s:Shared}{a:Addr}{kvs:List (Key × V)}{A:Around}{E:Value->Shared->Prop}
end
section
variable {X:Cx}{pins:List (Addr × Obj)}{σ:St}{H:Hp}{s:Shared}{a:Addr}{y:V}{u:Value}{A:Around}{E:Value->Shared->Prop}
end
end L2
namespace zH
open W Calls PyProof.Rows
theorem Fo {P:Params}{h:Heap}:∀(ns:List Int) (vs:List Value),WellAll P h vs (ns.map WData.int)->IntsAre vs ns:=by
 intro ns
 induction ns with
 |nil=>
  intro vs w;rw[List.map_nil] at w
  cases w;exact .nil
 |cons n ns I=>
  intro vs w;rw[Q0y] at w
  cases w with
  |cons a b=>
   cases a;exact .cons _ _ (I _ b)
theorem Fp {l:OpenLaw}{n:Nat}(hn:l.most=some n){P:Params}{h:Heap}{args:List WData}{I:List Value}
 (J:l.row.toRowW.claim.pre args=true) (aa:WellAll P h I args):
 ∃a vs ns,I=[Value.ref a]/\args=[WData.list (ns.map WData.int)]/\h.get? a=some { cls:=.type "list",data:=.seq vs.toArray }/\IntsAre vs ns/\ns.length<=n:=by
 have ab:WShape.hasAll [] args [.list .int]=true:=(pre_splitW J).1;have hc:l.pre.holds [] { args:=args }=true:=(pre_splitW J).2;obtain⟨d,r,rfl,h1,h2⟩:=hasAllW_cons ab;obtain rfl:=hasAllW_nil h2;obtain⟨xs,rfl,h3⟩:=hasW_list h1;obtain⟨ns,rfl⟩:=items_int h3
 have U:ns.length<=n:=by
  unfold OpenLaw.pre at hc
  have h4:(WTm.not (.lt (.lit (.int (n:Int))) (.len (.arg 0)))).holds [] { args:=[.list (ns.map .int)] }=true:=by
   have h4:=(holds_andW hc).1;rw[hn] at h4;exact h4
  have h5:=condW_of h4 (w_not (w_lt w_lit (w_len_list (w_arg rfl))));rw[Q04] at h5;refine Q15 λq=>?_;have q':(n:Int)<((ns.length:Nat):Int):=by omega
  first
   |(rw[decide_eq_true q'] at h5;exact absurd h5 (by decide))
   |(simp at h5;omega)
 cases aa with
 |cons w1 w2=>
  cases w2
  cases w1 with
  |list ho Y=>exact⟨_,_,ns,rfl,rfl,ho,Fo ns _ Y,U⟩
theorem Fq (l:OpenLaw)(args:List WData):l.row.toRowW.claim.post args (.bool true) args=true:=
 postW_of (r:=l.row.toRowW) (X:=(true == true))
  (show WShape.has [] (.bool true) .bool=true by first|rfl|decide|simp[WShape.has,WShape.arms,WShape.armsAll])
  (show(WTm.eq .res (.lit (.bool true))).value [] { args:=args,res:=some (.bool true),after:=args }=some (.bool (true == true)) from w_eq_bool (w_res rfl) w_lit) rfl
theorem Ft {l:OpenLaw}{n:Nat}{q:Program}{loose:List Str}{XP:(Str->Option Value)->Heap->Prop}{YP:World->Heap->Prop}{d:DefRec}
 (hn:l.most=some n) (ae:d.params.defaults=[])
 (call:∀(w:World) (s₀ I:Shared) (mg mb:Str->Option Value) (fa:Addr) (o:Obj) (pm cd J:Value) (a:Addr) (vs:List Value) (ns:List Int),
   Ground q loose [] XP w s₀ mg mb I.heap->YP w I.heap->
   I.heap.get? fa=some o->o.data=.func (docDef d.name d.params d.body d.scope pm cd J)->I.heap.CodeRec cd d.name->mg d.name=some (.ref fa)->
   I.heap.get? a=some { cls:=.type "list",data:=.seq vs.toArray }->IntsAre vs ns->ns.length<=n->I.gens=#[]->
   codeAny (model l.prog w) callerA (.call (.ref fa) ⟨[.ref a],[]⟩) (λr s'=>r=.ok (.ret (.bool true))/\OldK I.heap s'.heap/\s'.os=I.os/\AllBare s'.gens) I):
 WalkO q loose XP YP l.row.toRowW d [] (λf vs=>PySem.call f vs):=by
 intro w s₀ I mg mb G Y fa o pm cd J dV kV ho hd af hD ag hg args ai as aa aj ak ah al;obtain rfl:dV=.none:=Dflts.none hD ae;obtain rfl:kV=.none:=Dflts.noKw hD;obtain⟨a,vs,ns,rfl,rfl,ab,U,ac⟩:=Fp hn aa ah;refine enter_call (codeAny_mono (call w s₀ I mg mb fa o pm cd J a vs ns G Y ho (fd_plain hd) af ag ab U ac hg) λr s' hq=>?_);obtain⟨rfl,h2,h3,h4⟩:=hq;exact⟨.inl ⟨.bool true,.bool true,[],rfl,λ_=>rfl,.bool true,Fq l _,λ_=>⟨List.Pairwise.nil,λ_ hm=>(nomatch hm)⟩⟩,h2,h3,h4⟩
section
variable {prog:Program}{w:World}{A:Around}{E:Value->Shared->Prop}{s:Shared}{K:Frag}
end
end zH
namespace L2
open Spec PyProof.Rows
theorem zI:∀{vs:List Value}{ns:List Int},IntsAre vs ns->Vals (ns.map V.int) vs
 |_,_,.nil=>.nil
 |_,_,.cons n t h=>.cons ⟨t,rfl⟩ (zI h)
abbrev eu:iI:=λ_ _ _ _ _ _=>False
abbrev E0:XK:=λ_ _ _=>False
theorem jh {X:Cx}:Passes eu X E0:=λ_ _ _ _ _ _ _ h=>h.elim
structure jO (K:W.Frag) (x qual:Str) (st:Stmt) (f:Addr) (fd:FuncData):Prop where
 ex:∃(oc:Value) (od:Option Addr) (kV doc pm:Value) (an:Option Addr) (cdv ct:Value) (osl:Array (Option Value)),
  fd=W.fnOf x qual (h_ st) (g6 st) (eS st) .none kV doc pm an cdv ct/\K.lookup f=some ⟨oc,od,.func fd,osl⟩/\W.codeIn K cdv qual=true
 kp:W.keepIn K (.ref f)=true
variable {P:Program}{w:World}{K:W.Frag}{mg:Str->Option Value}{base:Heap}
def FnBody (P:Program) (w:World) (K:W.Frag) (mg:Str->Option Value) (base:Heap) (N ps:List Str) (qual:Str) (st:Stmt) (f:Addr) (k:Nat) (vs:List V) (H:Hp) (Q:VK) (E:XK):Prop:=vs.length=ps.length/\∀(I:Value) (A:Around) (outer:List Env) (s:Shared),N.Nodup->fY k (A.deeper (envOfC qual (eS st) s.heap.objs.size f I))->(A.deeper (envOfC qual (eS st) s.heap.objs.size f I)).units+1<cLine->∃t,iG (fk eu P w K mg base N qual (eS st) f I A outer s H E).fj (g6 st) t/\t { nx:=λ_ H'=>Q .non H',rt:=Q } (start N vs) H
theorem jO.ok {x qual:Str}{st:Stmt}{f:Addr}{fd:FuncData}{N ps:List Str}{k:Nat}{sp:Sp}(F:jO K x qual st f fd)(S:fv N ps (eS st))
 (I:∀(vs:List V) (H:Hp) (Q:VK) (E:XK),sp vs H Q E->FnBody P w K mg base N ps qual st f k vs H Q E):en P w K mg base eu (k+1) f fd ps sp:=by
 obtain⟨oc,od,kV,aa,pm,an,J,ct,ab,rfl,lk,U⟩:=F.ex;refine zl lk U S (λvs H Q E h=>(I vs H Q E h).1) λA outer s H vs Q E hr Y=>?_;obtain⟨t,h,q⟩:=(I vs H Q E Y).2 J A outer s S.nd hr (Q1b (Q1z (by decide:1<=64) _) hr.units);exact⟨t,h.fj,q⟩
theorem jO.binds {x qual:Str}{st:Stmt}{f:Addr}{fd:FuncData}{ps:List Str}(F:jO K x qual st f fd)
 (h:∀(kV I U:Value) (Y:Option Addr) (J ct:Value) (us:List Value),us.length=ps.length->bindArgs (W.fnOf x qual (h_ st) (g6 st) (eS st) .none kV I U Y J ct) ⟨us,[]⟩=pure (ps.zip us)):Binds K fd ps []:=by
 obtain⟨oc,od,kV,I,U,Y,J,ct,aa,rfl,lk,ab⟩:=F.ex;exact .all (h kV I U Y J ct)
theorem oF {x qual:Str}{st:Stmt}{f:Addr}{oc:Value}{od Y:Option Addr}{U:Array (Option Value)}{kV J pm I ct:Value}(l:K.lookup f=some ⟨oc,od,.func (W.fnOf x qual (h_ st) (g6 st) (eS st) .none kV J pm Y I ct),U⟩)
 (c:W.codeIn K I qual=true) (k:W.keepIn K (.ref f)=true):jO K x qual st f (W.fnOf x qual (h_ st) (g6 st) (eS st) .none kV J pm Y I ct):=⟨⟨oc,od,kV,J,pm,Y,I,ct,U,rfl,l,c⟩,k⟩
theorem zJ {A:Around}{k:Nat}(I:fY k A):A.units+1<cLine:=Q1b (Q1z (by decide:1<=64) _) I.units
theorem gE {n:Nat}(h:n<=1000):n<sizeLine:=Q1b h (by decide)
section
variable {X:Cx}
theorem pv (i:Nat){x:Str}{pos:Pos}(J:X.N[i]? =some x:=by rfl)(U:pG X.env.scope x:=by first|exact Or.inl rfl|exact Or.inr (Or.inl rfl)|exact Or.inr (Or.inr rfl))(hd:(x == ("__debug__":Str))=false:=by decide)
 (I:(x == ("__classdict__":Str))=false:=by decide):PE X (.Name x pos) (fT i):=DN J U hd I
end
theorem e_ {A B:Prop}(h:B):if false=true then A else B:=by
 rw[if_neg Bool.false_ne_true];exact h
theorem fw {A B:Prop}(h:A):if true=true then A else B:=by
 rw[if_pos rfl];exact h
theorem fW {c A B:Prop} [Decidable c](h1:c->A)(h2:¬c->B):if c then A else B:=by
 by_cases h:c
 . rw[if_pos h];exact h1 h
 . rw[if_neg h];exact h2 h
theorem kJ {c A B:Prop} [Decidable c](hc:c)(h:B):if(!decide c)=true then A else B:=by
 rw[decide_eq_true hc];exact e_ h
def Same (H H':Hp):Prop:=∀b o,H b=some o->H' b=some o
theorem Same.refl (H:Hp):Same H H:=λ_ _ h=>h
theorem Same.trans {H H1 H2:Hp}(a:Same H H1)(b:Same H1 H2):Same H H2:=λc o h=>b c o (a c o h)
theorem Same.free {H H':Hp}(e:Same H H'){l:Addr}(h:H' l=Option.none):H l=Option.none:=by
 cases q:H l with
 |none=>rfl
 |some o=>
  rw[e l o q] at h
  cases h
section
variable {X:Cx}
theorem zK:i2 X (.builtin "len") (λxs H Q=>∃a kvs,xs=[V.ref a]/\H a=some (.dK kvs)/\Q (.int kvs.length) H):=by
 intro pins s σ H xs us Q I r h;obtain⟨a,kvs,rfl,J,q⟩:=h;obtain⟨u,rfl,U⟩:=vals1 r
 cases U;exact Fg I (.inl J) λt s' Y=>⟨.int kvs.length,H,Y,⟨t,rfl⟩,q⟩
end
section
variable {κ:Type} [DecidableEq κ]
theorem Fu {kvs:List (κ × V)}{k:κ}{v:V}(h:gD kvs k=some v):k∈kvs.map (·.1):=by
 have q:(kvs.any λI=>decide (I.1=k))=true:=by
  rw[oy,h]
  all_goals rfl
 obtain⟨p,hp,e⟩:=List.any_eq_true.mp q;exact List.mem_map.mpr ⟨p,hp,of_decide_eq_true e⟩
end
theorem zL {g:Str->NameKind->NameKind}{x:Str}:∀names:List (Str × NameKind),
 (names.map λy=>(y.1,g y.1 y.2)).lookup x=(names.lookup x).map (g x)
 |[]=>rfl
 |(n,k)::r=>by
  show List.lookup x ((n,g n k)::_)=_;rw[Q1c,Q1c,zL r]
  cases I:x == n with
  |true=>rw[eq_of_beq I];rfl
  |false=>rfl
noncomputable def jP (env:Env) (n:Str) (k:NameKind):NameKind:=
 if(k == .free && env.scope.kind == .function && env.kindOf n == some .cell)=true then .cell else k
theorem zM (scope:Scope)(env:Env)(x:Str):
 (relabel scope env).names.lookup x=(scope.names.lookup x).map (jP env x):=by
 rw[<-zL (g:=jP env) scope.names];show List.lookup x (scope.names.map _)=_;congr 1;apply List.map_congr_left;rintro⟨n,k⟩ _;show(if _ then _ else _)=(n,jP env n k);unfold jP;split <;> rfl
theorem Fv {env:Env}{x:Str}{k:NameKind}(h:jP env x k=.local):k=.local:=by
 unfold jP at h;split at h
 . cases h
 . exact h
theorem Fw {env:Env}{x:Str}{k:NameKind}(h:jP env x k=.cell):k=.free\/k=.cell:=by
 unfold jP at h;split at h
 . rename_i c;left;simp only[Bool.and_eq_true] at c;exact eq_of_beq c.1.1
 . exact .inr h
theorem Fx {env:Env}{x:Str}{k:NameKind}(h:jP env x k=.free):k=.free:=by
 unfold jP at h;split at h
 . cases h
 . exact h
theorem rW {env:Env}:∀(names:List (Str × NameKind)) (J:List (Str × Addr)),(∀y∈names,y.2=.free->∃c,env.cells.lookup y.1=some c)->
 (∀x c,J.lookup x=some c->env.cells.lookup x=some c)->
 ∃cl:List (Str × Addr),(forIn names J λy cs=>if(y.2 == NameKind.free)=true then(do let a <-cellOf env y.1;pure (ForInStep.yield ((y.1,a)::cs))) else pure (ForInStep.yield cs))=(pure cl:Sem _)/\
  (∀x c,cl.lookup x=some c->env.cells.lookup x=some c)/\(∀x,((x,NameKind.free)∈names\/(J.lookup x).isSome=true)->cl.lookup x=env.cells.lookup x)
 |[],J,_,U=>⟨J,rfl,U,λx I=>by
    rcases I with I|I
    . cases I
    . obtain⟨c,e⟩:=Option.isSome_iff_exists.mp I;rw[e,U x c e]⟩
 |(n,k)::r,J,Y,U=>by
  by_cases hk:k=.free
  . subst hk;obtain⟨c,e⟩:=Y (n,.free) Q05 rfl;have e:env.cells.lookup n=some c:=e
    have aa:∀x d,((n,c)::J).lookup x=some d->env.cells.lookup x=some d:=λx d h=>by
     rw[Q1c] at h
     cases I:x == n with
     |true=>
      rw[I] at h
      cases h;rw[eq_of_beq I];exact e
     |false=>
      rw[I] at h;exact U x d h
    obtain⟨cl,h1,h2,h3⟩:=rW r ((n,c)::J) (λy hy=>Y y (Q0b _ hy)) aa;refine⟨cl,?_,h2,λx I=>h3 x ?_⟩
    . rw[Q2m];have ec:cellOf env n=pure c:=by unfold cellOf;rw[e]
      simp only[beq_self_eq_true,if_true,ec,pure_bind];exact h1
    . rcases I with I|I
      . rcases List.mem_cons.mp I with q|q
        . right
          cases q;rw[Q1c,beq_self_eq_true];rfl
        . exact .inl q
      . right;rw[Q1c]
        cases x == n with
        |true=>rfl
        |false=>exact I
  . obtain⟨cl,h1,h2,h3⟩:=rW r J (λy hy=>Y y (Q0b _ hy)) U;refine⟨cl,?_,h2,λx I=>h3 x ?_⟩
    . rw[Q2m];have eb:(k == NameKind.free)=false:=by simpa using hk
      simp only[eb,Bool.false_eq_true,if_false,pure_bind];exact h1
    . rcases I with I|I
      . rcases List.mem_cons.mp I with q|q
        . cases q;exact absurd rfl hk
        . exact .inl q
      . exact .inr I
theorem rX {scope:Scope}{env:Env}(J:∀y∈scope.names,y.2=.free->∃c,env.cells.lookup y.1=some c):
 ∃cl:List (Str × Addr),closureFor scope env=pure cl/\(∀x c,cl.lookup x=some c->env.cells.lookup x=some c)/\(∀x,(x,NameKind.free)∈scope.names->cl.lookup x=env.cells.lookup x):=by
 obtain⟨cl,h1,h2,U⟩:=rW scope.names [] J (λx c h=>by cases h);refine⟨cl,?_,h2,λx Y=>U x (.inl Y)⟩;unfold closureFor
 have e:(forIn scope.names ([]:List (Str × Addr)) λy I=>do
  let mut I:=I
  match y with
  |(name,kind)=>if(kind == NameKind.free)=true then I:=(name,<-cellOf env name)::I
  pure (ForInStep.yield I))=(pure cl:Sem _):=by
  rw[<-h1]
 first
  |exact(by simpa using e)
  |(show(forIn scope.names ([]:List (Str × Addr)) _ >>= λI=>pure I)=_;rw[bind_pure];exact e)
structure iQ (X:Cx) (own:List Str) (scope:Scope):Prop where
 kind:scope.kind=.function
 cell:∀y∈scope.names,y.2≠ .cell
 names:∀y∈scope.names,y.2=.local->scope.names.lookup y.1=some .local
 free:∀y∈scope.names,y.2=.free->X.env.kindOf y.1=some .cell\/X.env.kindOf y.1=some .free
 nd:(own++X.N).Nodup
 outer:∀x∈X.N,scope.names.lookup x≠some .local
noncomputable def h8 (X:Cx) (own:List Str) (scope:Scope) (cl:List (Str × Addr)) (C:Addr) (U:List Addr) (I:Shared) (J:Hp):Cx:=
 { X with N:=own++X.N,s₀:=I,H₀:=J,env:=compEnvC scope cl C X.env,outer:=X.stack,ex:=U,fn:=λ_=>false,pn:=[],xe:=λ_ _=>False }
def oG (X:Cx) (I:List Expr) (t:TT):Prop:=
 ∀(pins:List (Addr × Obj)) (s:Shared) (σ:St) (H:Hp) (Q:Bool->Hp->Prop),Inv X pins σ H s->t σ H Q->
  wpAny (model X.prog X.w) X.A (forIn I true λc r=>if r=true then do let ok <-isTrue c X.env (eval c X.env);pure (ForInStep.yield ok) else pure (ForInStep.yield r)) (TP X pins σ Q) X.xe s
def kK:TT:=λ_ H Q=>Q true H
theorem m8 {X:Cx}:oG X [] kK:=λpins s σ H Q I h=>wpAny_tests_nil ⟨H,I,h⟩
theorem lX {X:Cx}{c:Expr}{t:TT}(h:PT X c t):oG X [c] t:=λpins s σ H Q I q=>wpAny_tests_one (h pins s σ H Q I q)
def zN (k:Nat) (wi:TI) (g:TG) (tt:TT) (te:TE):TE:=λσ H Q=>wi σ H λJ H1=>
 ∃W:Nat->Nat->List V->Hp->Prop,(∃m,W 0 m [] H1)/\∀i m ys H,W i m ys H->
  (J.stop i H/\∀p,H p=none->Q (.ref p) (upd H p (.lst ys)))\/
  (J.go i H/\ys.length<sizeLine/\∀x H',J.jJ i H x H'->g x (List.replicate k none++σ) H' λI H2=>I.drop k=σ/\
    tt I H2 λb Y=>if b=true then te I Y λy H4=>∃U,U<m/\W (i+1) U (ys++[y]) H4 else ∃U,U<m/\W (i+1) U ys Y)
section
variable {prog:Program}{w:World}{A:Around}{R:Result->Shared->Prop}{s:Shared}
theorem Fy {ai J iter:Expr}{aj:List Expr}{scope:Scope}{pos:Pos}{it ah:Value}{env:Env}(I:Nat->Shared->Prop)
 (turn:∀n s,I n s->wpAny (model prog w) A (pyNext it) (λr U=>
   match r with
   |none=>R (.ok .next) U
   |some v=>wpAny (model prog w) A (letOwnedTupleGo J it v) (λ_ aa=>wpAny (model prog w) A (assign J env v) (λ_ ab=>
     wpAny (model prog w) A (forIn aj true λc r=>if r=true then do let ok <-isTrue c env (eval c env);pure (ForInStep.yield ok) else pure (ForInStep.yield r)) (λok Y=>
      if ok=true then wpAny (model prog w) A (eval ai env) (λx ac=>
       wpAny (model prog w) A (call (.builtin "list.append") [ah,x]) (λ_ ae=>∃m,m<n/\I m ae) (λ_ _=>False) ac) (λ_ _=>False) Y
      else ∃m,m<n/\I m Y) (λ_ _=>False) ab) (λ_ _=>False) aa) (λ_ _=>False) U) (λ_ _=>False) s)
 (n:Nat) (h:I n s):
 codeAny (model prog w) A (.compLoop (.ListComp ai [⟨J,iter,aj,0⟩] scope pos) 0 it ah env) R s:=by
 refine codeAny_loop rfl I (λn s hI=>?_) n h;show wpAny _ A ((compTurn _ 0 it ah env).onRaise _) _ _ s;refine wpAny_noted ?_;rw[compTurn_list]
 have no:∀{α:Type} {t:Sem α} {Q Q':α->Shared->Prop} {E:Value->Shared->Prop} {s:Shared},wpAny (model prog w) A t Q (λ_ _=>False) s->(∀a s,Q a s->Q' a s)->wpAny (model prog w) A t Q' E s:=
  λh k=>Q0o h k λ_ _ z=>z.elim
 refine Q0 (wpAny_standAt (Q0 (no (turn n s hI) λr U af=>?_)))
 cases r with
 |none=>exact Q0c af
 |some v=>
  refine Q0 (no af λ_ aa ak=>?_);refine Q0 (no ak λ_ ab al=>Q0 (no al λok Y ag=>?_))
  cases ok with
  |false=>exact Q0c ⟨rfl,ag⟩
  |true=>
   refine Q0 (Q0 (no ag λx ac am=>?_));exact Q0 (no am λ_ ae an=>Q0c (Q0c ⟨rfl,an⟩))
end
noncomputable abbrev iK (us:List Value) (n:Nat):Obj:={ cls:=.type "list",data:=.seq us.toArray n }
section
variable {X:Cx}{own:List Str}{scope:Scope}
theorem iQ.cells (S:iQ X own scope){pins:List (Addr × Obj)}{σ:St}{H:Hp}{s:Shared}(I:Inv X pins σ H s):
 ∀y∈scope.names,y.2=.free->∃c,X.env.cells.lookup y.1=some c:=λy J U=>I.ok.has y.1 (S.free y J U)
theorem iQ.freeOf (S:iQ X own scope){x:Str}(h:(relabel scope X.env).names.lookup x=some .cell\/(relabel scope X.env).names.lookup x=some .free):(x,NameKind.free)∈scope.names:=by
 rw[zM] at h
 cases e:scope.names.lookup x with
 |none=>rw[e] at h;rcases h with h|h <;> cases h
 |some k=>
  rw[e] at h;have I:(x,k)∈scope.names:=PySem.mem_of_lookup e
  have J:k=.free:=by
   rcases h with h|h
   . rcases Fw (Option.some.inj h) with q|q
     . exact q
     . exact absurd q (S.cell _ I)
   . exact Fx (Option.some.inj h)
  rw[<-J];exact I
theorem iQ.Fz (S:iQ X own scope){x:Str}(I:x∈X.N):(relabel scope X.env).names.lookup x≠some .local:=λh=>by
 rw[zM] at h
 cases e:scope.names.lookup x with
 |none=>rw[e] at h;cases h
 |some k=>
  rw[e] at h;have:=Fv (Option.some.inj h);subst this;exact S.outer x I e
theorem zO {k:Nat}{σ:St}{i:Nat}{v:V}(h:(List.replicate k none++σ)[i]? =some (some v)):k<=i/\σ[i - k]? =some (some v):=by
 by_cases hi:i<k
 . rw[Q2i (by simpa using hi),Q2h] at h;split at h <;> cases h
 . refine⟨Q15 hi,?_⟩;rw[Q1w (by simpa using hi)] at h;simpa using h
theorem Inv.block {pins:List (Addr × Obj)}{σ:St}{H:Hp}{s:Shared}{fp:List Addr}{cl:List (Str × Addr)}{C D:Addr}{U:Heap}{m:Str->Option Value}{t':Nat}{us:List Value}{n:Nat}(I:Inv X pins σ H s)(S:iQ X own scope)
 (hf:∀b∈fp,ia X pins H b) (ah:∀b∈fp,b<s.heap.objs.size)
 (J:∀x c,cl.lookup x=some c->X.env.cells.lookup x=some c) (ab:∀x,(x,NameKind.free)∈scope.names->cl.lookup x=X.env.cells.lookup x)
 (hC:s.heap.objs.size<=C) (hD:s.heap.objs.size<=D) (ai:D≠C) (hn:U.Ns C m) (aa:∀b o,s.heap.get? b=some o->U.get? b=some o) (ag:U.get? D=some (iK us n)):
 Inv (h8 X own scope cl C fp s H) [(D,iK us n)] (List.replicate own.length none++σ) H { s with heap:=U,toks:=t' }:=by
 have ok:=I.ok
 have mO:∀b:Addr,s.heap.objs.size<=b->b ∉ frs X.stack:=λb Y z=>by
  rcases List.mem_cons.mp (I.n_ b z) with e|e
  . exact absurd I.lt (by rw[<-e];exact Nat.not_lt.mpr Y)
  . exact I.mO Y e
 have fresh:∀b:Addr,s.heap.objs.size<=b->H b=none:=λb Y=>I.hok.fresh Y
 have am:∀x c,cl.lookup x=some c->c<s.heap.objs.size:=λx c e=>by
  obtain⟨v,q⟩:=I.cell x c (J x c e);exact q.lt
 refine⟨⟨ok.mod,S.kind,ok.glob,ok.blt,hC,λx y c e1 e2=>ok.inj x y c (J x c e1) (J y c e2),λx hx=>?_,λx c hx _=>(nomatch hx),ok.hd,ok.frames,.inl rfl,λb Y=>?_,I.bs,Q0f ok.iX I.sz,λb o e Y=>?_,λb Y z=>?_,I.stack,I.pH⟩,
  rfl,I.bare,Un.kept aa,⟨m,hn,λi x v e1 e2 e3=>?_⟩,λx c e=>?_,fresh C hC,λx c e=>?_,λp hp=>?_,I.hok.kept aa,?_⟩
 . have hm:=S.freeOf (x:=x) hx;obtain⟨c,e⟩:=ok.has x (S.free _ hm rfl);exact⟨c,by rw[show(h8 X own scope cl C fp s H).env.cells=cl from rfl,ab x hm];exact e⟩
 . refine⟨Q08 (Q0a (ah b Y) hC),λx c e z=>?_⟩;exact(hf b Y).2.2.2.2.1 x c (J x c e) z
 . rcases(hf b Y).2.2.2.1 with z|z
   . exact ok.kx b o e z
   . exact absurd (Q0a (Q01 e) (Q0f ok.iX z)) (Q0p _)
 . rcases List.mem_cons.mp (I.n_ b z) with q|q
   . exact(hf b Y).2.1 q
   . exact(hf b Y).2.2.1 q
 . obtain⟨hk,aj⟩:=zO e2
   have ac:X.N[i - own.length]? =some x:=by
    have e1:(own++X.N)[i]? =some x:=e1;rw[Q1w hk] at e1;exact e1
   have ak:x∈X.N:=Q0m ac
   have ae:(relabel scope X.env).names.lookup x=some .cell\/(relabel scope X.env).names.lookup x=some .free:=by
    rcases e3 with q|q
    . exact absurd q (S.Fz ak)
    . exact q
   have hm:=S.freeOf ae;have af:=S.free _ hm rfl;obtain⟨mX,an,al⟩:=I.loc;obtain⟨u,r,lk⟩:=al _ x v ac aj (.inr af);refine⟨u,r,.inr ⟨ae,?_⟩⟩;rcases lk with⟨q,_⟩|⟨_,c,ec,hc⟩
   . rcases af with z|z
     . rw[z] at q;cases q
     . rw[z] at q;cases q
   . obtain⟨o,ho,hd⟩:=hc;exact⟨c,(ab x hm).trans ec,o,aa _ _ ho,hd⟩
 . obtain⟨v,o,ho,hd⟩:=I.cell x c (J x c e);exact⟨v,o,aa _ _ ho,hd⟩
 . exact I.ij x c (J x c e)
 . have e:p=(D,iK us n):=by
    have hp:p∈([]++[(D,iK us n)]:List (Addr × Obj)):=hp;simpa using hp
   subst e
   exact⟨ag,fresh D hD,ai,mO D hD,λv z=>by
    have z:Data.seq us.toArray n=Data.cell v:=z
    cases z⟩
 . show _=(own++X.N).length;rw[Q0d,Q0d,Q1l,I.len]
theorem Inv.unblock {pins:List (Addr × Obj)}{σ aa:St}{H H3:Hp}{s s3:Shared}{fp:List Addr}{cl:List (Str × Addr)}{C D:Addr}{h':Heap}{us:List Value}{n:Nat}{ys:List V}{pl:List (Addr × Obj)}(I:Inv X pins σ H s)
 (hf:∀b∈fp,ia X pins H b) (J:Inv (h8 X own scope cl C fp s H) pl aa H3 s3) (ab:(D,iK us n)∈pl) (hC:s.heap.objs.size<=C) (hD:s.heap.objs.size<=D) (ac:D≠C)
 (r:Vals ys us) (hz:ys.length<=sizeLine) (hs:Heap.SameBut C s3.heap h'):Inv X pins σ (upd H3 D (.lst ys)) { s3 with heap:=h' }/\H3 D=none:=by
 obtain⟨eD,nD,_,_,_⟩:=J.pin (D,iK us n) (Q06 _ ab);have nC:H3 C=none:=J.free;have kC:∀b o,b≠C->s3.heap.get? b=some o->h'.get? b=some o:=λb o U e=>(hs.2 b U).trans e;refine⟨I.call' (ch:=fp) J.os ⟨λb o e nb U Y=>?_,λb o e nb U Y=>?_,λb o e nb Y=>?_,λb o e Y=>?_,λb xs e=>?_,λb o u e=>?_,λb ps e=>?_⟩ (λb o e=>?_) J.bare (λb U=>?_),nD⟩
 . exact kC b o (Q08 (Q0a (Q01 e) hC)) (J.base.keep b o e nb U Y)
 . obtain⟨sl,e1⟩:=J.base.slot b o e nb U Y;exact⟨sl,kC b _ (Q08 (Q0a (Q01 e) hC)) e1⟩
 . rw[eE (Q08 (Q0a (Q01 e) hD))];exact J.base.free b o e nb Y
 . obtain⟨o',e1⟩:=J.base.there b o e Y;exact⟨o',kC b _ (Q08 (Q0a (Q01 e) hC)) e1⟩
 . have q:=J.base.tups b xs e;rw[eE (eP q nD)];exact q
 . have q:=J.base.je b o u e;rw[eE (eP q nD)];exact q
 . obtain⟨mo,q⟩:=J.base.jf b ps e;exact⟨mo,by rw[eE (eP q nD)];exact q⟩
 . by_cases U:b=D
   . subst U;rw[eF] at e;cases e;exact⟨hz,us,n,r,kC b _ ac eD⟩
   . rw[eE U] at e;refine(J.hok b o e).stay (λc v hc q=>kC c v ?_ q) (λc q=>by rw[eE (eP q nD)];exact q) λc xs q=>by rw[eE (eP q nD)];exact q
     rcases hc with z|z
     . rw[z];exact eP e nC
     . exact eP z nC
 . obtain⟨_,f1,_,f3,f4,f5⟩:=hf b U;exact⟨f3,f1,f4,f5⟩
theorem zP {tg iter au:Expr}{av:List Expr}{pos:Pos}{g:TG}{tt:TT}{te:TE}{pins:List (Addr × Obj)}{σ:St}{H2:Hp}{I:Shared}{it:Addr}{Y:List Addr}{tn:Nat->Heap->Prop}{J:It}{cl:List (Str × Addr)}{Fin:List V->Hp->Prop}{W:Nat->Nat->List V->Hp->Prop}{m0:Nat}
 {RR:Value->Addr->Result->Shared->Prop} (hc:X.calm=true) (S:iQ X own scope) (aj:∀x c,cl.lookup x=some c->X.env.cells.lookup x=some c) (aH:∀x,(x,NameKind.free)∈scope.names->cl.lookup x=X.env.cells.lookup x)
 (I2:Inv X pins σ H2 I) (T:Turn X.prog X.w X.K tg J Y it tn) (az:tn 0 I.heap) (f2:∀b∈Y,ia X pins H2 b) (w0:W 0 m0 [] H2)
 (turn:∀i m ys H,W i m ys H->(J.stop i H/\Fin ys H)\/
   (J.go i H/\ys.length<sizeLine/\∀x H',J.jJ i H x H'->g x (List.replicate own.length none++σ) H' λaw H2=>aw.drop own.length=σ/\
     tt aw H2 λb H3=>if b=true then te aw H3 λy H4=>∃m',m'<m/\W (i+1) m' (ys++[y]) H4 else ∃m',m'<m/\W (i+1) m' ys H3))
 (hg:∀cl C Y ae af,PG (h8 X own scope cl C Y ae af) tg g) (ht:∀cl C Y ae af,oG (h8 X own scope cl C Y ae af) av tt) (he:∀cl C Y ae af,PE (h8 X own scope cl C Y ae af) au te)
 (aL:∀(C D:Addr) (s5:Shared) (H5:Hp) (ys:List V) (us:List Value) (k:Nat),I.heap.objs.size<=C->I.heap.objs.size<=D->D≠C->Inv (h8 X own scope cl C Y I H2) [(D,iK us k)] (List.replicate own.length none++σ) H5 s5->Vals ys us->ys.length<=sizeLine->Fin ys H5->RR (.ref D) C (.ok .next) s5):
 wpAny (model X.prog X.w) X.A (newList []) (λaA ag=>wpAny (model X.prog X.w) X.A (newFunctionEnv scope X.env.globals cl [] X.env.qual none .none (some X.env)) (λam aI=>
  codeAny (model X.prog X.w) X.A (.compStart (.ListComp au [⟨tg,iter,av,0⟩] scope pos) 0 (.ref it) aA { am with scope:=relabel scope X.env }) (RR aA am.locals) aI) X.xe ag) X.xe I:=by
 have al:∀b∈Y,b<I.heap.objs.size:=λb U=>by
  obtain⟨o,e,_⟩:=T.obj _ _ az b U;exact Q01 e
 refine wpAny_newObj_type (wpAny_newFunctionEnv S.cell (by intro y hy;simp at hy) (λah ab aa=>?_) S.kind);dsimp only at ab aa ⊢;generalize hG:I.heap.push { cls:=.type "list",dict:=none,data:=.seq ([]:List Value).toArray }=G at ab aa ⊢;have aB:G.objs.size=I.heap.objs.size+1:=by rw[<-hG,Q1u]
 have hC:I.heap.objs.size<=G.objs.size:=by rw[aB];exact Q19 _
 have ax:I.heap.objs.size≠G.objs.size:=by rw[aB];exact Q08 (Q1 _)
 have aC:∀b o,I.heap.get? b=some o->ah.get? b=some o:=λb o e=>
  aa.extBut b o (Q08 (Q0a (Q01 e) hC)) (Q09 _ (hG ▸ Q09 _ e))
 have aJ:ah.get? I.heap.objs.size=some (iK [] 0):=aa.extBut _ _ ax (Q09 _ (hG ▸ Q0l _ rfl));have I3:=I2.block (cl:=cl) (t':=I.toks+([]:List (Str × Value)).length) S f2 al aj aH hC (Q00 _) ax ab aC aJ;have aD:tn 0 ah:=T.keep _ _ _ az λb _ o e=>aC b o e;have aM:∀b∈Y,H2 b=none:=λb U=>(f2 b U).1
 have ak:∀{H':Hp} {us:List Value} {n:Nat},(∀b∈Y,H' b=none)->∀b∈Y,ia (h8 X own scope cl G.objs.size Y I H2) [(I.heap.objs.size,iK us n)] H' b:=λ{H' us n} hn b U=>by
  refine⟨hn b U,Q08 (Q0a (al b U) hC),λz=>?_,.inl U,λx c e=>(f2 b U).2.2.2.2.1 x c (aj x c e),λp hp=>?_⟩
  . rcases List.mem_cons.mp (I2.n_ b z) with q|q
    . exact(f2 b U).2.1 q
    . exact(f2 b U).2.2.1 q
  . have hp:p∈([]++[(I.heap.objs.size,iK us n)]:List (Addr × Obj)):=hp;have e:p=(I.heap.objs.size,iK us n):=by simpa using hp
    subst e;exact Q0s (al b U)
 have an:∀ag:Shared,ag={ I with heap:=ah,toks:=I.toks+([]:List (Str × Value)).length }->
  codeAny (model X.prog X.w) X.A (.compLoop (.ListComp au [⟨tg,iter,av,0⟩] scope pos) 0 (.ref it) (.ref I.heap.objs.size) (compEnvC scope cl G.objs.size X.env))
   (RR (.ref I.heap.objs.size) G.objs.size) ag:=by
  rintro ag rfl
  refine Fy (λn s'=>∃i ys us k H',Inv (h8 X own scope cl G.objs.size Y I H2) [(I.heap.objs.size,iK us k)] (List.replicate own.length none++σ) H' s'/\Vals ys us/\ys.length<=sizeLine/\tn i s'.heap/\(∀b∈Y,H' b=none)/\W i n ys H')
   ?_ m0 ⟨0,[],[],0,H2,I3,.nil,Q07 _,aD,aM,w0⟩
  intro n s4 zq;obtain⟨i,ys,us,k,H4,I4,r4,z4,aE,aF,w4⟩:=zq;rcases turn i n ys H4 w4 with⟨stop,qn⟩|⟨go,aP,step⟩
  . refine eZ (T.done (h8 X own scope cl G.objs.size Y I H2) rfl rfl rfl hc i _ s4 _ H4 (λ_ _=>False) I4 (ak aF) aE stop) λr s5 ⟨hr,I5⟩=>?_;subst hr;exact aL G.objs.size I.heap.objs.size s5 H4 ys us k hC (Q00 _) ax I5 r4 z4 qn
  . refine eZ (T.item (h8 X own scope cl G.objs.size Y I H2) rfl rfl rfl hc i _ s4 _ H4 (λ_ _=>False) I4 (ak aF) aE go) λr s5 ⟨u,hr,h5⟩=>?_;subst hr;refine eZ h5 λ_ s6 zq=>?_;obtain⟨x,H6,I6,r6,y6,ai,aQ⟩:=zq;have aT:=I6.pinned (ak aQ) (T.obj _ _ ai);refine eZ (hg cl G.objs.size Y I H2 _ s6 _ H6 x u _ aT r6 (step x H6 y6)) λ_ s7 zq=>?_;obtain⟨ac,H7,I7,d7,q7⟩:=zq;refine eZ (ht cl G.objs.size Y I H2 _ s7 ac H7 _ I7 q7) λb s8 ⟨H8,I8,q8⟩=>?_;have ao:(List.replicate own.length none++σ).length=ac.length:=by rw[I7.len,<-I6.len]
    have ap:∀(j:Nat) v,(List.replicate own.length none++σ)[j]? =some (some v)->ac[j]? =some (some v):=λj v e=>by
     obtain⟨hk,e'⟩:=zO e;rw[<-d7,List.getElem?_drop] at e';rw[<-e'];congr 1;omega
    cases b with
    |false=>
     have q8:∃m',m'<n/\W (i+1) m' ys H8:=q8;obtain⟨m',hm,w8⟩:=q8;refine⟨m',hm,i+1,ys,us,k,H8,I8.kz.weak ao ap,r4,z4,T.keep _ _ _ ai λb U o e=>?_,λb U=>?_,w8⟩
     . exact(I8.pin (b,o) (Q06 _ (Q06 _ (oi U e)))).1
     . obtain⟨o,e,d⟩:=T.obj _ _ ai b U;exact(I8.pin (b,o) (Q06 _ (Q06 _ (oi U e)))).2.1
    |true=>
     have q8:te ac H8 λy H9=>∃m',m'<n/\W (i+1) m' (ys++[y]) H9:=q8;show wpAny _ _ _ _ _ _;refine eZ (he cl G.objs.size Y I H2 _ s8 ac H8 _ I8 q8) λyv s9 zq=>?_;obtain⟨y,H9,I9,r9,m',hm,w9⟩:=zq;obtain⟨eD,nD,aG,aU,_⟩:=I9.pin (I.heap.objs.size,iK us k) (Q06 _ (Q0u _ Q05));have hl:=r4.length;refine append_at (hsz:=by rw[Q02,<-hl];exact z4) eD λay aq aK=>?_
     have ar:∀b∈Y,∀o,s6.heap.get? b=some o->s9.heap.get? b=some o/\H9 b=none:=λb U o e=>by
      have q:=I9.pin (b,o) (Q06 _ (Q06 _ (oi U e)));exact⟨q.1,q.2.1⟩
     have aV:∀b∈Y,b≠I.heap.objs.size:=λb U=>Q08 (al b U);have aW:Inv (h8 X own scope cl G.objs.size Y I H2) [] ac H9 s9:=I9.lC λp hp=>(nomatch hp)
     have aX:Inv (h8 X own scope cl G.objs.size Y I H2) [] ac H9 { s9 with heap:=ay }:=
      aW.turned (t':=s9.toks) (λb o U e=>aq.extBut b o U e) nD aG (.inr (Q00 _)) (λx c e z=>by
        obtain⟨v,q⟩:=I2.cell x c (aj x c e);exact absurd q.lt (by rw[z];exact Q0p _)) λp hp=>(nomatch hp)
     have aY:Inv (h8 X own scope cl G.objs.size Y I H2) [(I.heap.objs.size,iK (us++[yv]) (k+1))] ac H9 { s9 with heap:=ay }:=aX.lC λp hp=>by
      have e:p=(I.heap.objs.size,iK (us++[yv]) (k+1)):=by simpa using hp
      subst e
      refine⟨?_,nD,aG,aU,λv z=>by
       have z:Data.seq (us++[yv]).toArray (k+1)=Data.cell v:=z
       cases z⟩
      show ay.get? _=some { cls:=.type "list",data:=.seq (us++[yv]).toArray (k+1) };rw[<-List.push_toArray];exact aK
     refine⟨m',hm,i+1,ys++[y],us++[yv],k+1,H9,aY.weak ao ap,r4.append (.cons r9 .nil),by rw[Q0d,Q1n];exact aP,T.keep _ _ _ ai λb U o e=>aq.extBut b o (aV b U) (ar b U o e).1,λb U=>?_,w9⟩;obtain⟨o,e,d⟩:=T.obj _ _ ai b U;exact(ar b U o e).2
 exact codeAny_compStart_list (an _ rfl) (T.self _ 0 _ _ _ aD (an _ rfl))
theorem kL {tg iter ab:Expr}{ac:List Expr}{pos:Pos}{wi:TI}{g:TG}{tt:TT}{te:TE}(hc:X.calm=true)(S:iQ X own scope)(hi:PI X tg iter wi)
 (hg:∀cl C fp U Y,PG (h8 X own scope cl C fp U Y) tg g) (ht:∀cl C fp U Y,oG (h8 X own scope cl C fp U Y) ac tt)
 (he:∀cl C fp U Y,PE (h8 X own scope cl C fp U Y) ab te) (hs:∀x,foldedSetIterable iter X.env x=pure x:=by intro _;rfl):
 PE X (.ListComp ab [⟨tg,iter,ac,0⟩] scope pos) (zN own.length wi g tt te):=by
 intro pins s σ H Q I h;obtain⟨cl,aa,ae,af⟩:=rX (S.cells I);rw[eval_ListComp];refine wpAny_comprehension_free (use:=none) rfl hs aa S.kind S.names ?_;refine eZ (hi pins s σ H _ I h) λv s1 h1=>eZ h1 λal s2 h2=>?_;obtain⟨it,fp,tn,J,H2,ag,I2,T,ah,f2,W,⟨m0,w0⟩,turn⟩:=h2;subst ag;refine zP (RR:=λai C=>compPost (model X.prog X.w) X.A X.xe none (EP X pins σ Q) ai C) hc S ae af I2 T ah f2 w0 turn hg ht he ?_;intro C D s5 H5 ys us k hC hD aj I5 r5 z5 fin;obtain⟨m5,n5,_⟩:=id I5.loc;refine⟨m5,n5,λh' ak=>?_⟩;obtain⟨I6,nD⟩:=I2.unblock f2 I5 Q05 hC hD aj r5 z5 ak;exact⟨.ref D,_,I6,rfl,fin _ nD⟩
theorem oH {i:Nat}{y:Str}{py aa:Pos}{tg iter ab:Expr}{ac:List Expr}{pos:Pos}{wi:TI}{g:TG}{tt:TT}{te:TE}(hN:X.N.Nodup)(hy:X.N[i]? =some y)(hL:Loc X.env.scope y)(hc:X.calm=true)(S:iQ X own scope)(hi:PI X tg iter wi)
 (hg:∀cl C fp U Y,PG (h8 X own scope cl C fp U Y) tg g) (ht:∀cl C fp U Y,oG (h8 X own scope cl C fp U Y) ac tt)
 (he:∀cl C fp U Y,PE (h8 X own scope cl C fp U Y) ab te) (hf:X.fn y=true\/X.env.scope.names.lookup y=some .local:=by first|exact .inl rfl|exact .inr rfl|assumption)
 (al:swapsWith (.ListComp ab [⟨tg,iter,ac,0⟩] scope pos) (some (.Name y py)) aa.line X.env=pure true:=by rfl) (hs:∀x,foldedSetIterable iter X.env x=pure x:=by intro _;rfl):
 PS X (.Assign [.Name y py] (.ListComp ab [⟨tg,iter,ac,0⟩] scope pos) aa) (lH (zN own.length wi g tt te) (gS i)):=by
 intro pins s σ H E I h;obtain⟨cl,ae,ai,aj⟩:=rX (S.cells I);rw[exec_Assign_Name_used _ _ _ _ al];refine Q0 (wpAny_standAt (Q0 ?_));show wpAny _ _ (do let _ <-comprehension _ scope X.env _ (newList []) false (eval iter X.env) (some (assign (.Name y py) X.env))) _ _ s
 refine Q0 (eZ (wpAny_comprehension_free (use:=some (assign (.Name y py) X.env)) (Q:=λ_ s'=>SP X pins E .next s') rfl hs ae S.kind S.names
  (eZ (hi pins s σ H _ I h) λv s1 h1=>eZ h1 λar s2 h2=>?_)) λ_ s' hq=>Q0c (Q0c hq))
 obtain⟨it,fp,tn,J,H2,am,I2,T,an,f2,W,⟨m0,w0⟩,turn⟩:=h2;subst am;refine zP (RR:=λao C=>compPost (model X.prog X.w) X.A X.xe (some (assign (.Name y py) X.env)) (λ_ s'=>SP X pins E .next s') ao C) hc S ai aj I2 T an f2 w0 turn hg ht he ?_;intro C D s5 H5 ys us k hC hD ag I5 r5 z5 fin;obtain⟨m5,n5,_⟩:=id I5.loc;obtain⟨I6,nD⟩:=I2.unblock f2 I5 Q05 hC hD ag r5 z5 (Heap.SameBut.refl C s5.heap);obtain⟨oC,es,ep,eC,dC,rC⟩:=id n5;have nC:upd H5 D (.lst ys) C=none:=by rw[eE (Ne.symm ag)];exact I5.free
 have ah:C≠X.env.locals:=Q0s (Q0a I2.lt hC)
 have af:∀x c,X.env.cells.lookup x=some c->c≠C:=λx c e z=>by
  obtain⟨v,q⟩:=I2.cell x c e;exact absurd q.lt (by rw[z];exact Nat.not_lt.mpr hC)
 have ak:∀p∈X.pn++pins,p.1≠C:=λp hp z=>by
  have:=Q01 (I2.pin p hp).1;rw[z] at this;exact absurd this (Nat.not_lt.mpr hC)
 have I7:Inv X (pins++[(C,oC)]) σ (upd H5 D (.lst ys)) s5:=by
  refine I6.lC λp hp=>?_;rcases List.mem_append.mp hp with z|z
  . exact I6.pin p (Q06 _ z)
  . have e:p=(C,oC):=by simpa using z
    subst e
    exact⟨eC,nC,ah,I2.mO hC,λv z=>by
     have z:oC.data=Data.cell v:=z;rw[dC] at z;cases z⟩
 show wpAny _ _ (assign (.Name y py) X.env (.ref D)) _ _ s5;refine wpAny_assign_Name (og (v:=.ref D) I7 hN hy hL rfl (λs8 I8=>?_) hf);obtain⟨ap,au,_⟩:=I8.pin (C,oC) (Q06 _ (Q06 _ Q05));refine⟨_,⟨oC,es,ep,ap,dC,rC⟩,λh' aq=>?_⟩
 have I9:Inv X pins (σ.set i (some (.ref D))) (upd H5 D (.lst ys)) { s8 with heap:=h' }:=
  I8.kz.turned (t':=s8.toks) (λb o hb e=>(aq.2 b hb).trans e) nC ah (.inr (Q0f I2.sz hC)) af ak
 exact⟨_,_,I9,fin _ nD⟩
end
section
variable {X:Cx}
theorem zQ {e:Expr}:PE X e (λ_ _ _=>False):=λ_ _ _ _ _ _ h=>h.elim
theorem FC {e:Expr}:PT X e (λ_ _ _=>False):=λ_ _ _ _ _ _ h=>h.elim
theorem il:i2 X (.builtin "isinstance") (λxs H Q=>∃x T t b,xs=[x,.ty T]/\iP X.K H x t/\W.kitOne X.K t (.type T)=some b/\Q (.bl b) H):=by
 intro pins s σ H xs us Q I r h;obtain⟨x,T,t,b,rfl,ty,e,q⟩:=h;obtain⟨u,c,rfl,J,U⟩:=vals2 r
 cases U;exact Ex I J ty e λtk=>⟨.bl b,H,I.tok tk,rfl,q⟩
theorem rY:i2 X (.builtin "len") (λxs H Q=>(∃a kvs,xs=[V.ref a]/\H a=some (.dK kvs)/\Q (.int kvs.length) H)\/∃p ys,xs=[.ref p]/\(eB X.K H p ys\/d_ X.K H p ys)/\Q (.int ys.length) H):=by
 intro pins s σ H xs us Q I r h;rcases h with h|h
 . exact zK pins s σ H xs us Q I r h
 . exact gY pins s σ H xs us Q I r h
theorem zR:∀{ss:List Str}{vs:List Value},Vals (ss.map V.str) vs->StrsAre vs ss
 |[],_,r=>by cases r;exact .nil
 |y::r,_,h=>by
  cases h with
  |cons a b=>
   obtain⟨t,e⟩:=a;subst e;exact .cons y t (zR b)
theorem zS:∀{vs:List Value}{ss:List Str},StrsAre vs ss->Vals (ss.map V.str) vs
 |_,_,.nil=>.nil
 |_,_,.cons y t h=>.cons ⟨t,rfl⟩ (zS h)
theorem FD:i2 X (.builtin "sorted") (λxs H Q=>∃a ss,xs=[.ref a]/\eB X.K H a (ss.map V.str)/\ss.length<64/\
 ∀p J,H p=none->J.Perm ss->sortedS J=true->Q (.ref p) (upd H p (.lst (J.map V.str)))):=by
 intro pins s σ H xs us Q I r h;obtain⟨a,ss,rfl,hq,aa,q⟩:=h;obtain⟨u,rfl,ru⟩:=vals1 r
 cases ru;obtain⟨U,Y,pl,hz⟩:=I.list hq;have hl:U.length=ss.length:=by rw[<-Y.length,Q04]
 refine sorted_strs pl.isList (zR Y) (by omega) λout J h1 h2 h3=>?_;obtain⟨e,he⟩:=sortedAll_at s.heap U out;refine⟨.ref (s.heap.objs.size+1),upd H (s.heap.objs.size+1) (.lst (J.map V.str)),I.laid (t':=s.toks) (λ_ _=>sortedAll_old) (Q19 _) ?_,rfl,q _ J (I.hok.fresh (Q19 _)) h2 h3⟩;refine⟨?_,out.toList,e,zS h1,he⟩;rw[Q04,h2.length_eq];have:ss.length<=1000:=by omega
 exact Q0k (gE this)
noncomputable def lY (I:List Value) (i:Nat):Bool:=match I[i]? with
 |some (.bool b)=>b
 |_=>false
theorem FE:∀{bs:List Bool}{I:List Value},Vals (bs.map V.bl) I->(List.range I.length).all (lY I)=bs.all id:=by
 intro bs I r
 have key:∀i,i<bs.length->lY I i=bs.getD i false:=λi hi=>by
  have e:(bs.map V.bl)[i]? =some (.bl bs[i]):=by rw[Q0q,Q03 hi];rfl
  obtain⟨u,U,Y⟩:=r.get e
  cases Y;unfold lY;rw[U,Q0e,Q03 hi];rfl
 have hl:I.length=bs.length:=by rw[<-r.length,Q04]
 rw[hl,Bool.eq_iff_iff,Q0z,Q0z];constructor
 . intro h b hb;obtain⟨i,hi,e⟩:=Q16 hb;have q:=h i (List.mem_range.mpr hi);rw[key i hi,Q0e,Q03 hi,Q2n,e] at q;exact q
 . intro h i hi;have J:=List.mem_range.mp hi;rw[key i J,Q0e,Q03 J,Q2n];exact h _ (Q0v J)
theorem rZ (hc:X.calm=true):i2 X (.builtin "all") (λxs H Q=>∃(a:Addr) (bs:List Bool),xs=[.ref a]/\eB X.K H a (bs.map V.bl)/\Q (.bl (bs.all id)) H):=by
 intro pins s σ H xs us Q I r h;obtain⟨a,bs,rfl,hq,q⟩:=h;obtain⟨u,rfl,ru⟩:=vals1 r
 cases ru;obtain⟨J,rv,pl,hz⟩:=I.list hq;have aa:a<s.heap.objs.size:=by obtain⟨_,e,_⟩:=pl.isList;exact Q01 e
 refine call_all_walk (wpAny_pyIter_list pl.isList ?_);refine⟨s.heap.objs.size,_,_,_,_,_,lY J,rfl,Walks.list (show X.A.in1.handled=none from I.ok.hd hc) s.heap.objs.size a (Q08 aa) J.toArray,⟨⟨_,Q0l _ rfl,rfl,rfl⟩,pl.isList.push _⟩,λi v s' Q' E' hP hQ=>?_,λh' tk hk=>?_⟩
 . have e:J[i]? =some v:=by simpa using hP
   have hi:i<J.length:=(List.getElem?_eq_some_iff.mp e).1;have hb:i<(bs.map V.bl).length:=by rw[rv.length];exact hi
   obtain⟨w',ew,U⟩:=rv.get (Q03 hb);rw[e] at ew;cases ew;rw[List.getElem_map] at U
   cases U;refine wpAny_truthy_bool ?_;have Y:lY J i=bs[i]'(by simpa using hb):=by unfold lY;rw[e]
   rw[Y] at hQ;exact hQ
 . have e:(List.range J.toArray.size).all (lY J)=bs.all id:=by rw[Q02];exact FE rv
   rw[e];have ns:H s.heap.objs.size=none:=I.hok.fresh (Q00 _);refine⟨.bl (bs.all id),H,I.kept (h':=h') (t':=tk) λb o Y=>hk b o ?_ (Q09 _ Y),rfl,q⟩;intro hm;have:b=s.heap.objs.size:=by simpa using hm
   exact absurd (Q01 Y) (by rw[this];exact Q0p _)
noncomputable def Ite (K:W.Frag) (a:Addr):It:=
 ⟨λi H=>∃xs x,eB K H a xs/\xs[i]? =some x,
  λi H x H'=>∃p y,H p=none/\x=.ref p/\(∀xs,eB K H a xs->xs[i]? =some y)/\H'=upd H p (.tup [.int i,y]),
  λi H=>∃xs,eB K H a xs/\xs.length<=i⟩
theorem FF {P:Program}{w:World}{K:W.Frag}{ac:List Expr}{k:Nat}{tpos:Pos}{a e it:Addr}(aa:e≠it):
 Turn P w K (.Tuple ac k tpos) (Ite K a) [e,it] e (λi h=>∃U,IsEnum h e it (i:Int) U/\h.IsListIter it a i) where
 mem:=by simp
 obj:=λi h st b J=>by
  obtain⟨U,h1,h2⟩:=st;have J:b=e\/b=it:=by simpa using J
  rcases J with rfl|rfl
  . exact⟨_,h1,λv z=>by
     have z:Data.fields _=Data.cell v:=z
     cases z⟩
  . obtain⟨o,q,c,d⟩:=h2;exact⟨o,q,λv z=>by rw[d] at z;cases z⟩
 keep:=λi h h' st k=>by
  obtain⟨U,h1,h2⟩:=st;exact⟨U,k e (by simp) _ h1,h2.at λo q=>k it (by simp) o q⟩
 item:=by
  intro X hP hw hK hc i pins s σ H E I hf st hg;subst hP hw hK;obtain⟨U,h1,h2⟩:=st;obtain⟨xs,x,hq,hx⟩:=hg;obtain⟨ae,rv,p,hz⟩:=I.list hq;obtain⟨u,hu,ru⟩:=rv.get hx;obtain⟨e0,e1,e2,e3,e4,e5⟩:=hf e (by simp);obtain⟨f0,f1,f2,f3,f4,f5⟩:=hf it (by simp);have fr:H s.heap.objs.size=none:=I.hok.fresh (Q00 _);refine wpAny_pyNext_enum_item h1 h2 p.isList (x:=u) (by simpa using hu) aa λh' q1 q2 q3 q4 q5=>?_;refine(Zr rfl (wpAny_letOwnedTupleGo_enum (s:={ s with heap:=h',toks:=s.toks+1 }) q1 λY g1 g2=>?_));have af:∀b o,s.heap.get? b=some o->b≠s.heap.objs.size:=λb o q=>Q08 (Q01 q);have kk:∀b o,b≠e->b≠it->s.heap.get? b=some o->Y.get? b=some o:=λb o n1 n2 q=>g2.extBut b o n1 (q5 b o n1 n2 q);have pe:s.heap.objs.size≠e:=Q0s (Q01 h1);have tup:Y.get? s.heap.objs.size=some { cls:=.type "tuple",data:=.seq #[.int i s.toks,u] }:=g2.extBut _ _ pe q3
  have I1:Inv X pins σ (upd H s.heap.objs.size (.tup [.int i,x])) { s with heap:=Y,toks:=s.toks+1 }:=by
   refine I.step (g':=s.gens) (d':=s.drawn) (ch:=[e,it]) (λb J=>?_) (λb o _ _ hc q _=>?_) (λb o _ _ hc q _=>?_) (λb o _ q n=>?_) (λb o hc q=>?_) (λb ys q=>?_) (λb o v q=>?_) (λb ps q=>?_) (λm hm=>?_) (λb o q=>?_) I.bare
   . have J:b=e\/b=it:=by simpa using J
     rcases J with rfl|rfl
     . exact⟨e3,e1,e4,e5⟩
     . exact⟨f3,f1,f4,f5⟩
   . exact kk b o (λz=>hc (by simp[z])) (λz=>hc (by simp[z])) q
   . exact⟨o.slots,kk b o (λz=>hc (by simp[z])) (λz=>hc (by simp[z])) q⟩
   . rw[eE (af b o q)];exact n
   . exact⟨o,kk b o (λz=>hc (by simp[z])) (λz=>hc (by simp[z])) q⟩
   . rw[eE (eP q fr)];exact q
   . rw[eE (eP q fr)];exact q
   . exact⟨#[],by rw[eE (eP q fr),q];simp⟩
   . obtain⟨o,es,ep,ho,r⟩:=hm;exact⟨o,es,ep,kk _ o (Ne.symm e1) (Ne.symm f1) ho,r⟩
   . by_cases J:b=s.heap.objs.size
     . subst J;rw[eF] at q;cases q;refine⟨vE,[.int i s.toks,u],.cons ⟨_,rfl⟩ (.cons ru .nil),?_⟩;exact⟨_,tup,rfl,_,rfl⟩
     . rw[eE J] at q;refine(I.hok b o q).stay (λc v ab z=>kk c v ?_ ?_ z) (λc z=>by rw[eE (eP z fr)];exact z) λc ys z=>by rw[eE (eP z fr)];exact z
       . rcases ab with z|z
         . rw[z];exact eP q e0
         . exact eP z e0
       . rcases ab with z|z
         . rw[z];exact eP q f0
         . exact eP z f0
  refine⟨.ref s.heap.objs.size,_,I1,rfl,⟨s.heap.objs.size,x,fr,rfl,λys hy=>by rw[I.pL hy hq];exact hx,rfl⟩,⟨u,?_,q2.extBut g2.extBut (Ne.symm aa)⟩,λb J=>?_⟩
  . have ei:((i+1:Nat):Int)=(i:Int)+1:=by omega
    show IsEnum Y e it ((i+1:Nat):Int) u;rw[ei];exact g1
  . have ag:b=e\/b=it:=by simpa using J
    have ah:b<s.heap.objs.size:=by
     rcases ag with rfl|rfl
     . exact Q01 h1
     . obtain⟨o,q,_⟩:=h2;exact Q01 q
    rw[eE (Q08 ah)];exact(hf b J).1
 done:=by
  intro X hP hw hK hc i pins s σ H E I hf st hg;subst hP hw hK;obtain⟨U,h1,h2⟩:=st;obtain⟨xs,hq,hx⟩:=hg;obtain⟨ae,rv,p,hz⟩:=I.list hq;obtain⟨f0,f1,f2,f3,f4,f5⟩:=hf it (by simp);have hl:=rv.length;exact wpAny_pyNext_enum_end (I.ok.hd hc) h1 h2 p.isList (by simp;omega) λh' eb=>⟨rfl,I.turned (t':=s.toks) (λb o J q=>eb b o J q) f0 f1 f3 f4 f5⟩
 self:=λA i s Q E st q=>by
  obtain⟨U,h1,_⟩:=st;exact wpAny_pyIter_enum h1 q
def FG (K:W.Frag) (ta:TA):TI:=λσ H R=>ta σ H λvs H1=>∃a,vs=[.ref a]/\(∃xs,eB K H1 a xs)/\R (Ite K a) H1
theorem FH:bootBuiltins "enumerate"=some (.type "enumerate"):=by decide +kernel
theorem r8 {a:Expr}{ta:TA}{p pos tpos:Pos}{Y:List Expr}{k:Nat}(hg:Gl X "enumerate")(hm:X.mg "enumerate"=none)(ha:PA X [a] ta)(hs:starEach [a] X.env=[(false,eval a X.env)]:=by rfl):
 PI X (.Tuple Y k tpos) (.Call (.Name "enumerate" p) [a] [] pos) (FG X.K ta):=by
 intro pins s σ H R I h;refine Call_ (lD I hg hm FH (PyProof.Rows.callWith_type1 (eZ (ha pos pins s σ H _ I h) λus J zq=>?_) hs rfl));obtain⟨vs,H1,I1,r1,q1⟩:=zq;obtain⟨l,e,⟨xs,hq⟩,q⟩:=q1;subst e;obtain⟨u,rfl,ru⟩:=vals1 r1
 cases ru;obtain⟨aa,rv,pl,hz⟩:=I1.list hq;refine call_enumerate_list pl.isList λh' q1 q2 q3 q4=>?_;refine wpAny_pyIter_enum q1 ?_;have I2:Inv X pins σ H1 { J with heap:=h' }:=I1.kept (t':=J.toks) q4;refine⟨J.heap.objs.size+1,[J.heap.objs.size+1,J.heap.objs.size],_,_,H1,rfl,I2,FF (Q0s (Q1 _)),⟨.none,q1,q2⟩,λb U=>?_,q⟩
 have U:J.heap.objs.size<=b:=by
  have U:b=J.heap.objs.size+1\/b=J.heap.objs.size:=by simpa using U
  rcases U with z|z
  . rw[z];exact Q19 _
  . rw[z];exact Q00 _
 exact I1.lI U (I1.hok.fresh U)
theorem boot_zip:bootBuiltins "zip"=some (.type "zip"):=by decide +kernel
theorem FI:gn X (binaryOp .Mult) (λx y H Q=>∃z i,x=.str z/\y=.int i/\MulOk z i/\Q (.str (Txt.mul z i)) H):=by
 intro pins s σ H x y v u Q I J U h;obtain⟨z,i,rfl,rfl,ok,q⟩:=h;obtain⟨t,rfl⟩:=J;obtain⟨t',rfl⟩:=U;exact SB.mul ok λY k=>⟨.str (Txt.mul z i),H,I.tok k,⟨_,rfl⟩,q⟩
theorem zT {v:Value}{o:Option Int}(h:IsPart v o):(v=.none/\o=none)\/∃i t,v=.int i t/\o=some i:=by
 cases h with
 |none=>exact .inl ⟨rfl,rfl⟩
 |int i t=>exact .inr ⟨i,t,rfl,rfl⟩
theorem p6:rN X (λx lo hi H Q=>∃z,x=.str z/\z.length<=sizeLine/\Q (.str (Txt.slice z lo hi)) H):=by
 intro pins s σ H x v vl vu lo hi sl Q I rx hs pl pu h;obtain⟨z,rfl,hz,q⟩:=h;obtain⟨t,rfl⟩:=rx
 have fin:∀{lo hi:Option Int} (q:Q (.str (Txt.slice z lo hi)) H),(Txt.slice z lo hi).length<=sizeLine/\∀t' k,EP X pins σ Q (.str (Txt.slice z lo hi) t') { s with toks:=k }:=
  λq=>⟨Q0f (Txt.slice_le z _ _) hz,λt' k=>⟨.str _,H,I.tok k,⟨t',rfl⟩,q⟩⟩
 refine⟨"str",_,F.slot_str_getitem.lookup,typeIs_str _ _ _,?_⟩;obtain⟨o,J,hc,hd⟩:=hs;rcases zT pl with⟨U,rfl⟩|⟨i,Y,U,rfl⟩ <;> rcases zT pu with⟨e2,rfl⟩|⟨j,tj,e2,rfl⟩ <;> subst U <;> subst e2
 . exact wpAny_getItem_str_slice (l:=none) (u:=none) (st:=none) ⟨o,J,hc,hd⟩ rfl (post_val_or_str (fin q))
 . exact wpAny_getItem_str_slice (l:=none) (u:=some (j,tj)) (st:=none) ⟨o,J,hc,hd⟩ rfl (post_val_or_str (fin q))
 . exact wpAny_getItem_str_slice (l:=some (i,Y)) (u:=none) (st:=none) ⟨o,J,hc,hd⟩ rfl (post_val_or_str (fin q))
 . exact wpAny_getItem_str_slice (l:=some (i,Y)) (u:=some (j,tj)) (st:=none) ⟨o,J,hc,hd⟩ rfl (post_val_or_str (fin q))
end
theorem yes {σ:St}{H:Hp}{Q:Bool->Hp->Prop}(h:Q true H):kK σ H Q:=h
section
variable {K:W.Frag}{σ:St}{H:Hp}{Q:VK}{D:Ends}
theorem ip {i:Nat}{a b:Str}{T U:TS}(h:σ[i]? =some (some (.str a)))(I:decide (V.str a=V.str b)=true)(q:T D σ H):j2 (kH (gT kF (fT i) (tC (.str b)))) T U D σ H:=
 ⟨_,h,rfl,Zr rfl (by rw[I];exact fw q)⟩
theorem gf {i:Nat}{a b:Str}{T U:TS}(h:σ[i]? =some (some (.str a)))(I:decide (V.str a=V.str b)=false)(q:U D σ H):j2 (kH (gT kF (fT i) (tC (.str b)))) T U D σ H:=
 ⟨_,h,rfl,Zr rfl (by rw[I];exact e_ q)⟩
theorem h9 {i:Nat}{p:Addr}{xs:List V}{a b:Str}{T U:TS}(h:σ[i]? =some (some (.ref p)))(h2:H p=some (.tup xs))(I:xs[0]? =some (.str a))(J:decide (V.str a=V.str b)=true)(q:T D σ H):
 j2 (kH (gT kF (gT (i3 K) (fT i) (tC (.int 0))) (tC (.str b)))) T U D σ H:=
 ⟨_,h,p,xs,0,.str a,rfl,rfl,d_.of h2,gz (j:=0) I,rfl,Zr rfl (by rw[J];exact fw q)⟩
theorem fU {i:Nat}{p:Addr}{xs:List V}{a b:Str}{T U:TS}(h:σ[i]? =some (some (.ref p)))(h2:H p=some (.tup xs))(I:xs[0]? =some (.str a))(J:decide (V.str a=V.str b)=false)(q:U D σ H):
 j2 (kH (gT kF (gT (i3 K) (fT i) (tC (.int 0))) (tC (.str b)))) T U D σ H:=
 ⟨_,h,p,xs,0,.str a,rfl,rfl,d_.of h2,gz (j:=0) I,rfl,Zr rfl (by rw[J];exact e_ q)⟩
end
end L2
namespace L2
noncomputable def r_ (own N:List Str) (scope sc:Scope):Bool:=
 scope.names.all (λy=>decide (y.2≠ .cell)) && scope.names.all (λy=>decide (y.2=.local->scope.names.lookup y.1=some .local)) &&
 scope.names.all (λy=>decide (y.2=.free->sc.names.lookup y.1=some .cell\/sc.names.lookup y.1=some .free)) && decide (own++N).Nodup && N.all λx=>decide (scope.names.lookup x≠some .local)
theorem iQ.of {X:Cx}{own N:List Str}{scope sc:Scope}(I:X.env.scope=sc)(J:X.N=N)(k:scope.kind=.function)(c:r_ own N scope sc=true):iQ X own scope:=by
 unfold r_ at c;simp only[Bool.and_eq_true,Q0z,decide_eq_true_eq] at c;obtain⟨⟨⟨⟨U,Y⟩,c3⟩,c4⟩,c5⟩:=c;exact⟨k,U,Y,λy hy hf=>by rw[show X.env.kindOf y.1=X.env.scope.names.lookup y.1 from rfl,I];exact c3 y hy hf,by rw[J];exact c4,by rw[J];exact c5⟩
end L2
namespace j7
open W PyProof.Rows
noncomputable def fH {α:Type}(f:Nat->Nat->Bool):KasT α->α
 | .ret a=>a
 | .ask i j k=>fH f (k (f i j))
theorem m9 {α I:Type}(f:Nat->Nat->Bool)(g:α->KasT I):∀t:KasT α,fH f (t.bind g)=fH f (g (fH f t))
 | .ret _=>rfl
 | .ask i j k=>m9 f g (k (f i j))
def Bn {α:Type}(n:Nat) (R:α->Prop):KasT α->Prop
 | .ret a=>R a
 | .ask i j k=>i<n/\j<n/\∀b,Bn n R (k b)
theorem Bn.bind {α I:Type}{n:Nat}{R:α->Prop}{S:I->Prop}{g:α->KasT I}:∀{t:KasT α},Bn n R t->(∀a,R a->Bn n S (g a))->Bn n S (t.bind g)
 | .ret a,h,k=>k a h
 | .ask i j q,h,k=>⟨h.1,h.2.1,λb=>Bn.bind (h.2.2 b) k⟩
theorem zU {α:Type}{n:Nat}{R:α->Prop}{f:Nat->Nat->Bool}{I:Nat->Nat->(Bool->Shared->Prop)->Shared->Prop}{Q:α->Shared->Prop}{s:Shared}
 (h:∀i j (C:Bool->Shared->Prop),i<n->j<n->C (f i j) s->I i j C s):∀{t:KasT α},Bn n R t->Q (fH f t) s->t.kasWp I Q s
 | .ret a,_,q=>q
 | .ask i j k,b,q=>h i j _ b.1 b.2.1 (zU h (b.2.2 (f i j)) q)
def Lt (n:Nat) (p:Array Nat):Prop:=0<n/\∀x∈p,x<n
theorem Lt.at {n:Nat}{p:Array Nat}(h:Lt n p)(i:Nat):p.getD i 0<n:=by
 rw[Q1d]
 cases e:p[i]? with
 |none=>exact h.1
 |some x=>exact h.2 x (Array.mem_of_getElem? e)
theorem Lt.perm {n:Nat}{p q:Array Nat}(h:Lt n p)(hp:q.Perm p):Lt n q:=⟨h.1,λx I=>h.2 x (hp.mem_iff.mp I)⟩
theorem j8 (p:Array Nat)(i j:Nat):(kas_rev p i j).Perm p:=mirror_perm _ _ _ _
theorem FJ (p:Array Nat)(i j:Nat):(kas_rev p i j).size=p.size:=mirror_size _ _ _ _
theorem sd {n:Nat}{p:Array Nat}(h:Lt n p):∀f m,Bn n (λ_=>True) (kas_asc p f m)
 |0,_=>trivial
 |f+1,m=>⟨h.at _,h.at _,λb=>by
   cases b with
   |true=>exact trivial
   |false=>exact sd h f (m+1)⟩
theorem p7 {n:Nat}:∀f (p:Array Nat) m q,Lt n p->Bn n (λr:Array Nat × Nat × Nat=>Lt n r.1) (kas_desc f p m q)
 |0,_,_,_,h=>h
 |f+1,p,m,q,h=>⟨h.at _,h.at _,λb=>by
   cases b with
   |true=>
    show Bn n _ (if q > 0 then kas_desc f (kas_rev p (m - (q+1)) m) (m+1) 0 else kas_desc f p (m+1) 0);split
    . exact p7 f _ _ _ (h.perm (j8 _ _ _))
    . exact p7 f _ _ _ h
   |false=>
    refine⟨h.at _,h.at _,λd=>?_⟩
    cases d with
    |true=>exact h
    |false=>exact p7 f _ _ _ h⟩
theorem zV {n m r:Nat}{p:Array Nat}(h:Lt n p):Bn n (λq:Nat × Array Nat=>Lt n q.2) (kas_tail3 m r p):=
 (sd (h.perm (j8 _ _ _)) _ _).bind λ_ _=>h.perm (j8 _ _ _)
theorem zW {n m r:Nat}{p:Array Nat}(h:Lt n p):Bn n (λq:Nat × Array Nat=>Lt n q.2) (kas_descPart m r p):=by
 refine(p7 _ _ _ _ h).bind λa I=>?_;split
 . exact zV (I.perm (j8 _ _ _))
 . exact zV I
theorem FK {n r:Nat}{p:Array Nat}(h:Lt n p):Bn n (λq:Nat × Array Nat=>Lt n q.2) (kas_count r p):=by
 refine(sd h _ _).bind λa _=>?_;split
 . exact h
 split
 . refine⟨h.at _,h.at _,λb=>?_⟩
   cases b with
   |true=>exact h
   |false=>exact zW (h.perm (j8 _ _ _))
 . exact zW h
theorem se {n k:Nat}{p:Array Nat}(h:Lt n p):∀f l r,Bn n (λ_=>True) (kas_place p k f l r)
 |0,_,_=>trivial
 |f+1,l,r=>by
  unfold kas_place;split
  . exact trivial
  . refine⟨h.at _,h.at _,λb=>?_⟩
    cases b with
    |true=>exact se h f _ _
    |false=>exact se h f _ _
theorem zX {n:Nat}:∀f (p:Array Nat) k,Lt n p->Bn n (λ_=>True) (kas_bin f p k)
 |0,_,_,_=>trivial
 |f+1,p,k,h=>(se h _ _ _).bind λl _=>zX f _ _ (h.perm (bubble_perm _ _ _))
theorem FL {n:Nat}(I:0<n):Bn n (λ_=>True) (kas_sort n):=by
 have h:Lt n (List.toArray (List.range n)):=⟨I,λx J=>by simpa using J⟩;refine(FK h).bind λr U=>?_;split
 . exact zX _ _ _ U
 . exact trivial
section
variable {O:KeyOrd}(key:Nat->O.α)
noncomputable def fX:Nat->Nat->Bool:=λi j=>O.blt (key i) (key j)
noncomputable def Kp (p:Array Nat) (i:Nat):O.α:=key (p.getD i 0)
def iR (p:Array Nat) (k:Nat):Prop:=∀i j,i<=j->j<k->O.kle (Kp key p i) (Kp key p j)
def ji (p:Array Nat) (k:Nat):Prop:=∀i j,i<=j->j<k->O.kle (Kp key p j) (Kp key p i)
variable {key}
theorem iR.succ {p:Array Nat}{n:Nat}(h:iR key p n)(h1:1<=n)(e:O.kle (Kp key p (n - 1)) (Kp key p n)):iR key p (n+1):=by
 intro i j I U;by_cases J:j<n
 . exact h i j I J
 . have:j=n:=by omega
   subst this;by_cases hi:i=j
   . subst hi;exact KeyOrd.kle_refl _
   . exact KeyOrd.kle_trans (h i (j - 1) (by omega) (by omega)) e
theorem ji.succ {p:Array Nat}{n:Nat}(h:ji key p n)(h1:1<=n)(e:O.kle (Kp key p n) (Kp key p (n - 1))):ji key p (n+1):=by
 intro i j I U;by_cases J:j<n
 . exact h i j I J
 . have:j=n:=by omega
   subst this;by_cases hi:i=j
   . subst hi;exact KeyOrd.kle_refl _
   . exact KeyOrd.kle_trans e (h i (j - 1) (by omega) (by omega))
theorem oI {p q:Array Nat}{i j:Nat}(h:p[i]? =q[j]?):Kp key p i=Kp key q j:=by
 unfold Kp;rw[Q1d,Q1d,h]
theorem sf {p:Array Nat}{i j:Nat}(I:j<=p.size)(k:Nat):Kp key (kas_rev p i j) k=if i<=k/\k<j then Kp key p (i+j - 1 - k) else Kp key p k:=by
 have e:=getElem?_mirror_all (i:=i) I k;by_cases h1:i<=k/\k<j
 . rw[if_pos h1] at e ⊢;exact oI e
 . rw[if_neg h1] at e ⊢;exact oI e
theorem sg {p:Array Nat}{i j:Nat}(J:j<=p.size)(I:∀k,i<=k->k<j->Kp key p k=Kp key p (j - 1))(k:Nat):Kp key (kas_rev p i j) k=Kp key p k:=by
 rw[sf J];split
 . rw[I _ (by omega) (by omega),I k (by omega) (by omega)]
 . rfl
theorem FN {p:Array Nat}{src d:Nat}(I:src<p.size)(hd:d<=src)(k:Nat):
 Kp key (bubble p src d) k=if k=src - d then Kp key p src else if src - d<k/\k<=src then Kp key p (k - 1) else Kp key p k:=by
 have e:=getElem?_bubble I d hd k;by_cases h1:k=src - d
 . rw[if_pos h1] at e ⊢;exact oI e
 . rw[if_neg h1] at e ⊢;by_cases h2:src - d<k/\k<=src
   . rw[if_pos h2] at e ⊢;exact oI e
   . rw[if_neg h2] at e ⊢;exact oI e
theorem ji.congr {p q:Array Nat}{n:Nat}(h:ji key p n)(e:∀k,Kp key q k=Kp key p k):ji key q n:=λi j a b=>by
 rw[e,e];exact h i j a b
theorem sj {p:Array Nat}:∀f n,1<=n->iR key p n->n<=fH (fX key) (kas_asc p f n)/\fH (fX key) (kas_asc p f n)<=n+f/\iR key p (fH (fX key) (kas_asc p f n))/\
 (fH (fX key) (kas_asc p f n)<n+f->O.klt (Kp key p (fH (fX key) (kas_asc p f n))) (Kp key p (fH (fX key) (kas_asc p f n) - 1)))
 |0,n,_,h=>⟨Q00 _,Q00 _,h,λz=>absurd z (Q0p _)⟩
 |f+1,n,h1,h=>by
  have e:fH (fX key) (kas_asc p (f+1) n)=fH (fX key) (if O.blt (Kp key p n) (Kp key p (n - 1))=true then .ret n else kas_asc p f (n+1)):=rfl;rw[e]
  cases c:O.blt (Kp key p n) (Kp key p (n - 1)) with
  |true=>
   rw[if_pos rfl];exact⟨Q00 _,Q1e _ _,h,λ_=>c⟩
  |false=>
   rw[if_neg (by simp)];obtain⟨U,Y,I,J⟩:=sj f (n+1) (by omega) (h.succ h1 c);exact⟨by omega,by omega,I,λz=>J (by omega)⟩
structure DI (O:KeyOrd) (key:Nat->O.α) (p₀:Array Nat) (p:Array Nat) (n q:Nat):Prop where
 perm:p.Perm p₀
 non:ji key p n
 one:q+1<=n
 size:n<=p.size
 eq:∀k,n - (q+1)<=k->k<n->Kp key p k=Kp key p (n - 1)
theorem p8 {I:Array Nat}:∀f (p:Array Nat) n q,DI O key I p n q->n+f<=I.size->
 ∃J n' U,fH (fX key) (kas_desc f p n q)=(J,n',U)/\DI O key I J n' U/\n'<=n+f
 |0,p,n,q,d,_=>⟨p,n,q,rfl,d,Q00 _⟩
 |f+1,p,n,q,d,hs=>by
  have hsz:p.size=I.size:=d.perm.size_eq
  have e:fH (fX key) (kas_desc (f+1) p n q)=fH (fX key) (if O.blt (Kp key p n) (Kp key p (n - 1))=true then(if q > 0 then kas_desc f (kas_rev p (n - (q+1)) n) (n+1) 0 else kas_desc f p (n+1) 0)
   else .ask (p.getD (n - 1) 0) (p.getD n 0) λd=>if d=true then .ret (p,n,q) else kas_desc f p (n+1) (q+1)):=rfl
  rw[e];have one:=d.one
  cases c:O.blt (Kp key p n) (Kp key p (n - 1)) with
  |true=>
   rw[if_pos rfl];have cl:O.kle (Kp key p n) (Kp key p (n - 1)):=KeyOrd.kle_of_klt c;by_cases hq:q > 0
   . rw[if_pos hq];have ek:∀k,Kp key (kas_rev p (n - (q+1)) n) k=Kp key p k:=sg d.size d.eq
     have d':DI O key I (kas_rev p (n - (q+1)) n) (n+1) 0:=⟨(j8 _ _ _).trans d.perm,(d.non.succ (by omega) cl).congr ek,by omega,by rw[FJ];omega,λk h1 h2=>by
      have:k=n:=by omega
      subst this;rfl⟩
     obtain⟨J,n',U,Y,r2,r3⟩:=p8 f _ _ _ d' (by omega);exact⟨J,n',U,Y,r2,by omega⟩
   . rw[if_neg hq]
     have d':DI O key I p (n+1) 0:=⟨d.perm,d.non.succ (by omega) cl,by omega,by omega,λk h1 h2=>by
      have:k=n:=by omega
      subst this;rfl⟩
     obtain⟨J,n',U,Y,r2,r3⟩:=p8 f _ _ _ d' (by omega);exact⟨J,n',U,Y,r2,by omega⟩
  |false=>
   rw[if_neg (by simp)];have e2:fH (fX key) (.ask (p.getD (n - 1) 0) (p.getD n 0) λd=>if d=true then .ret (p,n,q) else kas_desc f p (n+1) (q+1))=fH (fX key) (if O.blt (Kp key p (n - 1)) (Kp key p n)=true then .ret (p,n,q) else kas_desc f p (n+1) (q+1)):=rfl;rw[e2]
   cases c2:O.blt (Kp key p (n - 1)) (Kp key p n) with
   |true=>
    rw[if_pos rfl];exact⟨p,n,q,rfl,d,by omega⟩
   |false=>
    rw[if_neg (by simp)];have ee:Kp key p n=Kp key p (n - 1):=O.total _ _ c c2
    have d':DI O key I p (n+1) (q+1):=⟨d.perm,d.non.succ (by omega) (by rw[ee];exact KeyOrd.kle_refl _),by omega,by omega,λk h1 h2=>by
     show Kp key p k=Kp key p n;by_cases hk:k=n
     . rw[hk]
     . rw[ee];exact d.eq k (by omega) (by omega)⟩
    obtain⟨J,n',U,Y,r2,r3⟩:=p8 f _ _ _ d' (by omega);exact⟨J,n',U,Y,r2,by omega⟩
def oJ (O:KeyOrd) (key:Nat->O.α) (I:Array Nat) (nrem:Nat) (r:Nat × Array Nat):Prop:=r.2.Perm I/\1<=r.1/\r.1<=nrem/\iR key r.2 r.1
theorem zY {I p:Array Nat}{n nrem:Nat}(hp:p.Perm I)(h1:1<=n)(hn:n<=nrem)(hs:nrem<=I.size)(h:ji key p n):oJ O key I nrem (fH (fX key) (kas_tail3 n nrem p)):=by
 have hsz:p.size=I.size:=hp.size_eq;unfold kas_tail3;rw[m9]
 have J:iR key (kas_rev p 0 n) n:=λi j Y hj=>by
  rw[sf (by omega),sf (by omega),if_pos (by omega),if_pos (by omega)];exact h _ _ (by omega) (by omega)
 obtain⟨a1,a2,U,_⟩:=sj (key:=key) (p:=kas_rev p 0 n) (nrem - n) n h1 J;exact⟨(j8 _ _ _).trans hp,by show 1<=fH _ _;omega,by show fH _ _<=nrem;omega,U⟩
theorem zZ {I p:Array Nat}{n nrem:Nat}(hp:p.Perm I)(h1:1<=n)(hn:n+1<=nrem)(hs:nrem<=I.size)(h:ji key p (n+1)):oJ O key I nrem (fH (fX key) (kas_descPart n nrem p)):=by
 have hsz:p.size=I.size:=hp.size_eq;unfold kas_descPart;rw[m9]
 have d:DI O key I p (n+1) 0:=⟨hp,h,by omega,by omega,λk h1 h2=>by
  have:k=n:=by omega
  subst this;rfl⟩
 obtain⟨U,n',Y,r1,J,r3⟩:=p8 (key:=key) (nrem - (n+1)) p (n+1) 0 d (by omega);rw[r1];have o:=J.one;have sz:=J.size;have aa:U.size=I.size:=J.perm.size_eq;by_cases hq:Y > 0
 . show oJ O key I nrem (fH (fX key) (if Y > 0 then kas_tail3 n' nrem (kas_rev U (n' - (Y+1)) n') else kas_tail3 n' nrem U));rw[if_pos hq];exact zY ((j8 _ _ _).trans J.perm) (by omega) (by omega) hs (J.non.congr (sg J.size J.eq))
 . show oJ O key I nrem (fH (fX key) (if Y > 0 then kas_tail3 n' nrem (kas_rev U (n' - (Y+1)) n') else kas_tail3 n' nrem U));rw[if_neg hq];exact zY J.perm (by omega) (by omega) hs J.non
theorem FO {p:Array Nat}{nrem:Nat}(h1:1<=nrem)(hs:nrem<=p.size):oJ O key p nrem (fH (fX key) (kas_count nrem p)):=by
 unfold kas_count;rw[m9]
 obtain⟨I,a2,U,a4⟩:=sj (key:=key) (p:=p) (nrem - 1) 1 (Q00 _) (λi j J hj=>by
  have Y:i=0:=by omega
  have e2:j=0:=by omega
  subst Y;subst e2;exact KeyOrd.kle_refl _)
 generalize fH (fX key) (kas_asc p (nrem - 1) 1)=n at *;by_cases hn:n=nrem
 . rw[if_pos (by simpa using hn)];exact⟨Array.Perm.refl _,I,by show n<=nrem;omega,U⟩
 . rw[if_neg (by simpa using hn)];have cl:O.klt (Kp key p n) (Kp key p (n - 1)):=a4 (by omega);by_cases hg:n > 1
   . rw[if_pos hg]
     have e:fH (fX key) (.ask (p.getD 0 0) (p.getD (n - 1) 0) λc=>if c=true then .ret (n,p) else kas_descPart n nrem (kas_rev p 0 n))=
      fH (fX key) (if O.blt (Kp key p 0) (Kp key p (n - 1))=true then .ret (n,p) else kas_descPart n nrem (kas_rev p 0 n)):=rfl
     rw[e]
     cases c:O.blt (Kp key p 0) (Kp key p (n - 1)) with
     |true=>
      rw[if_pos rfl];exact⟨Array.Perm.refl _,I,by show n<=nrem;omega,U⟩
     |false=>
      rw[if_neg (by simp)]
      have all:∀k,0<=k->k<n->Kp key p k=Kp key p (n - 1):=λk _ hk=>by
       have c':O.kle (Kp key p (n - 1)) (Kp key p 0):=c;exact KeyOrd.kle_antisymm (U k (n - 1) (by omega) (by omega)) (KeyOrd.kle_trans c' (U 0 k (by omega) hk))
      have ek:∀k,Kp key (kas_rev p 0 n) k=Kp key p k:=sg (by omega) all;refine zZ (j8 _ _ _) I (by omega) hs (ji.congr (ji.succ (n:=n) (λi j J hj=>?_) I (KeyOrd.kle_of_klt cl)) ek);rw[all i (by omega) (by omega),all j (by omega) (by omega)];exact KeyOrd.kle_refl _
   . rw[if_neg hg];have:n=1:=by omega
     subst this;refine zZ (Array.Perm.refl _) I (by omega) hs (ji.succ (n:=1) (λi j J hj=>?_) I (KeyOrd.kle_of_klt cl));have Y:i=0:=by omega
     have e2:j=0:=by omega
     subst Y;subst e2;exact KeyOrd.kle_refl _
theorem sr {p:Array Nat}{k:Nat}(h:iR key p k):∀f l r,l<=r->r<=k->r - l<=f->(∀i,i<l->O.kle (Kp key p i) (Kp key p k))->(∀i,r<=i->i<k->O.klt (Kp key p k) (Kp key p i))->
 ∃m,fH (fX key) (kas_place p k f l r)=m/\m<=k/\(∀i,i<m->O.kle (Kp key p i) (Kp key p k))/\(∀i,m<=i->i<k->O.klt (Kp key p k) (Kp key p i))
 |0,l,r,h1,h2,Y,I,J=>⟨l,rfl,by omega,I,λi a b=>J i (by omega) b⟩
 |f+1,l,r,h1,h2,Y,I,J=>by
  by_cases U:l ≥ r
  . refine⟨l,?_,by omega,I,λi a b=>J i (by omega) b⟩;unfold kas_place;rw[if_pos U];rfl
  . have e:fH (fX key) (kas_place p k (f+1) l r)=fH (fX key) (if O.blt (Kp key p k) (Kp key p ((l+r) / 2))=true then kas_place p k f l ((l+r) / 2) else kas_place p k f ((l+r) / 2+1) r):=by
     show fH (fX key) (if l ≥ r then .ret l else _)=_;rw[if_neg U];rfl
    rw[e]
    cases c:O.blt (Kp key p k) (Kp key p ((l+r) / 2)) with
    |true=>
     rw[if_pos rfl];exact sr h f _ _ (by omega) (by omega) (by omega) I λi a b=>KeyOrd.klt_of_klt_of_kle (show O.klt _ _ from c) (h _ _ a b)
    |false=>
     rw[if_neg (by simp)];exact sr h f _ _ (by omega) h2 (by omega) (λi a=>KeyOrd.kle_trans (h i ((l+r) / 2) (by omega) (by omega)) (show O.kle _ _ from c)) J
theorem z6:∀f (p:Array Nat) k,iR key p k->k+f<=p.size->(fH (fX key) (kas_bin f p k)).Perm p/\iR key (fH (fX key) (kas_bin f p k)) (k+f)
 |0,p,k,h,_=>⟨Array.Perm.refl _,h⟩
 |f+1,p,k,h,hs=>by
  have e:fH (fX key) (kas_bin (f+1) p k)=fH (fX key) (kas_bin f (bubble p k (k - fH (fX key) (kas_place p k k 0 k))) (k+1)):=by
   show fH (fX key) ((kas_place p k k 0 k).bind λl=>kas_bin f (bubble p k (k - l)) (k+1))=_;rw[m9]
  rw[e];obtain⟨m,em,m1,m2,m3⟩:=sr h k 0 k (Q07 _) (Q00 _) (Q00 _) (λi z=>absurd z (Q2 _)) (λi a b=>absurd a (by omega));rw[em];have J:=λi=>FN (key:=key) (p:=p) (src:=k) (d:=k - m) (by omega) (by omega) i;have hm:k - (k - m)=m:=by omega
  rw[hm] at J
  have hS:iR key (bubble p k (k - m)) (k+1):=by
   intro i j U hj;rw[J i,J j];by_cases Y:i=m
   . rw[if_pos Y];by_cases I:j=m
     . rw[if_pos I];exact KeyOrd.kle_refl _
     . rw[if_neg I,if_pos (by omega)];exact KeyOrd.kle_of_klt (m3 _ (by omega) (by omega))
   . rw[if_neg Y];by_cases li:m<i/\i<=k
     . rw[if_pos li,if_neg (by omega),if_pos (by omega)];exact h _ _ (by omega) (by omega)
     . rw[if_neg li];by_cases I:j=m
       . rw[if_pos I];exact m2 i (by omega)
       . rw[if_neg I];by_cases lj:m<j/\j<=k
         . rw[if_pos lj];exact h _ _ (by omega) (by omega)
         . rw[if_neg lj];exact h _ _ U (by omega)
  obtain⟨b1,b2⟩:=z6 f (bubble p k (k - m)) (k+1) hS (by rw[bubble_size];omega);exact⟨b1.trans (bubble_perm _ _ _),by rw[show k+(f+1)=k+1+f by omega];exact b2⟩
theorem FP {n:Nat}(hn:1<=n):(fH (fX key) (kas_sort n)).toList.Perm (List.range n)/\((fH (fX key) (kas_sort n)).toList.map key).Pairwise O.kle:=by
 have hz:(List.toArray (List.range n)).size=n:=by simp
 obtain⟨I,c2,c3,c4⟩:=FO (key:=key) (p:=List.toArray (List.range n)) (nrem:=n) hn (by omega)
 have main:(fH (fX key) (kas_sort n)).Perm (List.toArray (List.range n))/\iR key (fH (fX key) (kas_sort n)) n:=by
  unfold kas_sort;rw[m9];generalize fH (fX key) (kas_count n (List.toArray (List.range n)))=r at *;obtain⟨m,p⟩:=r;have hsz:p.size=n:=by rw[I.size_eq,hz]
  by_cases hm:m<n
  . show(fH (fX key) (if m<n then kas_bin (n - max m 1) p (max m 1) else .ret p)).Perm _/\iR key (fH (fX key) (if m<n then kas_bin (n - max m 1) p (max m 1) else .ret p)) n;rw[if_pos hm];have c2:1<=m:=c2;have em:max m 1=m:=by omega
    rw[em];obtain⟨b1,b2⟩:=z6 (key:=key) (n - m) p m c4 (by omega);exact⟨b1.trans I,by rw[show n=m+(n - m) by omega];rw[show m+(n - m) - m=n - m by omega];exact b2⟩
  . show(fH (fX key) (if m<n then kas_bin (n - max m 1) p (max m 1) else .ret p)).Perm _/\iR key (fH (fX key) (if m<n then kas_bin (n - max m 1) p (max m 1) else .ret p)) n;rw[if_neg hm];have c3:m<=n:=c3;have:m=n:=by omega
    subst this;exact⟨I,c4⟩
 refine⟨Array.perm_iff_toList_perm.mp main.1,?_⟩;have hsz:(fH (fX key) (kas_sort n)).size=n:=by rw[main.1.size_eq,hz]
 rw[Q20,List.pairwise_iff_getElem];intro i j hi hj J;have U:i<(fH (fX key) (kas_sort n)).size:=by simpa using hi
 have Y:j<(fH (fX key) (kas_sort n)).size:=by simpa using hj
 have q:=main.2 i j (Q0k J) (by omega);unfold Kp at q;rw[Q1d,Q1d,Q2o U,Q2o Y] at q;simpa using q
end
end j7
namespace L2
open Spec PyProof.Rows
def m_ (c':Addr) (qual:Str):Heap->Prop:=λh=>h.CodeRec (.ref c') qual
def lZ (P:Addr) (pos:Pos) (qual:Str) (c':Addr) (H:Hp):Prop:=H P=some (.gA #[rawInt pos.line,rawInt pos.col,.ref c'])/\H c'=some (.ext (m_ c' qual))
def eU (P:Addr) (pos:Pos) (qual:Str) (H:Hp):Prop:=H P=some (.gA #[])\/∃c',lZ P pos qual c' H
theorem lZ.mono {P:Addr}{pos:Pos}{qual:Str}{c':Addr}{H H':Hp}(h:lZ P pos qual c' H)(k:∀b o,(b=P\/b=c')->H b=some o->H' b=some o):lZ P pos qual c' H':=⟨k _ _ (.inl rfl) h.1,k _ _ (.inr rfl) h.2⟩
def BM (mg:Str->Option Value) (base:Heap):Prop:=
 ∃I o,mg "__builtins__"=some (.ref I)/\I≠builtinsNs/\I≠mainGlobals/\base.get? I=some o/\o.cls=.type "module"/\o.dict=some builtinsNs/\o.data=.plain
def FQ (P:Addr) (pos:Pos) (qual:Str) (ps:Array Value) (H:Hp):Prop:=H P=some (.gA ps)/\TriplesOk ps.toList/\(codeAmong pos ps.toList=none\/∃c',codeAmong pos ps.toList=some (.ref c')/\H c'=some (.ext (m_ c' qual)))
def FR (P:Addr) (pos:Pos) (qual:Str) (ps:Array Value) (c':Addr) (H:Hp):Prop:=((codeAmong pos ps.toList=none/\H P=some (.gA (ps++#[rawInt pos.line,rawInt pos.col,.ref c'])))\/(codeAmong pos ps.toList=some (.ref c')/\H P=some (.gA ps)))/\H c'=some (.ext (m_ c' qual))
section
variable {X:Cx}{pins:List (Addr × Obj)}{σ:St}{H:Hp}{s:Shared}
theorem Inv.z7 (I:Inv X pins σ H s){P b:Addr}{o:HO}{u:Obj}(e:H P=some o)(J:X.base.get? b=some u):b≠P:=λz=>by
 have:=(I.bs b u J).2;rw[z,e] at this;cases this
theorem Inv.z8 (I:Inv X pins σ H s)(B:BM X.mg X.base){P:Addr}{o:HO}(e:H P=some o):s.heap.BuiltinsAt X.mg P:=by
 obtain⟨J,U,b1,b2,b3,Y,b5⟩:=B;exact⟨J,U,b1,b2,b3,I.z7 e Y,(I.bs J U Y).1,b5⟩
theorem Inv.adopt {b:Addr}{o:HO}{h':Heap}{t':Nat}(I:Inv X pins σ H s)(f:ia X pins H b)(k:∀c u,c≠b->s.heap.get? c=some u->h'.get? c=some u)(new:gB X.prog X.w (upd H b o) h' b o):
 Inv X pins σ (upd H b o) { s with heap:=h',toks:=t' }:=by
 obtain⟨Y,f1,f2,f3,f4,f5⟩:=f;have J:∀c u,H c=some u->c≠b:=λc u e=>eP e Y
 refine I.step (g':=s.gens) (d':=s.drawn) (ch:=[b]) (λc hc=>?_) (λc u _ _ hc e _=>k c u (λz=>hc (by simp[z])) e) (λc u _ _ hc e _=>⟨u.slots,k c u (λz=>hc (by simp[z])) e⟩) (λc u hc e n=>?_)
  (λc u hc e=>⟨u,k c u (λz=>hc (by simp[z])) e⟩) (λc xs e=>?_) (λc U u e=>?_) (λc ps e=>⟨#[],?_⟩) (λm hm=>?_) (λc u e=>?_) I.bare
 . have e:c=b:=by simpa using hc
   subst e;exact⟨f3,f1,f4,f5⟩
 . rw[eE (λz=>hc (by simp[z]))];exact n
 . rw[eE (J _ _ e)];exact e
 . rw[eE (J _ _ e)];exact e
 . rw[eE (J _ _ e),e];simp
 . obtain⟨U,es,ep,ho,r⟩:=hm;exact⟨U,es,ep,k _ U (Ne.symm f1) ho,r⟩
 . by_cases hc:c=b
   . subst hc;rw[eF] at e;cases e;exact new
   . rw[eE hc] at e;refine(I.hok c u e).stay (λd v hd q=>k d v ?_ q) (λd q=>by rw[eE (J _ _ q)];exact q) λd xs q=>by rw[eE (J _ _ q)];exact q
     rcases hd with z|z
     . rw[z];exact hc
     . exact J _ _ z
theorem Inv.own {b:Addr}{h':Heap}{t':Nat}(I:Inv X pins σ H s)(f:ia X pins H b)(J:Heap.SameBut b s.heap h'):Inv X pins σ H { s with heap:=h',toks:=t' }:=
 I.turned (t':=t') (λc u hc e=>(J.2 c hc).trans e) f.1 f.2.1 f.2.2.2.1 f.2.2.2.2.1 f.2.2.2.2.2
theorem z9 {gq:Array Value}{name qual:Str}{U:Arguments}{body:Expr}{scope:Scope}{pos:Pos}{Y:Nat}{cl:List (Str × Addr)}{c P:Addr}{Q:Value->Shared->Prop}{E:Value->Shared->Prop}(I:Inv X pins σ H s)(ab:X.env.code=.ref c)(C:W.CodeHd X.base c P)
 (B:BM X.mg X.base) (T:FQ P pos qual gq H) (ae:closureFor scope X.env=pure cl)
 (h:∀(f c':Addr) (pm aa:Value) (H':Hp) (s':Shared),Inv X (pins++[(f,W.kla_obj name qual U body scope cl pm c' aa)]) σ H' s'->FR P pos qual gq c' H'->(∀b o,b≠P->H b=some o->H' b=some o)->Q (.ref f) s'):
 wpAny (model X.prog X.w) X.A (makeFunction name qual U (.expr body) scope X.env [] [] [] pos Y) Q E s:=by
 have hg:s.heap.Ns mainGlobals X.mg:=I.mod.glob.keeps I.bk;have C':=C.keeps I.bk
 have af:∀{H':Hp} {s':Shared} {f:Addr} {o:Obj},Inv X pins σ H' s'->s'.heap.get? f=some o->H' f=none->s.heap.objs.size<=f->(∀v,o.data≠ .cell v)->Inv X (pins++[(f,o)]) σ H' s':=λ{H' s' f o} J e n hz d=>
  J.lC λp hp=>(List.mem_append.mp hp).elim (λz=>J.pin p (Q06 _ z)) λz=>by
    have:p=(f,o):=by simpa using z
    subst this;exact⟨e,n,Q0s (Q0a I.lt hz),I.mO hz,d⟩
 obtain⟨e,ag,ah|⟨c',e1,e2⟩⟩:=T
 . have hP:s.heap.get? P=some (W.tabObj gq):=I.hok P _ e;have ai:P<s.heap.objs.size:=Q01 hP
   have an:mainGlobals≠P:=by
    obtain⟨o,es,ep,eo,_⟩:=I.mod.glob;exact I.z7 e eo
   refine W.kla_makeFunction (mg:=X.mg) ae I.ok.glob hg ab C' hP ag ah an (I.z8 B e) λc' aa h' tk hx ac aj am ak=>?_;have al:c'≠P:=Q0s (Q0a ai ac);have ao:H c'=none:=I.hok.fresh ac
   have nP:∀b u,H b=some u->u≠ .gA gq->b≠P:=λb u q d z=>by
    rw[z,e] at q;exact d (Option.some.inj q).symm
   have nC:∀b u,H b=some u->b≠c':=λb u q=>eP q ao;have kk:∀(ob:Obj) b u,b≠P->s.heap.get? b=some u->(h'.push ob).get? b=some u:=λob b u hb q=>Q09 _ (hx b u hb q)
   have I1:Inv X pins σ (upd (upd H P (.gA (gq++#[rawInt pos.line,rawInt pos.col,.ref c']))) c' (.ext (m_ c' qual))) { s with heap:=h'.push (W.kla_obj name qual U body scope cl ((X.mg "__name__").getD .none) c' aa),toks:=tk }:=by
    refine I.step (g':=s.gens) (d':=s.drawn) (ch:=[]) (λ_ z=>nomatch z) (λb o _ _ _ q n=>kk _ b o (λz=>by rw[z,e] at n;cases n) q) (λb o _ _ _ q n=>⟨o.slots,kk _ b o (λz=>by rw[z,e] at n;cases n) q⟩)
     (λb o _ q n=>?_) (λb o _ q=>?_) (λb xs q=>?_) (λb o u q=>?_) (λb ps q=>?_) (λm hm=>?_) (λb o q=>?_) I.bare
    . have b1:b≠P:=λz=>by rw[z,e] at n;cases n
      have b2:b≠c':=Q08 (Q0a (Q01 q) ac);rw[eE b2,eE b1];exact n
    . by_cases hb:b=P
      . subst hb;exact⟨_,Q09 _ ak⟩
      . exact⟨o,kk _ b o hb q⟩
    . rw[eE (nC _ _ q),eE (nP _ _ q (by intro z;cases z))];exact q
    . rw[eE (nC _ _ q),eE (nP _ _ q (by intro z;cases z))];exact q
    . by_cases hb:b=P
      . subst hb;rw[e] at q;cases q;exact⟨_,by rw[eE (Ne.symm al),eF]⟩
      . exact⟨#[],by rw[eE (nC _ _ q),eE hb,q];simp⟩
    . obtain⟨o,es,ep,ho,r⟩:=hm;exact⟨o,es,ep,kk _ _ o (λz=>by have:=I.free;rw[z,e] at this;cases this) ho,r⟩
    . by_cases hb:b=c'
      . subst hb;rw[eF] at q;cases q;obtain⟨ar,oc,vs,t,z1,z2,z3,z4⟩:=am
        cases z1;refine⟨⟨_,oc,vs,t,rfl,Q09 _ z2,z3,z4⟩,⟨oc,Q09 _ z2⟩,λh1 h2 y hy=>?_⟩;obtain⟨au,ap,aq,t',y1,y2,y3,y4⟩:=y
        cases y1;exact⟨_,ap,aq,t',rfl,hy _ y2,y3,y4⟩
      . rw[eE hb] at q;by_cases hp:b=P
        . subst hp;rw[eF] at q;cases q;show(h'.push _).get? b=some { cls:=.none,data:=.fields _ };exact Q09 _ ak
        . rw[eE hp] at q;refine(I.hok b o q).stay (λd v hd y=>kk _ d v ?_ y) (λd y=>by rw[eE (nC _ _ y),eE (nP _ _ y (by intro z;cases z))];exact y) λd xs y=>by rw[eE (nC _ _ y),eE (nP _ _ y (by intro z;cases z))];exact y
          rcases hd with z|z
          . rw[z];exact hp
          . exact nP _ _ z (by intro z;cases z)
   have fz:s.heap.objs.size<=h'.objs.size:=Q0k (Q1b ac aj)
   have fn:upd (upd H P (.gA (gq++#[rawInt pos.line,rawInt pos.col,.ref c']))) c' (.ext (m_ c' qual)) h'.objs.size=none:=by
    rw[eE (Q0s aj),eE (Q0s (Q0a ai fz))];exact I.hok.fresh fz
   refine h h'.objs.size c' ((X.mg "__name__").getD .none) aa _ _ (af I1 (Q0l _ rfl) fn fz (by intro v z;cases z)) ⟨.inl ⟨ah,by rw[eE (Ne.symm al),eF]⟩,eF⟩ λb o hb q=>?_;rw[eE (nC _ _ q),eE hb];exact q
 . have hP:s.heap.get? P=some (W.tabObj gq):=I.hok P _ e;refine W.kla_makeFunctionHit (mg:=X.mg) (cv:=.ref c') ae I.ok.glob hg ab C' hP ag e1 (I.z8 B e) λaa h' tk hk hsz=>?_;exact h h'.objs.size c' ((X.mg "__name__").getD .none) aa H _ (af (I.kept λb u q=>Q09 _ (hk b u q)) (Q0l _ rfl) (I.hok.fresh hsz) hsz (by intro v z;cases z)) ⟨.inr ⟨e1,e⟩,e2⟩ λb o _ q=>q
theorem FT {name qual:Str}{aa:Arguments}{body:Expr}{scope:Scope}{pos:Pos}{Y:Nat}{cl:List (Str × Addr)}{c P:Addr}{Q:Value->Shared->Prop}{E:Value->Shared->Prop}(I:Inv X pins σ H s)(ac:X.env.code=.ref c)(C:W.CodeHd X.base c P)
 (B:BM X.mg X.base) (T:eU P pos qual H) (ae:closureFor scope X.env=pure cl)
 (h:∀(f c':Addr) (pm ab:Value) (H':Hp) (s':Shared),Inv X (pins++[(f,W.kla_obj name qual aa body scope cl pm c' ab)]) σ H' s'->lZ P pos qual c' H'->(∀b o,b≠P->H b=some o->H' b=some o)->Q (.ref f) s'):
 wpAny (model X.prog X.w) X.A (makeFunction name qual aa (.expr body) scope X.env [] [] [] pos Y) Q E s:=by
 rcases T with e|⟨U,e,ec⟩
 . refine z9 (gq:=#[]) I ac C B ⟨e,by simp[TriplesOk],.inl rfl⟩ ae λf c' pm ab H' s' J L m=>h f c' pm ab H' s' J ?_ m;obtain⟨z|z,y⟩:=L
   . exact⟨z.2,y⟩
   . cases z.1
 . refine z9 (gq:=#[rawInt pos.line,rawInt pos.col,.ref U]) I ac C B ⟨e,by simp[TriplesOk,rawInt],.inr ⟨U,by simp[codeAmong,rawInt],ec⟩⟩ ae λf c' pm ab H' s' J L m=>h f c' pm ab H' s' J ?_ m;have hc:codeAmong pos [rawInt pos.line,rawInt pos.col,.ref U]=some (.ref U):=by simp[codeAmong,rawInt]
   obtain⟨z|z,y⟩:=L
   . exact absurd (hc.symm.trans z.1) (by intro z;cases z)
   . have:U=c':=by
      have:=hc.symm.trans z.1
      cases this;rfl
     subst this;exact⟨z.2,y⟩
structure j9 (X:Cx) (x:Str) (N':List Str) (scope:Scope):Prop where
 kind:scope.kind=.function
 co:scope.isCoroutine=false
 gen:scope.isGenerator=false
 cell:∀y∈scope.names,y.2≠ .cell
 loc:scope.names.lookup x=some .local
 free:∀y∈scope.names,y.2=.free->X.env.kindOf y.1=some .cell\/X.env.kindOf y.1=some .free
 len:N'.length=X.N.length
 outer:∀(i:Nat) (y:Str),N'[i]? =some y->scope.names.lookup y=none\/(X.N[i]? =some y/\scope.names.lookup y≠some .local)
noncomputable def l4 (scope:Scope):List Str->List Str->Bool
 |[],[]=>true
 |y::r,z::q=>(decide (scope.names.lookup y=none) || (decide (z=y) && decide (scope.names.lookup y≠some .local))) && l4 scope r q
 |_,_=>false
theorem z_ {scope:Scope}:∀{N' N:List Str},l4 scope N' N=true->N'.length=N.length
 |[],[],_=>rfl
 |y::r,z::q,h=>by
  simp only[l4,Bool.and_eq_true] at h;rw[Q0h,Q0h,z_ h.2]
theorem Aa {scope:Scope}:∀{N' N:List Str},l4 scope N' N=true->∀(i:Nat) (y:Str),N'[i]? =some y->scope.names.lookup y=none\/(N[i]? =some y/\scope.names.lookup y≠some .local)
 |[],[],_,i,y,e=>by simp at e
 |w::r,z::q,h,0,y,e=>by
  simp only[l4,Bool.and_eq_true,Bool.or_eq_true,decide_eq_true_eq] at h;have e:some w=some y:=e
  cases e;rcases h.1 with h1|⟨h1,h2⟩
  . exact .inl h1
  . subst h1;exact .inr ⟨rfl,h2⟩
 |w::r,z::q,h,i+1,y,e=>by
  simp only[l4,Bool.and_eq_true] at h;have:=Aa h.2 i y (by simpa using e);simpa using this
noncomputable def Ab (x:Str) (N' N:List Str) (scope sc:Scope):Bool:=
 scope.names.all (λy=>decide (y.2≠ .cell)) && decide (scope.names.lookup x=some .local) && scope.names.all (λy=>decide (y.2=.free->sc.names.lookup y.1=some .cell\/sc.names.lookup y.1=some .free)) && l4 scope N' N
theorem j9.of {x:Str}{N' N:List Str}{scope sc:Scope}(I:X.env.scope=sc)(J:X.N=N)(k:scope.kind=.function)(Y:scope.isCoroutine=false)(c2:scope.isGenerator=false)(c:Ab x N' N scope sc=true):j9 X x N' scope:=by
 unfold Ab at c;simp only[Bool.and_eq_true,Q0z,decide_eq_true_eq] at c;obtain⟨⟨⟨a1,a2⟩,a3⟩,U⟩:=c;exact⟨k,Y,c2,a1,a2,λy hy hf=>by rw[show X.env.kindOf y.1=X.env.scope.names.lookup y.1 from rfl,I];exact a3 y hy hf,by rw[J];exact z_ U,by rw[J];exact Aa U⟩
noncomputable abbrev p9 (qual:Str) (scope:Scope) (cl:List (Str × Addr)) (f c':Addr) (s:Shared):Env:=W.envX qual scope s.heap.objs.size f (.ref c') cl
noncomputable def p_ (X:Cx) (x:Str) (N':List Str) (scope:Scope) (cl:List (Str × Addr)) (qual:Str) (f c':Addr) (s:Shared) (H:Hp):Cx:=
 { X with A:=X.A.in1.in1.deeper (p9 qual scope cl f c' s),N:=x::N',s₀:=s,H₀:=H,env:=p9 qual scope cl f c' s,outer:=X.stack,stack:=p9 qual scope cl f c' s::X.stack,ex:=[],fn:=λ_=>false,pn:=[],calm:=true,xe:=λ_ _=>False }
theorem Inv.lam {x:Str}{N':List Str}{scope:Scope}{cl:List (Str × Addr)}{qual:Str}{f c':Addr}{v:V}{u:Value}{U:Heap}{t':Nat}(I:Inv X pins σ H s)(S:j9 X x N' scope)(hd:X.A.handled=none)
 (J:∀y c,cl.lookup y=some c->X.env.cells.lookup y=some c) (ab:∀y,(y,NameKind.free)∈scope.names->cl.lookup y=X.env.cells.lookup y) (r:RelV v u)
 (hn:U.Ns s.heap.objs.size (λy=>([(x,u)]:List (Str × Value)).reverse.lookup y)) (aa:∀b o,s.heap.get? b=some o->U.get? b=some o):
 Inv (p_ X x N' scope cl qual f c' s H) [] (some v::σ) H { s with heap:=U,toks:=t' }:=by
 have ok:=I.ok
 have Y:∀y,(scope.names.lookup y=some .cell\/scope.names.lookup y=some .free)->(y,NameKind.free)∈scope.names:=λy hy=>by
  rcases hy with hy|hy
  . exact absurd rfl (S.cell _ (PySem.mem_of_lookup hy))
  . exact PySem.mem_of_lookup hy
 refine⟨⟨ok.mod,S.kind,rfl,rfl,Q00 _,λy z c e1 e2=>ok.inj y z c (J y c e1) (J z c e2),λy hy=>?_,λy c hy _=>(nomatch hy),λ_=>hd,Around.frames_deeper (show X.A.in1.in1.frames=some X.stack from ok.frames),.inr ⟨rfl,rfl⟩,λb hb=>absurd (show b∈([]:List Addr) from hb) (by simp),I.bs,Q0f ok.iX I.sz,
  λb o _ hb=>absurd (show b∈([]:List Addr) from hb) (by simp),λb hb=>absurd (show b∈([]:List Addr) from hb) (by simp),I.stack,I.pH⟩,
  rfl,I.bare,Un.kept aa,⟨_,hn,λi y v' e1 e2 e3=>?_⟩,λy c e=>?_,I.hok.fresh (Q00 _),λy c e=>I.ij y c (J y c e),λp hp=>absurd (show p∈([]:List (Addr × Obj)) from hp) (by simp),I.hok.kept aa,?_⟩
 . have hm:=Y y hy;obtain⟨c,e⟩:=ok.has y (S.free _ hm rfl);exact⟨c,by rw[show(p_ X x N' scope cl qual f c' s H).env.cells=cl from rfl,ab y hm];exact e⟩
 . cases i with
   |zero=>
    have e1:some x=some y:=e1
    cases e1;have e2:some (some v)=some (some v'):=e2
    cases e2;exact⟨u,r,.inl ⟨S.loc,by simp⟩⟩
   |succ i=>
    have e1:N'[i]? =some y:=by
     have e1:(x::N')[i+1]? =some y:=e1;simpa using e1
    have e2:σ[i]? =some (some v'):=by simpa using e2
    have ho:X.N[i]? =some y/\scope.names.lookup y≠some .local:=by
     have e3:scope.names.lookup y=some .local\/scope.names.lookup y=some .cell\/scope.names.lookup y=some .free:=e3;rcases S.outer i y e1 with q|q
     . rw[q] at e3;rcases e3 with z|z|z <;> cases z
     . exact q
    have ae:scope.names.lookup y=some .cell\/scope.names.lookup y=some .free:=by
     rcases e3 with q|q
     . exact absurd q ho.2
     . exact q
    have hm:=Y y ae;have af:=S.free _ hm rfl;obtain⟨mX,ah,ag⟩:=I.loc;obtain⟨u',r',lk⟩:=ag i y v' ho.1 e2 (.inr af);refine⟨u',r',.inr ⟨ae,?_⟩⟩;rcases lk with⟨q,_⟩|⟨_,c,ec,hc⟩
    . rcases af with z|z
      . rw[z] at q;cases q
      . rw[z] at q;cases q
    . obtain⟨o,ho,ac⟩:=hc;exact⟨c,(ab y hm).trans ec,o,aa _ _ ho,ac⟩
 . obtain⟨w',o,ho,ac⟩:=I.cell y c (J y c e);exact⟨w',o,aa _ _ ho,ac⟩
 . show _=(x::N').length;rw[Q0h,Q0h,I.len,S.len]
theorem FU {x:Str}{N':List Str}{name qual:Str}{U:Arguments}{body:Expr}{scope:Scope}{cl:List (Str × Addr)}{f c':Addr}{pm Y:Value}{v:V}{u:Value}{te:TE}{Q:VK}{E:Value->Shared->Prop}(I:Inv X pins σ H s)(S:j9 X x N' scope)(hd:X.A.handled=none)(ab:X.A.depth<recursionLimit)
 (ac:∀y c,cl.lookup y=some c->X.env.cells.lookup y=some c) (ae:∀y,(y,NameKind.free)∈scope.names->cl.lookup y=X.env.cells.lookup y) (hf:(f,W.kla_obj name qual U body scope cl pm c' Y)∈pins) (hc:H c'=some (.ext (m_ c' qual)))
 (hb:∀u:Value,bindArgs (W.kla_fn name qual U body scope cl pm (.ref c') Y) ⟨[u],[]⟩=pure [(x,u)]) (r:RelV v u) (he:∀(s:Shared) (H:Hp),PE (p_ X x N' scope cl qual f c' s H) body te) (h:te (some v::σ) H Q):
 wpAny (model X.prog X.w) X.A.in1.in1 (call (.ref f) [u]) (EP X pins σ Q) E s:=by
 obtain⟨p1,p2,p3,p4,p5⟩:=I.pin _ (Q06 _ hf);refine wpAny_call (W.kla_callFunE ab p1 rfl S.co S.gen rfl (I.hok c' _ hc).1 ?_);rw[hb];refine Q0c (wpAny_newFunctionEnv S.cell (λy hy=>?_) (λaf ag ah=>?_) S.kind)
 . have e:y=(x,u):=by simpa using hy
   subst e;exact S.loc
 have aa:∀b o,s.heap.get? b=some o->af.get? b=some o:=λb o e=>ah.extBut b o (Q08 (Q01 e)) (Q09 _ e);refine⟨I.nolimit.keeps aa,?_⟩;show codeAny _ _ (.expr body (p9 qual scope cl f c' s)) _ _;have J:=I.lam (t':=s.toks+([(x,u)]:List (Str × Value)).length) (qual:=qual) (f:=f) (c':=c') S hd ac ae r ag aa;refine W.kla_codeExpr (Q0o (he s H [] _ _ H Q J h) (λu' s' hq=>?_) λe s' hF=>hF.elim);obtain⟨v',H',J',rv,q⟩:=hq;exact I.after ⟨v',H',J'.os,J'.bare,J'.base,J'.hok,rv,q⟩
end
section
variable {X:Cx}{pins:List (Addr × Obj)}{σ:St}{H:Hp}{s:Shared}
def Asks (prog:Program) (w:World) (A:Around) (s:Shared) (us:List Value) {O:KeyOrd}(key:Nat->O.α):Prop:=
 2<=us.length->wpAny (model prog w) A (keyKind' us.toArray) (λκ s'=>s'=s/\∀(i j:Nat) (C:Bool->Shared->Prop),i<us.length->j<us.length->C (O.blt (key i) (key j)) s->W.kas_ask prog w A κ us i j C s) (λ_ _=>False) s
theorem Ac {xs:List V}{vs:List Value}(r:Vals xs vs):∀p:List Nat,Vals (p.map λi=>xs.getD i .non) (p.map λi=>vs.getD i Value.none)
 |[]=>.nil
 |i::p=>by
  refine .cons ?_ (Ac r p);show RelV (xs.getD i .non) (vs.getD i Value.none);rw[Q0e,Q0e]
  cases e:xs[i]? with
  |none=>
   rw[r.none_of e];exact rfl
  |some x=>
   obtain⟨u,I,J⟩:=r.get e;rw[I];exact J
theorem FV {α:Type}(a0:α)(l:List α):((List.range l.length).map λi=>l.getD i a0)=l:=by
 apply Q2p
 . simp
 . intro i h1 h2;simp[h2]
theorem FW {us vs:List Value}(hl:us.length=vs.length):((List.toArray us).zip (List.toArray vs)).map (·.2)=List.toArray vs:=by
 apply Array.toList_inj.mp;rw[Array.toList_map,ksk_zip];show List.map Prod.snd (us.zip vs)=vs;exact List.map_snd_zip (by omega)
theorem FX {α:Type}{R:α->α->Prop}(key:Nat->α){n:Nat}(h:n<2):((List.range n).map key).Pairwise R:=by
 have:n=0\/n=1:=by omega
 rcases this with rfl|rfl
 . exact List.Pairwise.nil
 . exact Q2q _ _
noncomputable abbrev lo (xs:List Value) (n:Nat):Obj:=seqObj "list" (List.toArray xs) n
theorem Ad {E:Value->Shared->Prop}{kS D:Addr}{us:List Value}{e Y:Nat}{st:SortSt}{out:List Value}{outV:List V}{P:PySem.Fin->Shared->Prop}{A:Around}(I:Inv X (pins++[(kS,lo us e),(D,lo [] Y)]) σ H s)(fK:ia X pins H kS)(fD:ia X pins H D)(aa:kS≠D)(ac:us.length<64)(ho:out.length<64)
 (U:(arrOf st).map (·.2)=List.toArray out) (hf:failedOf st=none) (rv:Vals outV out)
 (h:∀s',Inv X pins σ (upd H D (.lst outV)) s'->P (.done (.ret .none)) s'):wpAny (model X.prog X.w) A (ksk_tail D false Y (.ref kS) st) P E s:=by
 have nk:=(I.pin (kS,lo us e) (Q06 _ (Q06 _ (Q05)))).1;have nD:=(I.pin (D,lo [] Y) (Q06 _ (Q06 _ (Q0b _ Q05)))).1;have s1:=Heap.SameBut.update s.heap kS (Obj.mapSeq λ_=>(#[]:Array Value));have J:(s.heap.update kS (Obj.mapSeq λ_=>(#[]:Array Value))).get? D=some (lo [] Y):=(s1.2 D aa.symm).trans nD;have s2:=Heap.SameBut.update (s.heap.update kS (Obj.mapSeq λ_=>(#[]:Array Value))) D (Obj.mapSeq λ_=>List.toArray out);obtain⟨c2,ab⟩:∃c2,((s.heap.update kS (Obj.mapSeq λ_=>(#[]:Array Value))).update D (Obj.mapSeq λ_=>List.toArray out)).get? D=some (lo out c2):=⟨_,get?_update_seq J λ_=>List.toArray out⟩;have I1:Inv X pins σ H { s with heap:=s.heap.update kS (Obj.mapSeq λ_=>(#[]:Array Value)) }:=I.kz.own (t':=s.toks) fK s1
 have I2:Inv X pins σ (upd H D (.lst outV)) { s with heap:=(s.heap.update kS (Obj.mapSeq λ_=>(#[]:Array Value))).update D (Obj.mapSeq λ_=>List.toArray out) }:=
  I1.adopt (t':=s.toks) fD (λc u hc q=>(s2.2 c hc).trans q) ⟨by rw[rv.length];exact Q0k (gE (by omega)),out,c2,rv,ab⟩
 unfold ksk_tail
 try dsimp only
 rw[U];refine Q0 (listUpdate_at nk rfl ?_ (by rw[Q02,sizeLine_eq];omega) (Q07 _));refine Q0 (wpAny_letGo ?_);refine Q0 (seqEpoch_at J rfl ?_);refine Q0 (listUpdate_at J rfl ?_ (Q07 _) (by show(List.toArray out).size<=_;rw[Q02,sizeLine_eq];omega));rw[hf];simp only[bne_self_eq_false,Bool.false_eq_true,if_false];exact Q0c (h _ I2)
theorem FY {E:Value->Shared->Prop}{kS D:Addr}{us vs:List Value}{xs:List V}{e e1:Nat}{P:PySem.Fin->Shared->Prop}{A:Around}{O:KeyOrd}{key:Nat->O.α}(I:Inv X (pins++[(kS,lo us e),(D,lo [] e1)]) σ H s)(fK:ia X pins H kS)(fD:ia X pins H D)(ac:kS≠D)
 (hl:us.length=vs.length) (aa:vs.length<64) (rv:Vals xs vs) (ask:Asks X.prog X.w A s us key)
 (h:∀(p:List Nat),p.Perm (List.range vs.length)->(p.map key).Pairwise O.kle->∀s',Inv X pins σ (upd H D (.lst (p.map λi=>xs.getD i .non))) s'->P (.done (.ret .none)) s'):
 wpAny (model X.prog X.w) A (ksk_end D false (List.toArray vs) e1 (.ref kS) (List.toArray us)) P E s:=by
 unfold ksk_end
 try dsimp only
 simp only[Bool.false_eq_true,if_false];by_cases h2:vs.toArray.size<2
 . rw[if_pos h2,if_pos h2];have ab:vs.length<2:=by simpa using h2
   refine Q0 (Q0c ?_);rw[StateT.run_pure];refine Q0 (Q0c ?_)
   try dsimp only
   have ae:xs.length=vs.length:=rv.length
   have ez:((List.range vs.length).map λi=>xs.getD i .non)=xs:=by
    rw[<-ae];exact FV _ xs
   refine Ad (out:=vs) (outV:=xs) (st:=SortSt.mk' general' ((List.toArray us).zip (List.toArray vs)) #[] 7 none) I fK fD ac (by omega) aa (FW hl) rfl rv λs' J=>?_;have q:=h (List.range vs.length) (List.Perm.refl _) (FX key ab) s';rw[ez] at q;exact q J
 . rw[if_neg h2,if_neg h2];have ab:2<=vs.length:=by simpa using h2
   refine Q0 (Q0o (ask (by omega)) (λκ s' hk=>?_) λ_ _ hF=>hF.elim);obtain⟨rfl,hk⟩:=hk;obtain⟨k1,k2⟩:=j7.FP (key:=key) (n:=vs.length) (by omega)
   refine Q0 (Q0o (W.kat_run (κ:=κ) (ks:=us) (vs:=vs) (Q:=λY U=>U=s'/\arrOf Y=(j7.fH (j7.fX key) (W.kas_sort vs.length)).map (W.kas_item ((List.toArray us).zip vs.toArray))/\failedOf Y=none)
    (G:=λp U=>U=s'/\p=j7.fH (j7.fX key) (W.kas_sort vs.length)) hl ab aa (λp Y U _ a2 a3 a4=>⟨a4.1,by rw[a2,a4.2],a3⟩)
    (j7.zU (f:=j7.fX key) (λi j C hi hj q=>hk i j C (by omega) (by omega) q) (j7.FL (by omega)) ⟨rfl,rfl⟩)) ?_ λ_ _ x=>x)
   rintro⟨⟨⟩,Y⟩ U ⟨rfl,af,ag⟩
   try dsimp only
   refine Ad I fK fD ac (by omega) (by rw[Q04,k1.length_eq,Q21];exact aa) (W.kat_snds hl af) ag (Ac rv _) λs' J=>h _ k1 k2 s' J
theorem FZ {prog:Program}{w:World}{A:Around}{E:Value->Shared->Prop}{s:Shared}{l:Addr}{vs:List Value}{Q:List Value->Shared->Prop}(hl:IsTup s.heap l vs.toArray)
 (h:Q vs { s with heap:=(s.heap.push (seqObj "list" #[] 0)).update s.heap.objs.size (Obj.mapSeq (· ++vs.toArray)) }) (hsz:vs.length<=sizeLine):
 wpAny (model prog w) A (collect (.ref l)) Q E s:=by
 obtain⟨o,J,hc,n,hd⟩:=id hl;unfold collect;refine Q0 (wpAny_runValue (codeAny_builtin entry_proto_collect' ?_));refine Q0 (wpAny_newList (Q0c ⟨Code.quiet_builtin _ (by decide +kernel),codeAny_builtin entry_list_iadd' ?_⟩));change wpAny _ _ (Builtin.List.listExtendWith (.ref s.heap.objs.size) (.ref l) (.ref s.heap.objs.size)) _ _ { s with heap:=s.heap.push (seqObj "list" #[] 0) };unfold Builtin.List.listExtendWith;have I:(s.heap.push (seqObj "list" #[] 0)).get? l=some o:=Q09 _ J;refine Q0 (wpAny_typeOf (T:="tuple") ⟨o,I,hc⟩ ?_);have ht:(Value.type "tuple" == Value.type "tuple")=true:=by rfl
 rw[if_pos (by rw[ht];simp)];refine Q0 (listItems_at I hd ?_);refine Q0 (listItems_at (xs:=#[]) (n:=0) (Q0l _ rfl) rfl ?_);rw[if_neg (by simp)];refine Q0 (listUpdate_at (xs:=#[]) (n:=0) (Q0l _ rfl) rfl ?_ (Q07 _) (by show(#[]++vs.toArray).size<=sizeLine+1;simp only[Q2r,Q02,Q2l];omega));refine Q0c ?_;refine Q0 (wpAny_load (get?_update_seq (Q0l _ rfl) _) ?_);change wpAny _ _ (pure ((#[]:Array Value)++vs.toArray).toList) Q E _;rw[show((#[]:Array Value)++vs.toArray).toList=vs by simp];exact Q0c h
theorem F0 {E:Value->Shared->Prop}{f a:Addr}{xs:List V}{Q:VK}{W:List V->Hp->Prop}(I:Inv X pins σ H s)(hq:eB X.K H a xs\/d_ X.K H a xs)(au:xs.length<64)(w0:W [] H)
 (turn:∀(pl:List (Addr × Obj)) (s':Shared) (H':Hp) (ks:List V) (y:V) (u:Value),Inv X (pins++pl) σ H' s'->W ks H'->xs[ks.length]? =some y->RelV y u->
   wpAny (model X.prog X.w) X.A.in1.in1 (call (.ref f) [u]) (EP X (pins++pl) σ λk ab=>W (ks++[k]) ab) (λ_ _=>False) s')
 (fin:∀(pl:List (Addr × Obj)) (s':Shared) (H':Hp) (ks:List V) (us:List Value),Inv X (pins++pl) σ H' s'->W ks H'->ks.length=xs.length->Vals ks us->∃(O:KeyOrd) (key:Nat->O.α),Asks X.prog X.w X.A.in1.in1 s' us key/\
   ∀p:List Nat,p.Perm (List.range xs.length)->(p.map key).Pairwise O.kle->∀D,H' D=none->Q (.ref D) (upd H' D (.lst (p.map λi=>xs.getD i .non)))):
 wpAny (model X.prog X.w) X.A (call (.builtin "sorted") [.ref a] [(Str.ofString "key",.ref f)]) (EP X pins σ Q) E s:=by
 obtain⟨vs,rv,am⟩:∃vs,Vals xs vs/\∀{A:Around} {E:Value->Shared->Prop} {Q:List Value->Shared->Prop},Q vs { s with heap:=(s.heap.push (seqObj "list" #[] 0)).update s.heap.objs.size (Obj.mapSeq (· ++vs.toArray)) }->vs.length<=sizeLine->wpAny (model X.prog X.w) A (collect (.ref a)) Q E s:=by
  rcases hq with hq|hq
  . obtain⟨vs,rv,pl,hz⟩:=I.list hq;exact⟨vs,rv,λh1 h2=>collect_list pl.isList h1 h2⟩
  . obtain⟨vs,rv,pl,hz⟩:=I.tuple hq;exact⟨vs,rv,λh1 h2=>FZ pl h1 h2⟩
 have hl:xs.length=vs.length:=rv.length;refine call_function_entry_kw kind_sorted plain_sorted entry_sorted (ksk_s1 _ _) ?_;unfold Builtin.«sorted»;refine Q0 (m:=checkCount "sorted" 1 1 _) (Q0c ?_);refine Q0 (am ?_ (by rw[sizeLine_eq];omega));refine Q0 (wpAny_newList ?_ (by rw[sizeLine_eq];omega))
 have hsz:((s.heap.push (seqObj "list" #[] 0)).update s.heap.objs.size (Obj.mapSeq (· ++vs.toArray))).objs.size=s.heap.objs.size+1:=by
  rw[Q22,size_push']
 have Y:(((s.heap.push (seqObj "list" #[] 0)).update s.heap.objs.size (Obj.mapSeq (· ++vs.toArray))).push (seqObj "list" vs.toArray 0)).get? (s.heap.objs.size+1)=some (seqObj "list" vs.toArray 0):=by
  rw[<-hsz];exact Q0l _ rfl
 have keep:∀b o,s.heap.get? b=some o->(((s.heap.push (seqObj "list" #[] 0)).update s.heap.objs.size (Obj.mapSeq (· ++vs.toArray))).push (seqObj "list" vs.toArray 0)).get? b=some o:=λb o q=>by
  have ae:b<s.heap.objs.size:=Q01 q;rw[Q2s _ _ _ (by rw[hsz];exact Q08 (Nat.lt_succ_of_lt ae)),Heap.get?_update_ne _ _ _ _ (Q08 ae),Q2s _ _ _ (Q08 ae)];exact q
 show wpAny _ _ _ _ _ { s with heap:=((s.heap.push (seqObj "list" #[] 0)).update s.heap.objs.size (Obj.mapSeq (· ++vs.toArray))).push (seqObj "list" vs.toArray 0) };rw[hsz];generalize hG:((s.heap.push (seqObj "list" #[] 0)).update s.heap.objs.size (Obj.mapSeq (· ++vs.toArray))).push (seqObj "list" vs.toArray 0)=G at Y keep ⊢;have an:G.objs.size=s.heap.objs.size+2:=by rw[<-hG,size_push',hsz]
 have I1:Inv X pins σ H { s with heap:=G }:=I.kept (t':=s.toks) keep;refine Q0 (wpAny_holding (wpAny_call_entry_kw slot_list_sort ⟨_,Y,rfl⟩ entry_list_sort ?body (ksk_l1 _ _)))
 case body=>
  show wpAny (model X.prog X.w) X.A.in1.in1 (Builtin.«list.sort» ⟨[.ref (s.heap.objs.size+1)],[(Str.ofString "key",.ref f)]⟩) _ _ _;rw[ksk_t1];unfold ksk_tree;generalize hD:s.heap.objs.size+1=D at Y ⊢;have ag:s.heap.objs.size<=D:=by omega
  have s1:=Heap.SameBut.update G D (Obj.mapSeq λ_=>(#[]:Array Value));obtain⟨e1,ah⟩:∃e1,(G.update D (Obj.mapSeq λ_=>(#[]:Array Value))).get? D=some (lo [] e1):=⟨_,get?_update_seq Y λ_=>#[]⟩;refine Q0 (listItems_at Y rfl ?_);refine Q0 (listUpdate_at Y rfl ?_ (by rw[Q02,sizeLine_eq];omega) (Q07 _));refine Q0 (seqEpoch_at ah rfl ?_);refine Q0 (wpAny_newTuple ?_ (by show vs.length<=_;rw[sizeLine_eq];omega));refine Q0 (wpAny_newList ?_ (Q07 _));refine wpAny_holding ?_;show wpAny (model X.prog X.w) X.A.in1.in1 _ _ _ { s with heap:=((G.update D (Obj.mapSeq λ_=>(#[]:Array Value))).push (seqObj "tuple" vs.toArray 0)).push (seqObj "list" #[] 0) };generalize ai:((G.update D (Obj.mapSeq λ_=>(#[]:Array Value))).push (seqObj "tuple" vs.toArray 0)).objs.size=kS;have ar:kS=s.heap.objs.size+3:=by rw[<-ai,size_push',Q22,an]
  have aj:kS≠D:=by omega
  have U:ia X pins H D:=I.lI ag (I.hok.fresh ag);have ac:ia X pins H kS:=I.lI (by omega) (I.hok.fresh (by omega))
  have af:∀b o,b≠D->G.get? b=some o->(((G.update D (Obj.mapSeq λ_=>(#[]:Array Value))).push (seqObj "tuple" vs.toArray 0)).push (seqObj "list" #[] 0)).get? b=some o:=λb o hb q=>
   Q09 _ (Q09 _ ((s1.2 b hb).trans q))
  have I2:Inv X pins σ H { s with heap:=((G.update D (Obj.mapSeq λ_=>(#[]:Array Value))).push (seqObj "tuple" vs.toArray 0)).push (seqObj "list" #[] 0) }:=
   Inv.turned (s:={ s with heap:=G }) (t':=s.toks) (it:=D) I1 af U.1 U.2.1 U.2.2.2.1 U.2.2.2.2.1 U.2.2.2.2.2
  have hK:(((G.update D (Obj.mapSeq λ_=>(#[]:Array Value))).push (seqObj "tuple" vs.toArray 0)).push (seqObj "list" #[] 0)).get? kS=some (lo [] 0):=by rw[<-ai];exact Q0l _ rfl
  have ak:(((G.update D (Obj.mapSeq λ_=>(#[]:Array Value))).push (seqObj "tuple" vs.toArray 0)).push (seqObj "list" #[] 0)).get? D=some (lo [] e1):=Q09 _ (Q09 _ ah);generalize ((G.update D (Obj.mapSeq λ_=>(#[]:Array Value))).push (seqObj "tuple" vs.toArray 0)).push (seqObj "list" #[] 0)=G2 at I2 hK ak ⊢
  have pinned:∀{H':Hp} {s':Shared} {us:List Value} {e:Nat},Inv X pins σ H' s'->s'.heap.get? kS=some (lo us e)->s'.heap.get? D=some (lo [] e1)->H' kS=none->H' D=none->Inv X (pins++[(kS,lo us e),(D,lo [] e1)]) σ H' s':=λ{H' s' us e} J k1 k2 n1 n2=>
   J.lC λp hp=>(List.mem_append.mp hp).elim (λz=>J.pin p (Q06 _ z)) λz=>by
     have z:p=(kS,lo us e)\/p=(D,lo [] e1):=by simpa using z
     rcases z with rfl|rfl
     . exact⟨k1,n1,ac.2.1,ac.2.2.1,by intro v z;cases z⟩
     . exact⟨k2,n2,U.2.1,U.2.2.1,by intro v z;cases z⟩
  have own:∀{H':Hp} {b:Addr},(b=kS\/b=D)->H' b=none->ia X pins H' b:=λ{H' b} hb n=>by
   rcases hb with rfl|rfl
   . exact⟨n,ac.2⟩
   . exact⟨n,U.2⟩
  unfold ksk_rest;refine Q0 (wpAny_rule ?_)
  first
   |rw[List.forIn_toArray]
   |(rw[<-Q2t];simp only[List.toList_toArray])
   |rw[<-Q2t]
  refine Q0 (ksk_fold (λi s'=>∃ks us e H',Inv X (pins++[(kS,lo us e),(D,lo [] e1)]) σ H' s'/\Vals ks us/\ks.length=i/\i<=vs.length/\W ks H') vs 0 _
   ⟨[],[],0,H,pinned I2 hK ak ac.1 U.1,.nil,rfl,Q07 _,w0⟩ (λj x s' hx hJ=>?_) λs' hJ=>?_)
  . obtain⟨ks,us,e,H',J,rk,hi,ao,wk⟩:=hJ;have hi:ks.length=j:=by omega
    have hj:j<vs.length:=(List.getElem?_eq_some_iff.mp hx).1;have al:j<xs.length:=by omega
    obtain⟨u,hu,ru⟩:=rv.get (Q03 al);rw[hx] at hu;cases hu;refine Q0 (wpAny_attempt (Q0o (turn _ s' H' ks (xs[j]) x J wk (by rw[hi];exact Q03 al) ru) (λk aa hk=>?_) λ_ _ hF=>hF.elim));obtain⟨kv,ab,J',ap,w'⟩:=hk;have pk:=J'.pin (kS,lo us e) (Q06 _ (Q06 _ (Q05)));have pD:=J'.pin (D,lo [] e1) (Q06 _ (Q06 _ (Q0b _ Q05)));have av:us.length=ks.length:=rk.length.symm;have s2:=Heap.SameBut.update aa.heap kS (Obj.mapSeq (·.push k));have ea:(List.toArray us).push k=List.toArray (us++[k]):=by simp
    obtain⟨c2,aq⟩:∃c2,(aa.heap.update kS (Obj.mapSeq (·.push k))).get? kS=some (lo (us++[k]) c2):=⟨_,by show _=some (seqObj "list" (List.toArray (us++[k])) _);rw[<-ea];exact get?_update_seq pk.1 (·.push k)⟩
    try dsimp only
    refine Q0 (listUpdate_at pk.1 rfl ?_ (by rw[Q02,sizeLine_eq];omega) (Q0f (Q1k (Array.size_push ..)) (by rw[Q02,sizeLine_eq];omega)));have J2:Inv X pins σ ab { aa with heap:=aa.heap.update kS (Obj.mapSeq (·.push k)) }:=J'.kz.own (t':=aa.toks) (own (.inl rfl) pk.2.1) s2;refine Q0c ⟨rfl,ks++[kv],us++[k],c2,ab,pinned J2 aq ((s2.2 D aj.symm).trans pD.1) pk.2.1 pD.2.1,rk.append (.cons ap .nil),by rw[Q0d,Q1n];omega,by omega,w'⟩
  . obtain⟨ks,us,e,H',J,rk,hi,ao,wk⟩:=hJ;have hi:ks.length=vs.length:=by omega
    have pk:=J.pin (kS,lo us e) (Q06 _ (Q06 _ (Q05)));have pD:=J.pin (D,lo [] e1) (Q06 _ (Q06 _ (Q0b _ Q05)))
    try dsimp only
    refine Q0 (listItems_at pk.1 rfl ?_);obtain⟨O,key,ask,q⟩:=fin _ s' H' ks us J wk (by omega) rk;refine FY J (own (.inl rfl) pk.2.1) (own (.inr rfl) pD.2.1) aj (by rw[<-rk.length];exact hi) (by omega) rv ask λp p1 p2 aa J'=>?_;exact(Zr rfl (Q0c (Zr rfl ⟨.ref D,_,J',rfl,q p (by rw[hl];exact p1) p2 D pD.2.1⟩)))
theorem F1 {E:Value->Shared->Prop}{f a:Addr}{xs:List V}{Q:VK}{W:List V->Hp->Prop}(I:Inv X pins σ H s)(Y:eB X.K H a xs)(J:xs.length<64)(w0:W [] H)
 (turn:∀(pl:List (Addr × Obj)) (s':Shared) (H':Hp) (ks:List V) (y:V) (u:Value),Inv X (pins++pl) σ H' s'->W ks H'->xs[ks.length]? =some y->RelV y u->
   wpAny (model X.prog X.w) X.A.in1.in1 (call (.ref f) [u]) (EP X (pins++pl) σ λk U=>W (ks++[k]) U) (λ_ _=>False) s')
 (fin:∀(pl:List (Addr × Obj)) (s':Shared) (H':Hp) (ks:List V) (us:List Value),Inv X (pins++pl) σ H' s'->W ks H'->ks.length=xs.length->Vals ks us->∃(O:KeyOrd) (key:Nat->O.α),Asks X.prog X.w X.A.in1.in1 s' us key/\
   ∀p:List Nat,p.Perm (List.range xs.length)->(p.map key).Pairwise O.kle->∀D,H' D=none->Q (.ref D) (upd H' D (.lst (p.map λi=>xs.getD i .non)))):
 wpAny (model X.prog X.w) X.A (call (.builtin "sorted") [.ref a] [(Str.ofString "key",.ref f)]) (EP X pins σ Q) E s:=F0 I (.inl Y) J w0 turn fin
end
noncomputable def iq:Key->Key->Bool
 | .inl i,.inl j=>decide (i<j)
 | .inl _,.inr _=>true
 | .inr _,.inl _=>false
 | .inr x,.inr y=>decide (x.cps.toList<y.cps.toList)
theorem F2 (a:Key):iq a a=false:=by
 cases a with
 |inl i=>simp[iq]
 |inr x=>simpa[iq] using List.lt_irrefl x.cps.toList
theorem F3 {a b c:Key}(h1:iq a b=true)(h2:iq b c=true):iq a c=true:=by
 cases a <;> cases b <;> cases c <;> simp only[iq,decide_eq_true_eq,Bool.false_eq_true] at * <;> first|omega|exact List.lt_trans h1 h2
theorem F4 {x y:Str}(h:x.cps.toList=y.cps.toList):x=y:=by
 cases x;cases y;simp only[Str.mk.injEq];exact Array.toList_inj.mp h
theorem F5 (a b:Key):iq a b=true\/a=b\/iq b a=true:=by
 cases a with
 |inl i=>
  cases b with
  |inl j=>
   simp only[iq,decide_eq_true_eq];rcases Int.lt_trichotomy i j with h|h|h
   . exact .inl h
   . exact .inr (.inl (by rw[h]))
   . exact .inr (.inr h)
  |inr y=>exact .inl rfl
 |inr x=>
  cases b with
  |inl j=>exact .inr (.inr rfl)
  |inr y=>
   simp only[iq,decide_eq_true_eq];by_cases h1:x.cps.toList<y.cps.toList
   . exact .inl h1
   . by_cases h2:y.cps.toList<x.cps.toList
     . exact .inr (.inr h2)
     . exact .inr (.inl (by rw[F4 (List.le_antisymm (List.not_lt.mp h2) (List.not_lt.mp h1))]))
theorem F6 {a b:Key}(h:iq a b=true):a≠b:=λe=>by
 rw[e,F2] at h;cases h
noncomputable def gK:List Key->List Key->Bool
 |[],[]=>false
 |[],_::_=>true
 |_::_,[]=>false
 |x::xs,y::ys=>if x=y then gK xs ys else iq x y
theorem su:∀a:List Key,gK a a=false
 |[]=>rfl
 |x::xs=>by
  show(if x=x then gK xs xs else iq x x)=false;rw[if_pos rfl];exact su xs
theorem oK (x y:Key)(xs ys:List Key):gK (x::xs) (y::ys)=if x=y then gK xs ys else iq x y:=rfl
theorem qa:∀(a b c:List Key),gK a b=true->gK b c=true->gK a c=true
 |[],[],_,h,_=>by cases h
 |[],_::_,[],_,h=>by cases h
 |[],_::_,_::_,_,_=>rfl
 |_::_,[],_,h,_=>by cases h
 |_::_,_::_,[],_,h=>by cases h
 |x::xs,y::ys,z::zs,h1,h2=>by
  rw[oK] at *;by_cases J:x=y
  . subst J;rw[if_pos rfl] at h1;by_cases I:x=z
    . rw[if_pos I] at h2 ⊢;exact qa xs ys zs h1 h2
    . rw[if_neg I] at h2 ⊢;exact h2
  . rw[if_neg J] at h1;by_cases I:y=z
    . subst I;rw[if_neg J];exact h1
    . rw[if_neg I] at h2;have q:=F3 h1 h2;rw[if_neg (F6 q)];exact q
theorem qb:∀a b:List Key,gK a b=true\/a=b\/gK b a=true
 |[],[]=>.inr (.inl rfl)
 |[],_::_=>.inl rfl
 |_::_,[]=>.inr (.inr rfl)
 |x::xs,y::ys=>by
  rw[oK,oK];by_cases e:x=y
  . subst e;rw[if_pos rfl,if_pos rfl];rcases qb xs ys with h|h|h
    . exact .inl h
    . exact .inr (.inl (by rw[h]))
    . exact .inr (.inr h)
  . rw[if_neg e,if_neg (λz=>e z.symm)];rcases F5 x y with h|h|h
    . exact .inl h
    . exact absurd h e
    . exact .inr (.inr h)
@[reducible] noncomputable def qc:KeyOrd where
  α:=List Key
  blt:=gK
  irrefl:=su
  trans:=qa
  negTrans a b c h:=by
   rcases qb a b with q|q|q
   . exact .inl q
   . exact .inr (by rw[<-q];exact h)
   . exact .inr (qa b a c q h)
  total a b h1 h2:=by
   rcases qb a b with q|q|q
   . rw[h1] at q;cases q
   . exact q
   . rw[h2] at q;cases q
def l5 (a b:List Key):Prop:=gK b a=false
noncomputable def gL:Key->Bool
 | .inl _=>true
 | .inr _=>false
def Ae (I:List (List Key)):Prop:=∃J:List Bool,J≠[]/\∀U∈I,U.map gL=J
def l6 (H:Hp):List V->List (List Key)->Prop:=Paired λk I=>∃p,k=.ref p/\H p=some (.tup (I.map kV))
section
variable {X:Cx}{pins:List (Addr × Obj)}{σ:St}{H:Hp}{s:Shared}
theorem l7 {k:Key}{u:Value}(r:RelV (kV k) u):(∃i t,k=.inl i/\u=.int i t)\/∃x t,k=.inr x/\u=.str x t:=by
 cases k with
 |inl i=>
  obtain⟨t,rfl⟩:=r;exact .inl ⟨i,t,rfl,rfl⟩
 |inr x=>
  obtain⟨t,rfl⟩:=r;exact .inr ⟨x,t,rfl,rfl⟩
theorem sx {prog:Program}{w:World}{A:Around}{C:Bool->Shared->Prop}:∀(U Y:List Key) (I J:List Value) (i:Nat),Vals (U.map kV) I->Vals (Y.map kV) J->U.map gL=Y.map gL->C (gK U Y) s->
 W.KatLex prog w A true false C (I.zip J) i s
 |[],[],I,J,i,r1,r2,_,q=>by
  cases r1;cases r2;exact W.kat_nil q
 |[],_::_,_,_,_,_,_,h,_=>by cases h
 |_::_,[],_,_,_,_,_,h,_=>by cases h
 |x::xs,y::ys,I,J,i,r1,r2,h,q=>by
  cases r1 with
  |cons a1 b1=>
  cases r2 with
  |cons a2 b2=>
  have h1:gL x=gL y:=(List.cons.inj h).1;have h2:xs.map gL=ys.map gL:=(List.cons.inj h).2;rw[oK] at q;rcases l7 a1 with⟨m,t,rfl,rfl⟩|⟨m,t,rfl,rfl⟩ <;> rcases l7 a2 with⟨n,t',rfl,rfl⟩|⟨n,t',rfl,rfl⟩
  . refine W.kat_cons (wpAny_eqBool_int ?_);by_cases e:m=n
    . subst e;rw[if_pos rfl] at q;rw[beq_self_eq_true];exact W.kat_yes (sx xs ys _ _ (i+1) b1 b2 h2 q)
    . rw[if_neg (λz=>e (Sum.inl.inj z))] at q;rw[beq_false_of_ne e];refine W.kat_no ?_
      cases hi:(i == 0) with
      |true=>exact oneLt_int q
      |false=>exact W.kat_one _ _ (lt_int q)
  . cases h1
  . cases h1
  . refine W.kat_cons (wpAny_eqBool_str ?_);by_cases e:m=n
    . subst e;rw[if_pos rfl] at q;rw[decide_eq_true rfl];exact W.kat_yes (sx xs ys _ _ (i+1) b1 b2 h2 q)
    . rw[if_neg (λz=>e (Sum.inr.inj z))] at q;rw[decide_eq_false e];refine W.kat_no ?_
      cases hi:(i == 0) with
      |true=>exact oneLt_str q
      |false=>exact W.kat_one _ _ (lt_str q)
theorem Af {ks:List V}{us:List Value}{J:List (List Key)}(I:Inv X pins σ H s)(r:Vals ks us)(Y:l6 H ks J){i:Nat}(hi:i<us.length):
 ∃p U,us.getD i Value.none=.ref p/\IsTup s.heap p (List.toArray U)/\Vals ((J.getD i []).map kV) U/\J.getD i []∈J:=by
 have hl:=r.length;have aa:ks.length=J.length:=Paired.length Y;have e1:ks[i]? =some (ks[i]'(by omega)):=Q03 (by omega);obtain⟨u,hu,ru⟩:=r.get e1;have e2:J.getD i []=J[i]'(by omega):=by rw[Q0e,Q03 (by omega)];rfl
 have key:∀(ks:List V) (J:List (List Key)),l6 H ks J->∀i (h1:i<ks.length) (h2:i<J.length),∃p,ks[i]=.ref p/\H p=some (.tup (J[i].map kV)):=by
  intro ks J Y
  induction Y with
  |nil=>intro i h1;simp at h1
  |cons a b ih=>
   intro i h1 h2
   cases i with
   |zero=>exact a
   |succ i=>simpa using ih i (by simpa using h1) (by simpa using h2)
 obtain⟨p,hp,hH⟩:=key ks J Y i (by omega) (by omega);rw[hp] at ru
 cases ru;obtain⟨U,rv,tp,_⟩:=I.tuple (d_.of hH);refine⟨p,U,by rw[Q0e,hu];rfl,tp,by rw[e2];exact rv,by rw[e2];exact Q0v _⟩
theorem Ag (I:Inv X pins σ H s){t:Bool}:∀{ks:List V}{us:List Value}{J:List (List Key)},Vals ks us->l6 H ks J->(∀U∈J,∃k r,U=k::r/\gL k=t)->
 ∃fs,W.KatTups s.heap us fs/\fs.length=us.length/\∀v∈fs,(t=true/\∃i tk,v=.int i tk)\/(t=false/\∃x tk,v=.str x tk)
 |_,_,_,.nil,.nil,_=>⟨[],W.KatTups.nil,rfl,λv Y=>nomatch Y⟩
 |_,_,_,.cons a r,.cons b q,h=>by
  obtain⟨p,rfl,hp⟩:=b
  cases a;obtain⟨fs,f1,f2,f3⟩:=Ag I r q λU hm=>h U (Q0b _ hm);obtain⟨k,rr,rfl,hk⟩:=h _ Q05;obtain⟨aa,rv,⟨o,ho,hc,n,hd⟩,_⟩:=I.tuple (d_.of hp)
  cases rv with
  |cons a1 b1=>
   refine⟨_::fs,W.KatTups.cons ho hc hd (by simp;rfl) f1,by rw[Q0h,Q0h,f2],λv Y=>?_⟩;rcases List.mem_cons.mp Y with e|e
   . subst e;rcases l7 a1 with⟨i,tk,rfl,rfl⟩|⟨x,tk,rfl,rfl⟩
     . exact .inl ⟨hk.symm,i,tk,rfl⟩
     . exact .inr ⟨hk.symm,x,tk,rfl⟩
   . exact f3 v e
theorem F7 {A:Around}{ks:List V}{us:List Value}{J:List (List Key)}(I:Inv X pins σ H s)(r:Vals ks us)(hk:l6 H ks J)(ab:Ae J):Asks X.prog X.w A s us (O:=qc) (λi=>J.getD i []):=by
 intro h2;obtain⟨ts,ac,U⟩:=ab
 obtain⟨t,tr,rfl⟩:∃t tr,ts=t::tr:=by
  cases ts with
  |nil=>exact absurd rfl ac
  |cons t tr=>exact⟨t,tr,rfl⟩
 have hh:∀kl∈J,∃k r,kl=k::r/\gL k=t:=λkl hm=>by
  have e:=U kl hm
  cases kl with
  |nil=>cases e
  |cons k r=>exact⟨k,r,rfl,(List.cons.inj e).1⟩
 obtain⟨fs,f1,f2,f3⟩:=Ag I r hk hh
 have fin:∀(i j:Nat) (C:Bool->Shared->Prop),i<us.length->j<us.length->C (gK (J.getD i []) (J.getD j [])) s->W.kas_ask X.prog X.w A (tuples' true) us i j C s:=by
  intro i j C hi hj q;unfold W.kas_ask;obtain⟨p,Y,e1,⟨o,ho,hc,n,hd⟩,rv,m1⟩:=Af I r hk hi;obtain⟨p',its',ae,⟨o',af,ah,n',ag⟩,aa,m2⟩:=Af I r hk hj;rw[e1,ae];have ht:(J.getD i []).map gL=(J.getD j []).map gL:=(U _ m1).trans (U _ m2).symm
  have hl:Y.length=its'.length:=by
   have:=congrArg List.length ht;rw[Q04,Q04] at this;rw[<-rv.length,<-aa.length,Q04,Q04,this]
  refine W.kat_lt ho hd af ag ?_;have ef:decide ((List.toArray Y).size<(List.toArray its').size)=false:=by rw[Q02,Q02,hl];simp
  rw[ef];exact sx _ _ _ _ 0 rv aa ht q
 cases t with
 |true=>
  refine W.kat_kind (T:=.type "int") f1 (by omega) (λv hv=>?_) rfl ⟨rfl,fin⟩;rcases f3 v hv with⟨_,i,tk,rfl⟩|⟨z,_⟩
  . exact W.Looks.of_pure rfl
  . cases z
 |false=>
  refine W.kat_kind (T:=.type "str") f1 (by omega) (λv hv=>?_) rfl ⟨rfl,fin⟩;rcases f3 v hv with⟨z,_⟩|⟨_,x,tk,rfl⟩
  . cases z
  . exact W.Looks.of_pure rfl
end
def qd (K:PySem.W.Frag) (P:Addr) (U:Pos) (qual:Str) (te:TE) (σ:St) (Q:VK):VK:=λx H1=>∃a xs,x=.ref a/\eB K H1 a xs/\xs.length<64/\eU P U qual H1/\
 ∀c' H2,lZ P U qual c' H2->(∀b o,b≠P->H1 b=some o->H2 b=some o)->
 ∃W:List V->Hp->Prop,W [] H2/\(∀ks I,W ks I->lZ P U qual c' I)/\(∀ks I y,W ks I->xs[ks.length]? =some y->te (some y::σ) I λk Y=>W (ks++[k]) Y)/\
 ∀ks I,W ks I->ks.length=xs.length->∃J,l6 I ks J/\Ae J/\∀p:List Nat,p.Perm (List.range xs.length)->(p.map λi=>J.getD i []).Pairwise l5->∀D,I D=none->Q (.ref D) (upd I D (.lst (p.map λi=>xs.getD i .non)))
def F8 (K:W.Frag) (P:Addr) (I:Pos) (qual:Str) (tl te:TE):TE:=λσ H Q=>tl σ H (qd K P I qual te σ Q)
section
variable {X:Cx}
theorem qe {x:Str}{N':List Str}{l body:Expr}{U:Arguments}{scope:Scope}{lp kp p pos:Pos}{qual:Str}{c P:Addr}{tl te:TE}{k:Nat}(hg:Gl X "sorted")(hm:X.mg "sorted"=none)(hv:bootBuiltins "sorted"=some (.builtin "sorted"))(hr:fY k X.A)(hq:X.env.qual++"<lambda>"=qual)(aa:X.env.code=.ref c)(C:PySem.W.CodeHd X.base c P)
 (B:BM X.mg X.base) (S:j9 X x N' scope) (ac:defaultsOf U X.env=([],[])) (hb:∀(cl:List (Str × Addr)) (pm:Value) (c':Addr) (Y u:Value),bindArgs (PySem.W.kla_fn "<lambda>" qual U body scope cl pm (.ref c') Y) ⟨[u],[]⟩=pure [(x,u)])
 (hl:PE X l tl) (he:∀(cl:List (Str × Addr)) (f c':Addr) (s:Shared) (H:Hp),PE (p_ X x N' scope cl qual f c' s H) body te) (hs:starEach [l] X.env=[(false,eval l X.env)]:=by rfl):
 PE X (.Call (.Name "sorted" p) [l] [⟨some "key",.Lambda U body scope lp,kp⟩] pos) (F8 X.K P lp qual tl te):=by
 intro pins s σ H Q I h;refine wpAny_Call_Name_kw (lD I hg hm hv ?_);have ha:PA X [l] (gy tl iz):=a_ hl c_ (by rw[hs];rfl);refine callWith_kw (eZ (ha pos pins s σ H (λvs H1=>match vs with|[x]=>qd X.K P lp qual te σ Q x H1|_=>False) I h) λus s1 zq=>?_) (by rw[hs];rfl) (by rw[hs];rfl);obtain⟨vs,H1,I1,r1,q1⟩:=zq
 obtain⟨x',rfl⟩:∃x',vs=[x']:=by
  match vs,q1 with
  |[x'],_=>exact⟨x',rfl⟩
 have q1:qd X.K P lp qual te σ Q x' H1:=q1;obtain⟨a,xs,rfl,ah,ai,T,cont⟩:=q1;obtain⟨u,rfl,ru⟩:=vals1 r1
 cases ru;show wpAny _ _ (evalAll [do let v <-eval (.Lambda U body scope lp) X.env;standAt pos;pure v]) _ _ s1;obtain⟨cl,ab,ae,af⟩:=rX (scope:=scope) (env:=X.env) λy hy hf=>I1.ok.has y.1 (S.free y hy hf);refine wpAny_evalAll_cons (Q0 (PySem.W.kla_eval ac ?_));rw[hq];refine FT I1 aa C B T ab λf c' pm Y H2 s2 I2 aj mono=>?_;refine Q0 (wpAny_standAt (Q0c (wpAny_evalAll_nil ?_)));show wpAny _ _ (call (.builtin "sorted") [.ref a] [(Str.ofString "key",.ref f)]) _ _ s2;obtain⟨W,w0,wL,wt,wf⟩:=cont c' H2 aj mono
 have ak:∃ps,H1 P=some (.gA ps):=by
  rcases T with e|⟨am,e,_⟩
  . exact⟨_,e⟩
  . exact⟨_,e⟩
 have al:eB X.K H2 a xs:=by
  obtain⟨ps,hP⟩:=ak;rcases ah with(z|⟨o,z⟩)|z
  . exact .inl (.inl (mono a _ (gO z hP (by intro z;cases z)) z))
  . exact .inl (.inr ⟨o,mono a _ (gO z hP (by intro z;cases z)) z⟩)
  . exact .inr z
 refine eZ (F1 (Q:=Q) (W:=W) I2 al ai w0 (λpl s' H' ks y u J wk hy ry=>?_) λpl s' H' ks us J wk ag rk=>?_) λr s' ⟨v,H',J,rv,q⟩=>⟨v,H',J.kz,rv,q⟩
 . exact FU J S hr.hd hr.depth ae af (Q0u _ (Q06 _ Q05)) (wL ks H' wk).2 (hb cl pm c' Y) ry (he cl f c') (wt ks H' y wk hy)
 . obtain⟨an,k1,k2,k3⟩:=wf ks H' wk ag;exact⟨qc,_,F7 J rk k1 k2,λp p1 p2 D hD=>k3 p p1 p2 D hD⟩
end
noncomputable def Ah (K:W.Frag) (a b:Addr):It:=
 ⟨λi H=>∃xs ys x y,eB K H a xs/\eB K H b ys/\xs[i]? =some x/\ys[i]? =some y,
  λi H v H'=>∃p x y,H p=none/\v=.ref p/\(∀xs,eB K H a xs->xs[i]? =some x)/\(∀ys,eB K H b ys->ys[i]? =some y)/\H'=upd H p (.tup [x,y]),
  λi H=>∃xs ys,eB K H a xs/\eB K H b ys/\(xs.length<=i\/ys.length<=i)⟩
theorem F9 {P:Program}{w:World}{K:W.Frag}{ai:List Expr}{k:Nat}{tpos:Pos}{z TI TO J U l1 l2:Addr}(D:ZipApart z TI TO J U l1 l2):
 Turn P w K (.Tuple ai k tpos) (Ah K l1 l2) [z,TI,TO,J,U] z (λi h=>∃oa ob,IsZip h z TI TO .none/\IsPair h TI (.ref J) (.ref U)/\IsPair h TO oa ob/\h.IsListIter J l1 i/\h.IsListIter U l2 i) where
 mem:=by simp
 obj:=λi h st b Y=>by
  obtain⟨oa,ob,h1,h2,h3,h4,h5⟩:=st;have Y:b=z\/b=TI\/b=TO\/b=J\/b=U:=by simpa using Y
  rcases Y with rfl|rfl|rfl|rfl|rfl
  . exact⟨_,h1,λv y=>by
     have y:Data.fields _=Data.cell v:=y
     cases y⟩
  . exact⟨_,h2,λv y=>by
     have y:Data.seq _ _=Data.cell v:=y
     cases y⟩
  . exact⟨_,h3,λv y=>by
     have y:Data.seq _ _=Data.cell v:=y
     cases y⟩
  . obtain⟨o,q,c,d⟩:=h4;exact⟨o,q,λv y=>by rw[d] at y;cases y⟩
  . obtain⟨o,q,c,d⟩:=h5;exact⟨o,q,λv y=>by rw[d] at y;cases y⟩
 keep:=λi h h' st k=>by
  obtain⟨oa,ob,h1,h2,h3,h4,h5⟩:=st;exact⟨oa,ob,k z (by simp) _ h1,k TI (by simp) _ h2,k TO (by simp) _ h3,h4.at λo q=>k J (by simp) o q,h5.at λo q=>k U (by simp) o q⟩
 item:=by
  intro X hP hw hK hc i pins s σ H E I hf st hg;subst hP hw hK;obtain⟨oa,ob,h1,h2,h3,h4,h5⟩:=st;obtain⟨xs,ys,x,y,aa,ab,hx,hy⟩:=hg;obtain⟨aj,ae,p1,am⟩:=I.list aa;obtain⟨ak,af,p2,an⟩:=I.list ab;obtain⟨u1,ao,ap⟩:=ae.get hx;obtain⟨u2,aq,ar⟩:=af.get hy;have fr:H s.heap.objs.size=none:=I.hok.fresh (Q00 _);refine wpAny_pyNext_zip_item D h1 h2 h3 h4 h5 p1.isList p2.isList (x:=u1) (y:=u2) (by simpa using ao) (by simpa using aq) λh' q1 q2 q3 q4 q5 q6 q7=>?_;refine(Zr rfl (wpAny_letOwnedTupleGo_zip (s:={ s with heap:=h' }) q1 λac g1 g2=>?_))
  have au:∀b∈[z,TI,TO,J,U],b<s.heap.objs.size:=λb Y=>by
   have Y:b=z\/b=TI\/b=TO\/b=J\/b=U:=by simpa using Y
   rcases Y with rfl|rfl|rfl|rfl|rfl
   . exact Q01 h1
   . exact Q01 h2
   . exact Q01 h3
   . obtain⟨o,q,_⟩:=h4;exact Q01 q
   . obtain⟨o,q,_⟩:=h5;exact Q01 q
  have av:∀b o,s.heap.get? b=some o->b≠s.heap.objs.size:=λb o q=>Q08 (Q01 q);have kk:∀b o,b≠z->b≠TO->b≠J->b≠U->s.heap.get? b=some o->ac.get? b=some o:=λb o n1 n2 n3 n4 q=>g2.extBut b o n1 (q7 b o n1 n2 n3 n4 q);have kn:∀b o,b ∉ [z,TO,J,U]->s.heap.get? b=some o->ac.get? b=some o:=λb o n q=>kk b o (λy=>n (by simp[y])) (λy=>n (by simp[y])) (λy=>n (by simp[y])) (λy=>n (by simp[y])) q;have tup:ac.get? s.heap.objs.size=some { cls:=.type "tuple",data:=.seq #[u1,u2] }:=g2.extBut _ _ (Q0s (Q01 h1)) q5
  have I1:Inv X pins σ (upd H s.heap.objs.size (.tup [x,y])) { s with heap:=ac }:=by
   refine I.step (g':=s.gens) (d':=s.drawn) (t':=s.toks) (ch:=[z,TO,J,U]) (λb Y=>?_) (λb o _ _ hc q _=>kn b o hc q) (λb o _ _ hc q _=>⟨o.slots,kn b o hc q⟩) (λb o _ q n=>?_) (λb o hc q=>⟨o,kn b o hc q⟩) (λb ws q=>?_) (λb o v q=>?_) (λb ps q=>?_) (λm hm=>?_) (λb o q=>?_) I.bare
   . have ag:b∈[z,TI,TO,J,U]:=by
      have Y:b=z\/b=TO\/b=J\/b=U:=by simpa using Y
      rcases Y with rfl|rfl|rfl|rfl <;> simp
     obtain⟨f0,f1,f2,f3,f4,f5⟩:=hf b ag;exact⟨f3,f1,f4,f5⟩
   . rw[eE (av b o q)];exact n
   . rw[eE (eP q fr)];exact q
   . rw[eE (eP q fr)];exact q
   . exact⟨#[],by rw[eE (eP q fr),q];simp⟩
   . obtain⟨o,es,ep,ho,r⟩:=hm;exact⟨o,es,ep,kk _ o (Ne.symm (hf z (by simp)).2.1) (Ne.symm (hf TO (by simp)).2.1) (Ne.symm (hf J (by simp)).2.1) (Ne.symm (hf U (by simp)).2.1) ho,r⟩
   . by_cases Y:b=s.heap.objs.size
     . subst Y;rw[eF] at q;cases q;exact⟨vE,[u1,u2],.cons ap (.cons ar .nil),⟨_,tup,rfl,_,rfl⟩⟩
     . rw[eE Y] at q
       have nn:∀c v,H c=some v->c ∉ [z,TO,J,U]:=λc v e hm=>by
        have aw:c∈[z,TI,TO,J,U]:=by
         have hm:c=z\/c=TO\/c=J\/c=U:=by simpa using hm
         rcases hm with rfl|rfl|rfl|rfl <;> simp
        have:=(hf c aw).1;rw[e] at this;cases this
       refine(I.hok b o q).stay (λc v ah y=>kn c v ?_ y) (λc y=>by rw[eE (eP y fr)];exact y) λc ws y=>by rw[eE (eP y fr)];exact y
       rcases ah with y|y
       . rw[y];exact nn b o q
       . exact nn c _ y
  refine⟨.ref s.heap.objs.size,_,I1,rfl,⟨s.heap.objs.size,x,y,fr,rfl,λws hw=>by rw[I.pL hw aa];exact hx,λws hw=>by rw[I.pL hw ab];exact hy,rfl⟩,⟨u1,u2,g1,?_,?_,?_,?_⟩,λb Y=>?_⟩
  . exact kk TI _ D.TIz D.TITO D.TIi1 D.TIi2 h2
  . exact g2.extBut _ _ D.TOz q2
  . exact q3.at λo q=>g2.extBut _ _ D.i1z q
  . exact q4.at λo q=>g2.extBut _ _ D.i2z q
  . rw[eE (Q08 (au b Y))];exact(hf b Y).1
 done:=by
  intro X hP hw hK hc i pins s σ H E I hf st hg;subst hP hw hK;obtain⟨oa,ob,h1,h2,h3,h4,h5⟩:=st;obtain⟨xs,ys,aa,ab,al⟩:=hg;obtain⟨aj,ae,p1,am⟩:=I.list aa;obtain⟨ak,af,p2,an⟩:=I.list ab;have e1:=ae.length;have e2:=af.length
  refine wpAny_pyNext_zip_end (I.ok.hd hc) D h1 h2 h3 h4 h5 p1.isList p2.isList (by
   rcases al with q|q
   . exact .inl (by simp;omega)
   . exact .inr (by simp;omega)) λh' hk=>⟨rfl,?_⟩
  refine I.step (g':=s.gens) (d':=s.drawn) (t':=s.toks) (ch:=[z,TO,J,U]) (λb Y=>?_) (λb o _ _ hc q _=>?_) (λb o _ _ hc q _=>?_) (λb o _ q n=>n) (λb o hc q=>?_) (λb ys q=>q) (λb o v q=>q) (λb ps q=>⟨#[],by rw[q];simp⟩) (λm hm=>?_) (λb o q=>?_) I.bare
  . have ag:b∈[z,TI,TO,J,U]:=by
     have Y:b=z\/b=TO\/b=J\/b=U:=by simpa using Y
     rcases Y with rfl|rfl|rfl|rfl <;> simp
    obtain⟨f0,f1,f2,f3,f4,f5⟩:=hf b ag;exact⟨f3,f1,f4,f5⟩
  . exact hk b o (λy=>hc (by simp[y])) (λy=>hc (by simp[y])) (λy=>hc (by simp[y])) (λy=>hc (by simp[y])) q
  . exact⟨o.slots,hk b o (λy=>hc (by simp[y])) (λy=>hc (by simp[y])) (λy=>hc (by simp[y])) (λy=>hc (by simp[y])) q⟩
  . exact⟨o,hk b o (λy=>hc (by simp[y])) (λy=>hc (by simp[y])) (λy=>hc (by simp[y])) (λy=>hc (by simp[y])) q⟩
  . obtain⟨o,es,ep,ho,r⟩:=hm;exact⟨o,es,ep,hk _ o (Ne.symm (hf z (by simp)).2.1) (Ne.symm (hf TO (by simp)).2.1) (Ne.symm (hf J (by simp)).2.1) (Ne.symm (hf U (by simp)).2.1) ho,r⟩
  . have nn:∀c v,H c=some v->∀y∈[z,TI,TO,J,U],c≠y:=λc v e y hy=>eP e (hf y hy).1;refine(I.hok b o q).stay (λc v ah y=>hk c v ?_ ?_ ?_ ?_ y) (λ_ y=>y) λ_ _ y=>y <;> (rcases ah with y|y)
    all_goals first
     |(rw[y];exact nn b o q _ (by simp))
     |exact nn c _ y _ (by simp)
 self:=λA i s Q E st q=>by
  obtain⟨oa,ob,h1,_⟩:=st;exact wpAny_pyIter_zip h1 q
def F_ (K:W.Frag) (ta:TA):TI:=λσ H R=>ta σ H λvs H1=>∃a b,vs=[.ref a,.ref b]/\(∃xs,eB K H1 a xs)/\(∃ys,eB K H1 b ys)/\R (Ah K a b) H1
section
variable {X:Cx}
theorem Ai {ab:List Expr}{k:Nat}{tpos:Pos}{a b:Expr}{ta:TA}{p pos:Pos}(hg:Gl X "zip")(hm:X.mg "zip"=none)(ha:PA X [a,b] ta)(hs:starEach [a,b] X.env=[(false,eval a X.env),(false,eval b X.env)]:=by rfl)
 (aa:starEach [b] X.env=[(false,eval b X.env)]:=by rfl):PI X (.Tuple ab k tpos) (.Call (.Name "zip" p) [a,b] [] pos) (F_ X.K ta):=by
 intro pins s σ H R I h;refine Call_ (lD I hg hm boot_zip (PyProof.Rows.callWith_type1 (eZ (ha pos pins s σ H _ I h) λus J zq=>?_) (by rw[hs,aa]) (by rw[aa];rfl)));obtain⟨vs,H1,Y,r1,q1⟩:=zq;obtain⟨l1,l2,e,⟨xs,ac⟩,⟨ys,ae⟩,q⟩:=q1;subst e;obtain⟨u1,u2,rfl,af,ag⟩:=vals2 r1
 cases af
 cases ag;obtain⟨ah,aj,p1,ak⟩:=Y.list ac;obtain⟨ai,al,p2,am⟩:=Y.list ae;have a1:l1<J.heap.objs.size:=by obtain⟨_,e,_⟩:=p1.isList;exact Q01 e
 have a2:l2<J.heap.objs.size:=by obtain⟨_,e,_⟩:=p2.isList;exact Q01 e
 refine call_zip_2 p1.isList p2.isList λh' q1 q2 q3 q4 q5 q6 q7=>?_;refine wpAny_pyIter_zip q1 ?_;have I2:Inv X pins σ H1 { J with heap:=h' }:=Y.kept (t':=J.toks) q7
 have Dz:ZipApart (J.heap.objs.size+4) (J.heap.objs.size+2) (J.heap.objs.size+3) J.heap.objs.size (J.heap.objs.size+1) l1 l2:=by
  have b1:@LT.lt Nat _ l1 J.heap.objs.size:=a1;have b2:@LT.lt Nat _ l2 J.heap.objs.size:=a2;constructor <;> (intro z;have z':(_:Nat)=_:=z;omega)
 refine⟨J.heap.objs.size+4,[J.heap.objs.size+4,J.heap.objs.size+2,J.heap.objs.size+3,J.heap.objs.size,J.heap.objs.size+1],_,_,H1,rfl,I2,F9 Dz,⟨.none,.none,q1,q2,q3,q4,q5⟩,λb U=>?_,q⟩
 have U:J.heap.objs.size<=b:=by
  have U:b=J.heap.objs.size+4\/b=J.heap.objs.size+2\/b=J.heap.objs.size+3\/b=J.heap.objs.size\/b=J.heap.objs.size+1:=by simpa using U
  rcases U with z|z|z|z|z <;> rw[z]
  . exact Q1e _ _
  . exact Q1e _ _
  . exact Q1e _ _
  . exact Q00 _
  . exact Q1e _ _
 exact Y.lI U (Y.hok.fresh U)
end
end L2
namespace HT
open PyProof.Rows L2
section
open SeqAt
open PySem.AutoSeq1 (wpAny_loadPart')
open MeetsSeq MeetsSeq2 MeetsSeq3
inductive KeysAre:List Value->List Key->Prop
 |nil:KeysAre [] []
 |cons {u:Value} {k:Key} {us:List Value} {ks:List Key}:RelV (kV k) u->KeysAre us ks->KeysAre (u::us) (k::ks)
theorem KeysAre.of:∀{ks:List Key}{us:List Value},Vals (ks.map kV) us->KeysAre us ks
 |[],_,r=>by cases r;exact .nil
 |k::ks,_,r=>by
  cases r with
  |cons a b=>exact .cons a (KeysAre.of b)
theorem KeysAre.length:∀{us:List Value}{ks:List Key},KeysAre us ks->us.length=ks.length
 |_,_,.nil=>rfl
 |_,_,.cons _ h=>by rw[Q0h,Q0h,h.length]
theorem Ga (A:Around)(s:Shared){k j:Key}{u v:Value}(r:RelV (kV k) u)(q:RelV (kV j) v)(ht:gL k=gL j):∃e,SeqAt.EqAt A s u v e/\(e=true↔k=j):=by
 rcases l7 r with⟨m,t,rfl,rfl⟩|⟨m,t,rfl,rfl⟩ <;> rcases l7 q with⟨n,t',rfl,rfl⟩|⟨n,t',rfl,rfl⟩
 . exact⟨m == n,SeqAt.EqAt.int_int m t n t',by simp⟩
 . cases ht
 . cases ht
 . exact⟨m == n,SeqAt.EqAt.str_str m t n t',by simp⟩
theorem Gb (A:Around)(s:Shared){k j:Key}{u v:Value}(r:RelV (kV k) u)(q:RelV (kV j) v)(ht:gL k=gL j)(prog:Program)(w:World)(E:Value->Shared->Prop)(Q:Value->Shared->Prop)(h:Q (.bool (!iq j k)) s):
 wpAny (model prog w) A (richCompare .LtE u v) Q E s:=by
 rcases l7 r with⟨m,t,rfl,rfl⟩|⟨m,t,rfl,rfl⟩ <;> rcases l7 q with⟨n,t',rfl,rfl⟩|⟨n,t',rfl,rfl⟩
 . have e:(!iq (.inl n) (.inl m))=decide (m<=n):=by
    show(!decide (n<m))=decide (m<=n);rw[<-decide_not];exact decide_eq_decide.mpr Int.not_lt
   rw[e] at h;exact(PyProof.Rows.le_int h:wpAny (model prog w) A (compareOp .LtE (.int m t) (.int n t')) Q E s)
 . cases ht
 . cases ht
 . exact(PySem.P.le_str h:wpAny (model prog w) A (compareOp .LtE (.str m t) (.str n t')) Q E s)
theorem Gc (l b:Addr)(J I:Array Value)(n n2:Nat)(dd aj:Option Addr)(sl ak:Array (Option Value))(ns ms:List Key)(hi:KeysAre J.toList ns)(hj:KeysAre I.toList ms)(ht:ns.map gL=ms.map gL):
 Meets (Builtin.«tuple.__le__» ⟨[.ref l,.ref b],[]⟩)
  (λ_ R s=>s.heap.get? l=some { cls:=.type "tuple",dict:=dd,data:=.seq J n,slots:=sl }/\s.heap.get? b=some { cls:=.type "tuple",dict:=aj,data:=.seq I n2,slots:=ak }/\
    R (.ok (.ret (.bool (!gK ms ns)))) s):=
 .of_wp λprog w A R s h=>by
   obtain⟨hp,g,d,tk,os⟩:=s;obtain⟨hl,hb,h⟩:=h;have f2:=AutoSeq1.sub_tuple_tuple;have z1:J.size=ns.length:=by rw[<-hi.length];simp
   have z2:I.size=ms.length:=by rw[<-hj.length];simp
   have z3:ns.length=ms.length:=by have:=congrArg List.length ht;simpa using this
   wp_walk using wpAny_loadPart' hl,wpAny_loadPart' hb,wpAny_forIn_list _ (λrest b s'=>b.1=none/\s'=⟨hp,g,d,tk,os⟩/\∃(vs ws:List Value) (Y aa:List Key),rest=vs.zip ws/\
    KeysAre vs Y/\KeysAre ws aa/\Y.map gL=aa.map gL/\R (.ok (.ret (.bool (!gK aa Y)))) ⟨hp,g,d,tk,os⟩) _
   case turn=>
    rintro⟨y,x⟩ rest b s' ⟨ae,rfl,vs,ws,Y,aa,hz,af,ab,U,hR⟩
    cases af with
    |nil=>rw[List.zip_nil_left] at hz;cases hz
    |cons a ah=>
     cases ab with
     |nil=>rw[List.zip_nil_right] at hz;cases hz
     |cons c ai=>
      rw[Q2u] at hz;injection hz with al ag
      injection al with hy hx
      subst hy hx;rw[oK] at hR;have t1:=(List.cons.inj U).1;have t2:=(List.cons.inj U).2;obtain⟨e,he,ac⟩:=Ga A.in1 ⟨hp,g,d,tk,os⟩ a c t1;refine Q0 (he prog w _ _ ?_)
      cases e with
      |true=>
       rw[if_pos (ac.mp rfl).symm] at hR
       wp_walk
       exact⟨rfl,rfl,_,_,_,_,ag,ah,ai,t2,hR⟩
      |false=>
       rw[if_neg (λq=>absurd (ac.mpr q.symm) Bool.false_ne_true)] at hR;have am:=Gb A.in1 ⟨hp,g,d,tk,os⟩ a c t1 prog w
       wp_walk using am
       exact(Zr rfl (by simpa using hR))
   case fin=>
    rintro⟨b1,b2⟩ s' ⟨ae,rfl,vs,ws,Y,aa,hz,af,ab,U,hR⟩;simp only at ae;subst ae
    have hv:(!gK aa Y)=decide (J.size<=I.size):=by
     cases af with
     |nil=>
      cases ab with
      |nil=>exact(decide_eq_true (by omega)).symm
      |cons c hw=>cases U
     |cons a hv=>
      cases ab with
      |nil=>cases U
      |cons c hw=>
       rw[Q2u] at hz
       cases hz
    rw[hv] at hR
    wp_walk
    exact(Zr rfl (by simpa[Builtin.Tuple.tupleCompareSizes] using hR))
   case h=>
    exact⟨rfl,rfl,J.toList,I.toList,ns,ms,rfl,hi,hj,ht,h⟩
end
section
variable {prog:Program}{w:World}{A:Around}{E:Value->Shared->Prop}{s:Shared}
theorem Gd {l b:Addr}{J I:Array Value}{ns ms:List Key}{Q:Value->Shared->Prop}(hl:IsTup s.heap l J)(hb:IsTup s.heap b I)(hi:KeysAre J.toList ns)(hj:KeysAre I.toList ms)(ht:ns.map gL=ms.map gL)
 (hu:A.units<cLine) (h:Q (.bool (!gK ms ns)) s):wpAny (model prog w) A (compareOp .LtE (.ref l) (.ref b)) Q E s:=by
 obtain⟨⟨cls,dd,data,sl⟩,ho,hc,n,hd⟩:=id hl;obtain⟨⟨ae,ab,data2,ac⟩,U,Y,n2,aa⟩:=id hb;simp only at hc hd Y aa;subst hc hd Y aa
 exact richCompare_meets_room (op:=.LtE) ⟨_,ho,rfl⟩ ⟨_,U,rfl⟩ PySem.F.slot_tuple_le PySem.F.entry_tuple_le (PySem.F.args_tuple_le_2 _ _) (Gc l b J I n n2 dd ab sl ac ns ms hi hj ht)
  ⟨ho,U,show Value.bool (!gK ms ns)≠Value.notImplemented/\Q (.bool (!gK ms ns)) s from⟨(λx=>nomatch x),h⟩⟩ hu
end
end HT
namespace L2
open Spec PyProof.Rows
section
variable {X:Cx}
def Ge (K:W.Frag):R2:=λx y H Q=>∃a b ns ms,x=.ref a/\y=.ref b/\d_ K H a (ns.map kV)/\d_ K H b (ms.map kV)/\ns.map gL=ms.map gL/\Q (.bl (!gK ms ns)) H
theorem Gf (U:X.A.units<cLine):gn X (compareOp .LtE) (Ge X.K):=by
 intro pins s σ H x y v u Q I Y ry h;obtain⟨a,b,ns,ms,rfl,rfl,ha,hb,ht,q⟩:=h
 cases Y
 cases ry;obtain⟨aa,r1,p1,_⟩:=I.tuple ha;obtain⟨J,r2,p2,_⟩:=I.tuple hb;exact HT.Gd p1 p2 (by simpa using HT.KeysAre.of r1) (by simpa using HT.KeysAre.of r2) ht U ⟨.bl (!gK ms ns),H,I,rfl,q⟩
end
inductive iL (K:W.Frag) (H:Hp):Nat->V->V->Bool->Prop
 |ref {n:Nat} (a:Addr):iL K H n (.ref a) (.ref a) true
 |int {n:Nat} (a b:Int):iL K H n (.int a) (.int b) (decide (a=b))
 |str {n:Nat} (a b:Str):iL K H n (.str a) (.str b) (decide (a=b))
 |is {n:Nat} (a:Int) (b:Str):iL K H n (.int a) (.str b) false
 |si {n:Nat} (a:Str) (b:Int):iL K H n (.str a) (.int b) false
 |lst {n:Nat} {a b:Addr} {xs ys:List V} {e:Nat->Bool} (ne:a≠b) (ha:eB K H a xs) (hb:eB K H b ys) (hl:xs.length=ys.length) (he:∀(j:Nat) (x y:V),xs[j]? =some x->ys[j]? =some y->iL K H n x y (e j)):
   iL K H (n+1) (.ref a) (.ref b) ((List.range xs.length).all e)
 |tup {n:Nat} {a b:Addr} {xs ys:List V} {e:Nat->Bool} (ne:a≠b) (ha:d_ K H a xs) (hb:d_ K H b ys) (he:∀(j:Nat) (x y:V),xs[j]? =some x->ys[j]? =some y->iL K H n x y (e j)):
   iL K H (n+1) (.ref a) (.ref b) ((List.range (min xs.length ys.length)).all e && xs.length == ys.length)
section
variable {X:Cx}{pins:List (Addr × Obj)}{σ:St}{H:Hp}{s:Shared}
theorem Vals.at:∀{xs:List V}{us:List Value},Vals xs us->∀(j:Nat) (h:j<us.length),∃x,xs[j]? =some x/\RelV x us[j]
 |_,_,.nil,j,h=>absurd h (by simp)
 |_,_,.cons a r,0,h=>(Zr rfl a)
 |_,_,.cons a r,j+1,h=>by
  obtain⟨x,h1,h2⟩:=Vals.at r j (by simpa using h);exact⟨x,by simpa using h1,h2⟩
theorem iL.qf (I:Inv X pins σ H s){n:Nat}{x y:V}{b:Bool}(h:iL X.K H n x y b):∀(A:Around) (u v:Value),RelV x u->RelV y v->A.units+n<cLine->SeqAt.EqAt A s u v b:=by
 induction h with
 |ref a=>
  intro A u v J U hu
  cases J
  cases U;exact SeqAt.EqAt.same _
 |int a b=>
  intro A u v J U hu;obtain⟨t,rfl⟩:=J;obtain⟨t',rfl⟩:=U;exact SeqAt.EqAt.int_int a t b t'
 |str a b=>
  intro A u v J U hu;obtain⟨t,rfl⟩:=J;obtain⟨t',rfl⟩:=U
  have e:decide (a=b)=(a == b):=by
   by_cases z:a=b
   . rw[decide_eq_true z,z];simp
   . rw[decide_eq_false z];exact(beq_eq_false_iff_ne.mpr z).symm
  rw[e];exact SeqAt.EqAt.str_str a t b t'
 |is a b=>
  intro A u v J U hu;obtain⟨t,rfl⟩:=J;obtain⟨t',rfl⟩:=U;exact SeqAt.EqAt.int_str a t b t'
 |si a b=>
  intro A u v J U hu;obtain⟨t,rfl⟩:=J;obtain⟨t',rfl⟩:=U;exact SeqAt.EqAt.str_int a t b t'
 |@lst n a b xs ys e ne ha hb hl he ih=>
  intro A u v J U hu
  cases J
  cases U;obtain⟨aa,r1,p1,_⟩:=I.list ha;obtain⟨Y,r2,p2,_⟩:=I.list hb;have l1:=r1.length;have l2:=r2.length;refine .of_refs ne ?_;have q:xs.length=aa.toArray.size:=by rw[Q02];exact l1
  rw[q];refine SeqAt.RcAt.lists p1.isList p2.isList (by rw[Q02,Q02];omega) (by omega) λj h1 h2=>?_;obtain⟨x',e1,q1⟩:=Vals.at r1 j (by simpa using h1);obtain⟨y',e2,q2⟩:=Vals.at r2 j (by simpa using h2);refine ih j x' y' e1 e2 _ _ _ (by simpa using q1) (by simpa using q2) ?_;show A.units+1+n<cLine;omega
 |@tup n a b xs ys e ne ha hb he ih=>
  intro A u v J U hu
  cases J
  cases U;obtain⟨aa,r1,p1,_⟩:=I.tuple ha;obtain⟨Y,r2,p2,_⟩:=I.tuple hb;have l1:=r1.length;have l2:=r2.length;refine .of_refs ne ?_;have q:xs.length=aa.toArray.size:=by rw[Q02];exact l1
  have q':ys.length=Y.toArray.size:=by rw[Q02];exact l2
  rw[q,q'];refine SeqAt.RcAt.tuples p1 p2 (by omega) λj h1 h2=>?_;obtain⟨x',e1,q1⟩:=Vals.at r1 j (by simpa using h1);obtain⟨y',e2,q2⟩:=Vals.at r2 j (by simpa using h2);refine ih j x' y' e1 e2 _ _ _ (by simpa using q1) (by simpa using q2) ?_;show A.units+1+n<cLine;omega
def qg (K:W.Frag) (H:Hp) (n:Nat) (xs ys:List V) (e:Nat->Bool):Prop:=∀(j:Nat) (x y:V),xs[j]? =some x->ys[j]? =some y->iL K H n x y (e j)
def Aj (K:W.Frag) (n:Nat):R2:=λx y H Q=>∃a b xs ys e,x=.ref a/\y=.ref b/\qg K H n xs ys e/\
 ((eB K H a xs/\eB K H b ys/\((xs.length=ys.length/\Q (.bl ((List.range xs.length).all e)) H)\/(xs.length≠ys.length/\Q (.bl false) H)))\/
  (d_ K H a xs/\d_ K H b ys/\Q (.bl ((List.range (min xs.length ys.length)).all e && xs.length == ys.length)) H))
theorem Gg {n:Nat}(hu:X.A.units+1+n<cLine):gn X (compareOp .Eq) (Aj X.K n):=by
 intro pins s σ H x y v u Q I rx ry h;obtain⟨a,b,xs,ys,e,rfl,rfl,hd,h⟩:=h
 cases rx
 cases ry;rcases h with⟨ha,hb,h⟩|⟨ha,hb,q⟩
 . obtain⟨U,Y,p1,_⟩:=I.list ha;obtain⟨J,r2,p2,_⟩:=I.list hb;have l1:=Y.length;have l2:=r2.length;rcases h with⟨hl,q⟩|⟨hl,q⟩
   . have z:xs.length=U.toArray.size:=by rw[Q02];exact l1
     rw[z] at q;refine SeqAt.eq_listAt (e:=e) p1.isList p2.isList (by rw[Q02,Q02];omega) (by omega) (λj h1 h2=>?_) ⟨.bl _,H,I,rfl,q⟩;obtain⟨x',e1,q1⟩:=Vals.at Y j (by simpa using h1);obtain⟨y',e2,q2⟩:=Vals.at r2 j (by simpa using h2);refine(hd j x' y' e1 e2).qf I _ _ _ (by simpa using q1) (by simpa using q2) ?_;show X.A.units+1+n<cLine;omega
   . refine SeqAt.eq_list_lengthsAt p1.isList p2.isList ?_ (by omega) ⟨.bl false,H,I,rfl,q⟩;rw[Q02,Q02];simp;omega
 . obtain⟨U,Y,p1,_⟩:=I.tuple ha;obtain⟨J,r2,p2,_⟩:=I.tuple hb;have l1:=Y.length;have l2:=r2.length;have z:xs.length=U.toArray.size:=by rw[Q02];exact l1
   have z':ys.length=J.toArray.size:=by rw[Q02];exact l2
   rw[z,z'] at q;refine SeqAt.eq_tupleAt (e:=e) p1 p2 (by omega) (λj h1 h2=>?_) ⟨.bl _,H,I,rfl,q⟩;obtain⟨x',e1,q1⟩:=Vals.at Y j (by simpa using h1);obtain⟨y',e2,q2⟩:=Vals.at r2 j (by simpa using h2);refine(hd j x' y' e1 e2).qf I _ _ _ (by simpa using q1) (by simpa using q2) ?_;show X.A.units+1+n<cLine;omega
def Gh (K:W.Frag) (n:Nat):R2:=λx y H Q=>∃a b xs ys e,x=.ref a/\y=.ref b/\qg K H n xs ys e/\
 ((eB K H a xs/\eB K H b ys/\((xs.length=ys.length/\Q (.bl (!(List.range xs.length).all e)) H)\/(xs.length≠ys.length/\Q (.bl true) H)))\/
  (d_ K H a xs/\d_ K H b ys/\Q (.bl (!((List.range (min xs.length ys.length)).all e && xs.length == ys.length))) H))
theorem Gi {n:Nat}(hu:X.A.units+1+n<cLine):gn X (compareOp .NotEq) (Gh X.K n):=by
 intro pins s σ H x y v u Q I rx ry h;obtain⟨a,b,xs,ys,e,rfl,rfl,hd,h⟩:=h
 cases rx
 cases ry;rcases h with⟨ha,hb,h⟩|⟨ha,hb,q⟩
 . obtain⟨U,Y,p1,_⟩:=I.list ha;obtain⟨J,r2,p2,_⟩:=I.list hb;have l1:=Y.length;have l2:=r2.length;rcases h with⟨hl,q⟩|⟨hl,q⟩
   . have z:xs.length=U.toArray.size:=by rw[Q02];exact l1
     rw[z] at q;refine(SeqAt.RcNeAt.lists (e:=e) p1.isList p2.isList (by rw[Q02,Q02];omega) (by omega) (λj h1 h2=>?_)) X.prog X.w _ _ ⟨.bl _,H,I,rfl,q⟩;obtain⟨x',e1,q1⟩:=Vals.at Y j (by simpa using h1);obtain⟨y',e2,q2⟩:=Vals.at r2 j (by simpa using h2);refine(hd j x' y' e1 e2).qf I _ _ _ (by simpa using q1) (by simpa using q2) ?_;show X.A.units+1+n<cLine;omega
   . refine(SeqAt.RcNeAt.lists_lengths p1.isList p2.isList ?_ (by omega)) X.prog X.w _ _ ⟨.bl true,H,I,rfl,q⟩;rw[Q02,Q02];simp;omega
 . obtain⟨U,Y,p1,_⟩:=I.tuple ha;obtain⟨J,r2,p2,_⟩:=I.tuple hb;have l1:=Y.length;have l2:=r2.length;have z:xs.length=U.toArray.size:=by rw[Q02];exact l1
   have z':ys.length=J.toArray.size:=by rw[Q02];exact l2
   rw[z,z'] at q;refine(SeqAt.RcNeAt.tuples (e:=e) p1 p2 (by omega) (λj h1 h2=>?_)) X.prog X.w _ _ ⟨.bl _,H,I,rfl,q⟩;obtain⟨x',e1,q1⟩:=Vals.at Y j (by simpa using h1);obtain⟨y',e2,q2⟩:=Vals.at r2 j (by simpa using h2);refine(hd j x' y' e1 e2).qf I _ _ _ (by simpa using q1) (by simpa using q2) ?_;show X.A.units+1+n<cLine;omega
end
def Gj (e:Addr) (l:List Env) (h h':Heap):Prop:=
 (∀b o,b ∉ frs l->b≠e->h.get? b=some o->h'.get? b=some o)/\∀b o,b≠e->h.get? b=some o->∃I,h'.get? b=some { o with slots:=I }
theorem sy {f:Array Value->Array Value}{o:Obj}{vs:Array Value}(h:o.data=.fields vs):Obj.mapFields f o={ o with data:=.fields (f vs) }:=by
 obtain⟨c,d,I,J⟩:=o;have h:I=.fields vs:=h;subst h;rfl
section
variable {M:Model}{A:Around}{E:Value->Shared->Prop}{s:Shared}
theorem Gk {base:Heap}{env:Env}{outer:List Env}{L e:Addr}{I:Obj}{vs:Array Value}{head:Value}{ac:Bool}{Q:Unit->Shared->Prop}
 (ae:A.frames=some (env::outer)) (hl:s.heap.FunFrames base (env::outer)) (hf:env.frame=some L) (he:s.heap.get? e=some I) (hd:I.data=.fields vs) (hsz:1<vs.size)
 (h:∀(h':Heap) (T:Addr),s.heap.objs.size<=T->Gj e (env::outer) s.heap h'->h'.get? e=some { I with data:=.fields (vs.setIfInBounds 1 (.ref T)) }->(∃oT ts,h'.get? T=some oT/\oT.data=.fields ts/\ts[3]? =some (rawInt L))->Q () { s with heap:=h' }):
 wpAny M A (do let a <-frameOf env;let pl <-entryPlaceOf L ac;let b <-EntryCells.newEntry head a .none (rawInt L) .none pl;setField (.ref e) 1 b) Q E s:=by
 have af:e ∉ (env::outer).filterMap (·.frame):=λz=>by
  obtain⟨_,o,Y,hn⟩:=hl.mem z;rw[he] at Y
  cases Y;exact hn vs hd
 refine Q0 (wpAny_frameOf_fun ae hl hf λh1 x1=>?_);refine Q0 (wpAny_entryPlaceOf λpl aa=>?_);unfold EntryCells.newEntry newFields;refine Q0 (wpAny_newObj_type ?_ (aa.sizeOk5 _ _ _ _ _));have e1:h1.get? e=some I:=(x1.2.1 e af).trans he;generalize ab:({ cls:=.type "traceback",dict:=none,data:=.fields ([head,.ref L,.none,rawInt L,.none]++(if pl.isEmpty then List.replicate 6 Value.none else pl)).toArray }:Obj)=ob;have e2:(h1.push ob).get? e=some I:=Q09 ob e1;have ag:h1.objs.size≠e:=Q0s (Q01 e1);have U:({ I with data:=.fields (vs.setIfInBounds 1 (.ref h1.objs.size)) }:Obj).isFreed=false:=Obj.isFreed_of_fields rfl;have em:Obj.mapFields (·.setIfInBounds 1 (Value.ref h1.objs.size)) I={ I with data:=.fields (vs.setIfInBounds 1 (.ref h1.objs.size)) }:=sy hd;refine wpAny_setField e2 hd hsz (h _ h1.objs.size (Q1k x1.1.symm) ⟨λb o hb J Y=>?_,λb o J Y=>?_⟩ ?_ ?_)
 . rw[Q10 _ _ (Ne.symm J)];exact Q09 ob ((x1.2.1 b hb).trans Y)
 . obtain⟨sl,hs⟩:=x1.2.2 b o Y;refine⟨sl,?_⟩;rw[Q10 _ _ (Ne.symm J)];exact Q09 ob hs
 . have:=Q1m (Obj.mapFields (·.setIfInBounds 1 (Value.ref h1.objs.size))) e2 (by rw[em];exact U);rw[em] at this;exact this
 . refine⟨ob,_,?_,by rw[<-ab],?_⟩
   . rw[Q10 _ _ (Ne.symm ag)];exact Q0l h1 (by rw[<-ab];rfl)
   . first|(simp;done)|(rcases aa with rfl|⟨_,_,_,_,_,_,_,rfl⟩ <;> simp)
structure Tr (h:Heap) (e T:Addr) (cls fl:Value):Prop where
 ex:∃oe vs,h.get? e=some oe/\oe.cls=cls/\oe.dict=none/\oe.data=.fields vs/\vs[1]? =some (.ref T)
 tb:∃oT ts,h.get? T=some oT/\oT.data=.fields ts/\ts[3]? =some fl
 ne:T≠e
end
section
variable {X:Cx}{pins:List (Addr × Obj)}{σ:St}{H:Hp}{s:Shared}
end
section
variable {M:Model}{A:Around}{E:Value->Shared->Prop}{s:Shared}
end
section
variable {X:Cx}{pins:List (Addr × Obj)}{σ:St}{H:Hp}{s:Shared}
end
section
variable {X:Cx}{k:Nat}{f:Addr}{fd:FuncData}{ps:List Str}{sp:Sp}{gX:List V}{ds:List Value}{Ek:XK}{x:Str}{p pos:Pos}{e:Expr}{es:List Expr}{t:TA}{te:TE}
end
end L2
namespace L2
open Spec PyProof.Rows W
theorem Gm {M:Model}{A:Around}{E:Value->Shared->Prop}{K:Frag}{s:Shared}{a C D:Addr}{I:Obj}{b:Bool}{Q:Bool->Shared->Prop}(X:K.In s.heap)(h1:typeIn K (.ref D)=some (.type "type"))(h2:(clsIn K D).isSome=true)(Y:subIn K (.ref D) (.type "BaseException")=some true)
 (h4:subIn K (.ref C) (.ref D)=some b) (he:s.heap.get? a=some I) (hc:I.cls=.ref C) (hq:Q b s):wpAny M A (excMatches (.ref a) (.ref D)) Q E s:=by
 obtain⟨h,g,d,t,os⟩:=s;have L1:=looks_typeIn (M:=M) X h1;have L2:Looks M h (isSubtype (.type "type") (.type "tuple")) false:=Looks.of_pure tc_notTuple;have L3:=looks_subIn (M:=M) X Y;have L4:=looks_subIn (M:=M) X h4
 have L5:Looks M h (isType (.ref D)) true:=by
  unfold clsIn at h2;split at h2
  . rename_i c' d' aa ab ho;intro J Q' U s' k q;unfold isType loadHead;exact Q0 (wpAny_loadPart (k _ _ (X _ _ ho)) (Q0c q))
  . cases h2
 have L6:Looks M h (typeOf (.ref a)) (.ref C):=by
  have z:Looks M h (typeOf (.ref a)) I.cls:=(Looks.ld (show h.get? a=some I from he)).andThen .now;rw[hc] at z;exact z
 have L7:Looks M h (isInstance (.ref D) (.type "tuple")) false:=L1.andThen L2
 have L8:Looks M h (isExcClass (.ref D)) true:=λJ Q' U s' k q=>by
  unfold isExcClass;exact Q0 (L5 J _ U s' k (L3 J _ U s' k q))
 unfold excMatches;refine Q0 (L7.at ?_)
 repeat (any_goals (first|assumption|with_reducible refine L8.at ?_|with_reducible refine L6.at ?_|with_reducible refine L4.at ?_|wp_step))
 cases b <;> (repeat (any_goals (first|assumption|wp_step)))
end L2
namespace L2
open Spec PyProof.Rows
section
variable {X:Cx}{pins:List (Addr × Obj)}{σ:St}{H:Hp}{s:Shared}
theorem Inv.unbind {M:Model}{A:Around}{E:Value->Shared->Prop}{i:Nat}{x:Str}{pos:Pos}{Q:Unit->Shared->Prop}(I:Inv X pins σ H s)(hN:X.N.Nodup)(hi:X.N[i]? =some x)(hk:X.env.kindOf x=some .local)
 (h:∀s',Inv X pins (σ.set i none) H s'->Q () s'):wpAny M A (do bindName X.env x .none;unbindBehindTheSuite X.env x pos) Q E s:=by
 obtain⟨m,hn,hl⟩:=id I.loc;have aa:(X.env.scope.kind == .class || (X.env.scope.kind == .module && X.env.locals != X.env.globals))=false:=by rw[I.ok.kind];rfl
 have ab:i<σ.length:=by rw[I.len];exact(List.getElem?_eq_some_iff.mp hi).1
 have jt:=I.jt;refine wpAny_nameGoes_keeps hk hn aa λh' v ac U=>?_;obtain⟨oL,_,_,ae,_⟩:=id hn
 have J:gu X.prog X.w H h':=λb ob e=>by
  refine(I.hok b ob e).stay (λc w' hc q=>(U.2 c ?_).trans q) (λ_ q=>q) λ_ _ q=>q;rintro rfl;rcases hc with rfl|hc
  . rw[I.free] at e;cases e
  . rw[I.free] at hc;cases hc
 refine h _ ⟨I.ok,I.os,I.bare,⟨λb o e n hb hx=>?_,λb o e n hb hx=>?_,I.base.free,λb o e hx=>?_,I.base.tups,I.base.je,I.base.jf⟩,⟨_,ac,λj y v' Y e2 e3=>?_⟩,λy c e=>?_,I.free,I.ij,λp hp=>?_,J,by simpa using I.len⟩
 . exact(U.2 b (Q08 (Q0a (Q01 e) I.ok.above))).trans (I.base.keep b o e n hb hx)
 . obtain⟨sl,Y⟩:=I.base.slot b o e n hb hx;exact⟨sl,(U.2 b (Q08 (Q0a (Q01 e) I.ok.above))).trans Y⟩
 . obtain⟨o',Y⟩:=I.base.there b o e hx;exact⟨o',(U.2 b (Q08 (Q0a (Q01 e) I.ok.above))).trans Y⟩
 . by_cases hj:j=i
   . subst hj;rw[Q1t ab] at e2
     cases e2
   . rw[Q1j (Ne.symm hj)] at e2;obtain⟨u',r',q⟩:=hl j y v' Y e2 e3;refine⟨u',r',?_⟩;rcases q with⟨k,e⟩|⟨k,c,e,z⟩
     . refine .inl ⟨k,?_⟩;have:y≠x:=λe=>hj (rm hN Y (e ▸ hi));simp[this,e]
     . exact .inr ⟨k,c,e,z.sameBut U (jt y c e)⟩
 . obtain⟨w',z⟩:=I.cell y c e;exact⟨w',z.sameBut U (jt y c e)⟩
 . obtain⟨e,n,ne,nf,d⟩:=I.pin p hp;exact⟨(U.2 p.1 ne).trans e,n,ne,nf,d⟩
noncomputable abbrev Cx.marked (X:Cx) (a:Addr):Cx:={ X with A:=X.A.mark (some (.ref a)),calm:=false,xe:=λ_ _=>False }
theorem Inv.marked (I:Inv X pins σ H s)(a:Addr):Inv (X.marked a) pins σ H s:=
 ⟨⟨I.ok.mod,I.ok.kind,I.ok.glob,I.ok.blt,I.ok.above,I.ok.inj,I.ok.has,I.ok.cab,(λz=>by cases z),I.ok.frames,I.ok.stk,I.ok.n9,I.ok.bs,I.ok.iX,I.ok.kx,I.ok.lB,I.ok.iF,I.ok.jI⟩,I.os,I.bare,I.base,I.loc,I.cell,I.free,I.ij,I.pin,I.hok,I.len⟩
theorem Inv.unmarked {a:Addr}(I:Inv (X.marked a) pins σ H s)(ok:X.Ok):Inv X pins σ H s:=⟨ok,I.os,I.bare,I.base,I.loc,I.cell,I.free,I.ij,I.pin,I.hok,I.len⟩
end
def Ends.un (D:Ends) (i:Nat):Ends:={ nx:=λσ H=>D.nx (σ.set i none) H,rt:=D.rt,bk:=λσ H=>D.bk (σ.set i none) H,ct:=λσ H=>D.ct (σ.set i none) H }
end L2
namespace L2
open Spec Calls PyProof.Rows W Builtin Builtin.ObjectAttr Builtin.Getset_descriptor
section
variable {prog:Program}{w:World}{A:Around}{E:Value->Shared->Prop}{K:Frag}{h:Heap}{g:Array GenState}{d:Drawn}{t:Nat}{os:OsState}{a C:Addr}{o:Obj}
end
end L2
namespace L2
open Spec PyProof.Rows
section
variable {X:Cx}{es:List Expr}{n k:Nat}{t:St->Hp->Prop}{pos:Pos}
end
section
variable {X:Cx}
end
variable {P:Program}{w:World}{K:W.Frag}{mg:Str->Option Value}{base:Heap}
section
variable {X:Cx}
def Ak (K:W.Frag) (n:Nat):R2:=λx y H Q=>(x=.non/\(∃b ys,y=.ref b/\d_ K H b ys)/\Q (.bl false) H)\/Aj K n x y H Q
theorem Al {n:Nat}(Y:X.A.units+1+n<cLine):gn X (compareOp .Eq) (Ak X.K n):=by
 intro pins s σ H x y v u Q I J U h;rcases h with⟨rfl,⟨b,ys,rfl,hb⟩,q⟩|h
 . cases J
   cases U;obtain⟨aa,r1,p1,_⟩:=I.tuple hb;exact SeqAt.RcAt.none_tuple p1 (by omega) _ _ _ _ ⟨.bl false,H,I,rfl,q⟩
 . exact Gg Y pins s σ H x y v u Q I J U h
end
theorem jO.qh {x qual:Str}{st:Stmt}{f c:Addr}{fd:FuncData}{N ps:List Str}{k:Nat}{sp:Sp}(F:jO K x qual st f fd)(hc:fd.code=.ref c)(S:fv N ps (eS st))(len:∀vs H Q E,sp vs H Q E->vs.length=ps.length)
 (I:∀(A:Around) (outer:List Env) (s:Shared) (H:Hp) (vs:List V) (Q:VK) (E:XK),fY k (A.deeper (envOfC qual (eS st) s.heap.objs.size f (.ref c)))->sp vs H Q E->
   ∃t,iG (fk eu P w K mg base N qual (eS st) f (.ref c) A outer s H E).fj (g6 st) t/\t { nx:=λ_ H'=>Q .non H',rt:=Q } (start N vs) H):en P w K mg base eu (k+1) f fd ps sp:=by
 obtain⟨oc,od,kV,aa,pm,an,J,ct,ab,rfl,lk,U⟩:=F.ex;have hc:J=.ref c:=hc;subst hc;refine zl lk U S len λA outer s H vs Q E hr Y=>?_;obtain⟨t,h,q⟩:=I A outer s H vs Q E hr Y;exact⟨t,h.fj,q⟩
def qi (I:List Addr) (H:Hp):Prop:=∀b,H b=none\/(∃o xs,H b=some (.iE o (.lst xs)))\/(b∈I/\H b=some (.gA #[]))
theorem Gn {P:Program}{w:World}{K:W.Frag}{mg mb:Str->Option Value}{CX:iI}{k:Nat}{fa a:Addr}{fd:FuncData}{x:Str}{sp:Sp}{I:Shared}{vs:List Value}{ns:List Int}{J:List (Addr × Addr)}
 (KX:K.In I.heap) (hT:W.TabsAt J I.heap) (ar:W.noTabs K=true) (au:BM mg I.heap) (aj:I.heap.Ns mainGlobals mg) (U:I.heap.Ns builtinsNs mb) (av:∀x:Str,x≠"__name__"->mb x=bootBuiltins x) (ao:I.heap.NoLimit) (hg:I.gens=#[])
 (ha:I.heap.get? a=some { cls:=.type "list",data:=.seq vs.toArray }) (hi:IntsAre vs ns) (hl:ns.length<=sizeLine) (hr:fY k callerA)
 (F:∀base:Heap,K.In base->base.Ns mainGlobals mg->BM mg base->en P w K mg base CX k fa fd [x] sp) (ai:∀(s:Shared) (u:Value),BindsTo s fd ⟨[u],[]⟩ [(x,u)])
 (aw:∀H:Hp,qi (J.map (·.2)) H->(∀q∈J,H q.2=some (.gA #[]))->eB K H a (ns.map V.int)->sp [.ref a] H (λv _=>v=.bl true) λ_ _ _=>False)
 (ax:∀H e s',CX [] H I (λ_ _ _=>False) e s'->False):
 codeAny (model P w) callerA (.call (.ref fa) ⟨[.ref a],[]⟩) (λr s'=>r=.ok (.ret (.bool true))/\OldK I.heap s'.heap/\s'.os=I.os/\AllBare s'.gens) I:=by
 have rv:=zI hi;have ap:=hi.length
 have aa:∀b,b∈J.map (·.2)->I.heap.get? b=some (W.tabObj #[]):=λb hm=>by
  obtain⟨q,hq,rfl⟩:=List.mem_map.mp hm;exact(hT q hq).2
 have ak:a ∉ J.map (·.2):=λhm=>by
  have:=aa a hm;rw[ha] at this;cases this
 have ag:∀H:Hp,qi (J.map (·.2)) H->(∀q∈J,H q.2=some (.gA #[]))->eB K H a (ns.map V.int)->gu P w H I.heap->(∀b,H b≠none->b=a\/b∈J.map (·.2))->(H a≠none->K.lookup a=none)->
  codeAny (model P w) callerA (.call (.ref fa) ⟨[.ref a],[]⟩) (λr s'=>r=.ok (.ret (.bool true))/\OldK I.heap s'.heap/\s'.os=I.os/\AllBare s'.gens) I:=by
  intro H hO al hS am hA hK;have Y:∀{b:Addr} {o:Obj},I.heap.get? b=some o->H b=none->(jH I.heap H).get? b=some o:=λe n=>DH e n
  have ac:∀{b:Addr} {o:Obj},I.heap.get? b=some o->(∀us n,o.data≠ .seq us n)->(∀us,o.data≠ .fields us)->H b=none:=λ{b o} e d1 d2=>by
   cases q:H b with
   |none=>rfl
   |some u=>
    rcases hA b (by rw[q];simp) with e'|e'
    . subst e';rw[ha] at e;cases e;exact absurd rfl (d1 _ _)
    . rw[aa b e'] at e;cases e;exact absurd rfl (d2 _)
  have af:∀{b:Addr} {m:Str->Option Value},I.heap.Ns b m->(jH I.heap H).Ns b m:=λ{b m} ⟨o,es,ep,e,d,r⟩=>⟨o,es,ep,Y e (ac e (by rw[d];intro us n z;cases z) (by rw[d];intro us z;cases z)),d,r⟩
  have an:K.In (jH I.heap H):=λb o e=>Y (KX b o e) (by
   cases q:H b with
   |none=>rfl
   |some u=>
    rcases hA b (by rw[q];simp) with e'|e'
    . subst e';rw[hK (by rw[q];simp)] at e;cases e
    . have e2:=KX b o e;rw[aa b e'] at e2;cases e2;have:=List.all_eq_true.mp ar _ (W.mem_of_lookupK e);simp at this)
  have hM:Mod K mg (jH I.heap H):=⟨an,af aj,⟨mb,af U,av⟩,let⟨mc,h1,h2⟩:=ao;⟨mc,af h1,h2⟩⟩
  have ay:BM mg (jH I.heap H):=by
   obtain⟨bm,o,b1,b2,b3,b4,b5,b6,b7⟩:=au;exact⟨bm,o,b1,b2,b3,Y b4 (ac b4 (by rw[b7];intro us n z;cases z) (by rw[b7];intro us z;cases z)),b5,b6,b7⟩
  have e0:lU P w K mg (jH I.heap H) callerA [] I H:=⟨rfl,hM,λb o e=>DJ e,Q1k (DG _ _),trivial,λb U=>absurd (show b∈([]:List Addr) from U) (by simp),am,.of_eq hg⟩;refine codeAny_mono ((F _ an (af aj) ay).run callerA [] I H ⟨[.ref a],[]⟩ [.ref a] [.ref a] _ _ hr e0 (ai I (.ref a)) (.cons rfl .nil) (aw H hO al hS)) λr s' h=>?_
  cases r with
  |error e=>exact(ax H e s' h).elim
  |ok fl=>
   cases fl with
   |next=>exact False.elim h
   |brk=>exact False.elim h
   |cont=>exact False.elim h
   |ret u=>
    obtain⟨v,H',os,aq,un,ah,r',q⟩:=h;have q':v=.bl true:=q;subst q';obtain rfl:u=Value.bool true:=r'
    have ae:∀b,b∈J.map (·.2)->∃ps,s'.heap.get? b=some (W.tabObj ps):=λb hm=>by
     obtain⟨q,hq,rfl⟩:=List.mem_map.mp hm;obtain⟨az,e⟩:=un.jf _ _ (al q hq);exact⟨_,ah _ _ e⟩
    have keep:∀b o,b ∉ J.map (·.2)->I.heap.get? b=some o->s'.heap.get? b=some o:=λb o U e=>by
     cases q:H b with
     |none=>exact un.keep b o e q (by intro z;exact absurd (show b∈([]:List Addr) from z) (by simp)) (by simp)
     |some u=>
      rcases hO b with z|⟨ob,xs,z⟩|⟨z,_⟩
      . rw[q] at z;cases z
      . have z2:=un.je b ob _ z;obtain⟨e1,_⟩:=am b _ z;obtain⟨e2,_⟩:=ah b _ z2;rw[e] at e1;cases e1;exact e2
      . exact absurd z U
    refine⟨rfl,⟨λb o e=>?_,λb o e=>?_⟩,os,aq⟩
    . by_cases U:b∈J.map (·.2)
      . obtain⟨ps,hP⟩:=ae b U;have e2:=aa b U;rw[e] at e2;cases e2;obtain⟨q,hq,rfl⟩:=List.mem_map.mp U;exact .inr (.inl ⟨((hT q hq).1.tab (hT q hq).2).isCodeTable,rfl,#[],ps,rfl,by rw[Q2g];exact hP⟩)
      . exact .inl (keep b o U e)
    . by_cases U:b∈J.map (·.2)
      . obtain⟨ps,hP⟩:=ae b U;exact⟨_,hP⟩
      . exact⟨o,keep b o U e⟩
 cases hk:K.lookup a with
 |some o=>
  have e:=KX a o hk;rw[ha] at e
  cases e;refine ag (λb=>if b∈J.map (·.2) then some (.gA #[]) else none) (λb=>?_) (λq hq=>if_pos (Q11 hq)) (.inr ⟨_,vs.toArray,_,hk,rfl,rfl,rfl,by rw[Q02,ap];exact hl,by simpa using rv⟩) (λb u z=>?_) (λb z=>?_) λz=>absurd (if_neg ak) z
  . by_cases U:b∈J.map (·.2)
    . exact .inr (.inr ⟨U,if_pos U⟩)
    . exact .inl (if_neg U)
  . by_cases U:b∈J.map (·.2)
    . have z':=(if_pos U).symm.trans z
      cases z';exact aa b U
    . have z':=(if_neg U).symm.trans z
      cases z'
  . by_cases U:b∈J.map (·.2)
    . exact .inr U
    . exact absurd (if_neg U) z
 |none=>
  refine ag (λb=>if b∈J.map (·.2) then some (.gA #[]) else if b=a then some (.iE { cls:=.type "list",data:=.seq vs.toArray } (.lst (ns.map V.int))) else none) (λb=>?_) (λq hq=>if_pos (Q11 hq))
   (.inl (.inr ⟨{ cls:=.type "list",data:=.seq vs.toArray },(if_neg ak).trans (if_pos rfl)⟩)) (λb u z=>?_) (λb z=>?_) λ_=>hk
  . by_cases U:b∈J.map (·.2)
    . exact .inr (.inr ⟨U,if_pos U⟩)
    . by_cases ab:b=a
      . exact .inr (.inl ⟨_,_,(if_neg U).trans (if_pos ab)⟩)
      . exact .inl ((if_neg U).trans (if_neg ab))
  . by_cases U:b∈J.map (·.2)
    . have z':=(if_pos U).symm.trans z
      cases z';exact aa b U
    . have z:=(if_neg U).symm.trans z;by_cases ab:b=a
      . have z':=(if_pos ab).symm.trans z
        cases z';subst ab;exact⟨ha,by rw[Q04];exact hl,vs,_,rv,ha⟩
      . have z':=(if_neg ab).symm.trans z
        cases z'
  . by_cases U:b∈J.map (·.2)
    . exact .inr U
    . by_cases ab:b=a
      . exact .inl ab
      . exact absurd ((if_neg U).trans (if_neg ab)) z
theorem Gp {l:W.OpenLaw}{n k:Nat}{q:Program}{loose:List Str}{XP:(Str->Option Value)->Heap->Prop}{YP:World->Heap->Prop}{d:DefRec}{K:Params->W.Frag}{sp:World->List (Addr × Addr)->Sp}{x:Str}{names:List Str}
 (hn:l.most=some n) (ae:n<=sizeLine) (af:d.params.defaults=[]) (hr:fY k callerA)
 (hY:∀(w:World) (h:Heap),YP w h->(K w.params).In h) (ag:∀w:World,W.noTabs (K w.params)=true)
 (tb:∀w:World,∃I:List (Addr × Addr),(∀q'∈I,∃y∈names,W.tabIn (K w.params) y=some q')/\
   (∀(mg:Str->Option Value) (fa:Addr) (h:Heap),(K w.params).In h->h.Ns mainGlobals mg->mg d.name=some (.ref fa)->
   ∃fd:FuncData,(∀(s:Shared) (u:Value),BindsTo s fd ⟨[u],[]⟩ [(x,u)])/\
    ∀base:Heap,(K w.params).In base->base.Ns mainGlobals mg->BM mg base->en l.prog w (K w.params) mg base eu k fa fd [x] (sp w I)))
 (ab:∀y∈names,∃d',(recsOf q).find? (λe=>e.name == y)=some d')
 (ah:∀(w:World) (I:List (Addr × Addr)) (H:Hp) (a:Addr) (ns:List Int),ns.length<=n->qi (I.map (·.2)) H->(∀q∈I,H q.2=some (.gA #[]))->eB (K w.params) H a (ns.map V.int)->sp w I [.ref a] H (λv _=>v=.bl true) λ_ _ _=>False):
 W.WalkO q loose XP YP l.row.toRowW d [] (λf vs=>PySem.call f vs):=by
 refine zH.Ft hn af λw s₀ J mg mb fa o pm cd am a vs ns G Y ho hd an ai ac aa U hg=>?_;have KX:=hY w _ Y;obtain⟨I,ht,F⟩:=tb w;obtain⟨fd,hb,hF⟩:=F mg fa _ KX G.T.g ai
 have hT:W.TabsAt I J.heap:=λq' hq=>by
  obtain⟨y,hy,aj⟩:=ht q' hq;obtain⟨d',ak⟩:=ab y hy;exact W.tab_of G.T KX ak aj
 have al:BM mg J.heap:=by
  obtain⟨bm,ob,b1,b2,b3,b4,b5,b6⟩:=G.T.bmain;refine⟨bm,ob,b1,b2,λz=>?_,b3,b4,b5,b6⟩;obtain⟨o',es,ep,e,hd,_⟩:=G.T.g;rw[z,e] at b3;cases b3;rw[hd] at b6;cases b6
 exact Gn KX hT (ag w) al G.T.g G.T.b G.T.builtins G.T.nolimit hg ac aa (Q0f U ae) hr hF hb (λH hO hP hS=>ah w I H a ns U hO hP hS) λH e s' h=>h.elim
end L2
namespace Pb
open L2 PyProof.Rows
mutual
inductive Kd where
 |num
 |fy
 |eX (fs:Fs)
 |rows (key by_:Str) (fs:Fs)
 |tree (k:Kd)
 |gj (fs:Fs)
inductive Fs where
 |nil
 |cons (x:Str) (k:Kd) (r:Fs)
end
mutual
inductive D where
 |int (z:Int)
 |str (x:Str)
 |non
 |boo (b:Bool)
 |tup (xs:Ds)
 |lst (xs:Ds)
 |dct (m:Ds)
inductive Ds where
 |nil
 |cons (x:Str) (d:D) (r:Ds)
end
mutual
noncomputable def Kd.dep:Kd->Nat
 | .num=>1
 | .fy=>1
 | .eX fs=>fs.dep+1
 | .rows _ _ fs=>fs.dep+1
 | .tree k=>k.dep+1
 | .gj fs=>fs.dep+1
noncomputable def Fs.dep:Fs->Nat
 | .nil=>0
 | .cons _ k r=>max k.dep r.dep
end
mutual
noncomputable def D.dep:D->Nat
 | .int _=>1
 | .str _=>1
 | .non=>1
 | .boo _=>1
 | .tup xs=>xs.dep+1
 | .lst xs=>xs.dep+1
 | .dct m=>m.dep+1
noncomputable def Ds.dep:Ds->Nat
 | .nil=>0
 | .cons _ d r=>max d.dep r.dep
end
theorem Kd.jQ (k:Kd):1<=k.dep:=by cases k <;> simp[Kd.dep]
theorem D.jQ (d:D):1<=d.dep:=by cases d <;> simp[D.dep]
noncomputable def Fs.names:Fs->List Str
 | .nil=>[]
 | .cons x _ r=>x::r.names
noncomputable def Fs.get:Fs->Str->Option Kd
 | .nil,_=>none
 | .cons y k r,x=>if x=y then some k else r.get x
noncomputable def Fs.at:Fs->Nat->Option (Str × Kd)
 | .nil,_=>none
 | .cons x k _,0=>some (x,k)
 | .cons _ _ r,i+1=>r.at i
noncomputable def Fs.snoc:Fs->Str->Kd->Fs
 | .nil,x,k=>.cons x k .nil
 | .cons y q r,x,k=>.cons y q (r.snoc x k)
noncomputable def Fs.take:Fs->Nat->Fs
 | .nil,_=>.nil
 | .cons _ _ _,0=>.nil
 | .cons x k r,i+1=>.cons x k (r.take i)
theorem Fs.sC:∀(fs:Fs) (x:Str) (k:Kd),(fs.snoc x k).names=fs.names++[x]
 | .nil,_,_=>rfl
 | .cons y q r,x,k=>by
   show y::(r.snoc x k).names=_;rw[Fs.sC r x k];rfl
theorem Fs.sE:∀(fs:Fs) (x:Str) (k:Kd),(fs.snoc x k).dep=max fs.dep k.dep
 | .nil,_,k=>by simp[Fs.snoc,Fs.dep]
 | .cons y q r,x,k=>by
   show max q.dep (r.snoc x k).dep=max (max q.dep r.dep) k.dep;rw[Fs.sE r x k,Nat.max_assoc]
theorem Fs.jz:∀(fs:Fs) (i:Nat),fs.names[i]? =(fs.at i).map (·.1)
 | .nil,i=>by simp[Fs.names,Fs.at]
 | .cons x k r,0=>by simp[Fs.names,Fs.at]
 | .cons x k r,i+1=>by
   show(x::r.names)[i+1]? =_;rw[List.getElem?_cons_succ,Fs.jz r i];rfl
theorem Fs.sF:∀{fs:Fs}{i:Nat},i<fs.names.length->∃x k,fs.at i=some (x,k)
 | .nil,i,h=>by simp[Fs.names] at h
 | .cons x k r,0,h=>⟨x,k,rfl⟩
 | .cons x k r,i+1,h=>Fs.sF (fs:=r) (i:=i) (by simpa[Fs.names] using h)
theorem Fs.kM:∀{fs:Fs}{i:Nat}{x:Str}{k:Kd},fs.at i=some (x,k)->k.dep<=fs.dep
 | .nil,_,_,_,h=>by cases h
 | .cons x k r,0,_,_,h=>by
   cases h;exact Q23 _ _
 | .cons x k r,i+1,_,_,h=>Q0f (Fs.kM (fs:=r) (i:=i) h) (Q24 _ _)
theorem Fs.l8:∀{fs:Fs}{i:Nat}{x:Str}{k:Kd},fs.names.Nodup->fs.at i=some (x,k)->fs.get x=some k
 | .nil,_,_,_,_,h=>by cases h
 | .cons y q r,0,x,k,_,h=>by
   cases h;simp[Fs.get]
 | .cons y q r,i+1,x,k,I,h=>by
   have I:(y::r.names).Nodup:=I;obtain⟨J,U⟩:=List.nodup_cons.mp I;have h:r.at i=some (x,k):=h;have Y:x∈r.names:=Q0m (i:=i) (by rw[Fs.jz,h];rfl);show(if x=y then some q else r.get x)=some k;rw[if_neg (λe=>J (by rw[<-e];exact Y))];exact Fs.l8 U h
theorem Fs.take_succ:∀{fs:Fs}{i:Nat}{x:Str}{k:Kd},fs.at i=some (x,k)->fs.take (i+1)=(fs.take i).snoc x k
 | .nil,_,_,_,h=>by cases h
 | .cons y q r,0,x,k,h=>by
   cases h
   cases r <;> rfl
 | .cons y q r,i+1,x,k,h=>by
   show Fs.cons y q (r.take (i+1))=Fs.cons y q ((r.take i).snoc x k);rw[Fs.take_succ (fs:=r) (i:=i) h]
theorem Fs.take_zero (fs:Fs):fs.take 0=.nil:=by cases fs <;> rfl
theorem Fs.take_all:∀(fs:Fs),fs.take fs.names.length=fs
 | .nil=>rfl
 | .cons x k r=>by
   show Fs.cons x k (r.take r.names.length)=_;rw[Fs.take_all r]
def jR:Kd->Prop
 | .num=>True
 | .fy=>True
 |_=>False
def Fs.pl (fs:Fs) (x:Str):Prop:=∃k,fs.get x=some k/\jR k
mutual
def Kd.W:Kd->Prop
 | .num=>True
 | .fy=>True
 | .eX fs=>fs.names.Nodup/\fs.names.length<=12/\fs.W
 | .rows key by_ fs=>fs.names.Nodup/\fs.names.length<=12/\fs.W/\fs.pl key/\(by_=""\/fs.pl by_)
 | .tree k=>k.W
 | .gj fs=>fs.names.Nodup/\fs.names.length<=12/\1<=fs.names.length/\fs.W
def Fs.W:Fs->Prop
 | .nil=>True
 | .cons x k r=>k.W/\x≠""/\r.W
end
theorem Fs.j_:∀{fs:Fs}{i:Nat}{x:Str}{k:Kd},fs.W->fs.at i=some (x,k)->k.W
 | .nil,_,_,_,_,h=>by cases h
 | .cons x k r,0,_,_,w,h=>by
   unfold Fs.W at w
   cases h;exact w.1
 | .cons x k r,i+1,_,_,w,h=>by
   unfold Fs.W at w;exact Fs.j_ (fs:=r) (i:=i) w.2.2 h
theorem Fs.sG {x:Str}{k:Kd}(I:k.W)(J:x≠""):∀{fs:Fs},fs.W->(fs.snoc x k).W
 | .nil,_=>by
   show(Fs.cons x k .nil).W;unfold Fs.W;exact⟨I,J,by unfold Fs.W;trivial⟩
 | .cons y q r,h=>by
   unfold Fs.W at h;show(Fs.cons y q (r.snoc x k)).W;unfold Fs.W;exact⟨h.1,h.2.1,Fs.sG I J h.2.2⟩
noncomputable def Ds.get:Ds->Str->Option D
 | .nil,_=>none
 | .cons y d r,x=>if x=y then some d else r.get x
noncomputable def keyOf (m:Ds) (x:Str):Key:=match m.get x with
 |some (.int z)=>.inl z
 |some (.str s)=>.inr s
 |_=>.inl 0
noncomputable def rankOf (key by_:Str) (m:Ds):List Key:=if by_="" then [keyOf m key] else [keyOf m by_,keyOf m key]
theorem Gq {key by_:Str}{a b:Ds}(h:rankOf key by_ a=rankOf key by_ b):keyOf a key=keyOf b key:=by
 unfold rankOf at h;split at h
 . exact(List.cons.inj h).1
 . exact(List.cons.inj (List.cons.inj h).2).1
def jj (key by_:Str) (a b:Ds):Prop:=gK (rankOf key by_ a) (rankOf key by_ b)=true
def kP (key by_:Str) (a b:Ds):Prop:=l5 (rankOf key by_ a) (rankOf key by_ b)
noncomputable def ins (key by_:Str) (m:Ds):List Ds->List Ds
 |[]=>[m]
 |y::q=>if gK (rankOf key by_ y) (rankOf key by_ m)=true then y::ins key by_ m q else m::y::q
noncomputable def gw (key by_:Str):List Ds->List Ds
 |[]=>[]
 |m::r=>ins key by_ m (gw key by_ r)
theorem sH (key by_:Str)(m:Ds):∀l:List Ds,(ins key by_ m l).Perm (m::l)
 |[]=>List.Perm.refl _
 |y::q=>by
  unfold ins;split
  . exact((sH key by_ m q).cons y).trans (List.Perm.swap m y q)
  . exact List.Perm.refl _
theorem iM (key by_:Str):∀l:List Ds,(gw key by_ l).Perm l
 |[]=>List.Perm.refl _
 |m::r=>(sH key by_ m _).trans ((iM key by_ r).cons m)
theorem Am {a b:List Key}(h:gK a b=true):l5 a b:=KeyOrd.kle_of_klt (O:=qc) h
theorem Gr {a b c:List Key}(h1:l5 a b)(h2:l5 b c):l5 a c:=KeyOrd.kle_trans (O:=qc) h1 h2
theorem An (key by_:Str)(m:Ds):∀{l:List Ds},l.Pairwise (kP key by_)->(ins key by_ m l).Pairwise (kP key by_)
 |[],_=>Q2q _ _
 |y::q,h=>by
  obtain⟨h1,h2⟩:=List.pairwise_cons.mp h;unfold ins;by_cases c:gK (rankOf key by_ y) (rankOf key by_ m)=true
  . rw[if_pos c];refine List.pairwise_cons.mpr ⟨λz I=>?_,An key by_ m h2⟩;rcases List.mem_cons.mp ((sH key by_ m q).mem_iff.mp I) with e|e
    . rw[e];exact Am c
    . exact h1 z e
  . rw[if_neg c];have c':kP key by_ m y:=by unfold kP l5;simpa using c
    refine List.pairwise_cons.mpr ⟨λz I=>?_,h⟩;rcases List.mem_cons.mp I with e|e
    . rw[e];exact c'
    . exact Gr c' (h1 z e)
theorem l9 (key by_:Str):∀l:List Ds,(gw key by_ l).Pairwise (kP key by_)
 |[]=>List.Pairwise.nil
 |m::r=>An key by_ m (l9 key by_ r)
theorem oM {key by_:Str}{l:List Ds}(h:l.Pairwise (kP key by_))(J:(l.map λm=>keyOf m key).Nodup):l.Pairwise (jj key by_):=by
 have I:l.Pairwise λa b=>keyOf a key≠keyOf b key:=List.pairwise_map.mp J;refine(h.and I).imp λ{a b} ⟨h1,h2⟩=>?_;rcases qb (rankOf key by_ a) (rankOf key by_ b) with q|q|q
 . exact q
 . exact absurd (Gq q) h2
 . have h1:gK (rankOf key by_ b) (rankOf key by_ a)=false:=h1;rw[h1] at q;cases q
theorem Ao {key by_:Str}:∀{J I:List Ds},J.Perm I->J.Pairwise (jj key by_)->I.Pairwise (jj key by_)->J=I
 |[],I,p,_,_=>by rw[p.nil_eq]
 |a::r,[],p,_,_=>absurd p.length_eq (by simp)
 |a::r,b::q,p,h1,h2=>by
  obtain⟨Y,a2⟩:=List.pairwise_cons.mp h1;obtain⟨b1,b2⟩:=List.pairwise_cons.mp h2
  have e:a=b:=by
   have ha:a∈b::q:=p.mem_iff.mp Q05;have hb:b∈a::r:=p.mem_iff.mpr Q05;rcases List.mem_cons.mp ha with e|e
   . exact e
   . rcases List.mem_cons.mp hb with U|U
     . exact U.symm
     . have z:=qa _ _ _ (Y b U) (b1 a e);rw[su] at z;cases z
  subst e;rw[Ao ((List.perm_cons a).mp p) a2 b2]
theorem ng {key by_:Str}{l z:List Ds}(p:z.Perm l)(h:z.Pairwise (kP key by_))(I:(l.map λm=>keyOf m key).Nodup):z=gw key by_ l:=
 Ao (p.trans (iM key by_ l).symm) (oM h ((p.map _).nodup_iff.mpr I)) (oM (l9 key by_ l) (((iM key by_ l).map _).nodup_iff.mpr I))
noncomputable def gm:List Ds->Ds
 |[]=>.nil
 |m::r=>.cons "" (.dct m) (gm r)
noncomputable abbrev pairD (a b:D):D:=.tup (.cons "" a (.cons "" b .nil))
mutual
def Tree (P:D->Prop):D->Prop
 | .tup xs=>i4 P xs
 |_=>False
def i4 (P:D->Prop):Ds->Prop
 | .cons _ t (.cons _ (.lst as) .nil)=>P t/\ir P as
 |_=>False
def ir (P:D->Prop):Ds->Prop
 | .nil=>True
 | .cons _ d r=>Tree P d/\ir P r
end
mutual
def eT:Kd->D->Prop
 | .num,d=>∃z,d=.int z
 | .fy,d=>∃x,d=.str x
 | .eX fs,d=>∃m,d=.dct m/\fJ fs m
 | .rows key by_ fs,d=>∃rs:List Ds,d=.lst (gm rs)/\(∀m∈rs,fJ fs m)/\rs.Pairwise (jj key by_)/\(rs.map λm=>keyOf m key).Nodup
 | .tree k,d=>Tree (eT k) d
 | .gj fs,d=>∃x v,d=pairD (.str x) v/\jA fs x v
def fJ:Fs->Ds->Prop
 | .nil,m=>m=.nil
 | .cons x k r,m=>∃d q,m=.cons x d q/\eT k d/\fJ r q
def jA:Fs->Str->D->Prop
 | .nil,_,_=>False
 | .cons y k r,x,v=>(x=y/\eT k v)\/(x≠y/\jA r x v)
end
theorem Tree.shape {P:D->Prop}:∀{d:D},Tree P d->∃x y t as,d=.tup (.cons x t (.cons y (.lst as) .nil))/\P t/\ir P as
 | .tup (.cons x t (.cons y (.lst as) .nil)),h=>by
   unfold Tree i4 at h;exact⟨x,y,t,as,rfl,h.1,h.2⟩
 | .tup .nil,h=>by unfold Tree i4 at h;exact h.elim
 | .tup (.cons _ _ .nil),h=>by unfold Tree i4 at h;exact h.elim
 | .tup (.cons _ _ (.cons _ (.int _) _)),h=>by unfold Tree i4 at h;exact h.elim
 | .tup (.cons _ _ (.cons _ (.str _) _)),h=>by unfold Tree i4 at h;exact h.elim
 | .tup (.cons _ _ (.cons _ .non _)),h=>by unfold Tree i4 at h;exact h.elim
 | .tup (.cons _ _ (.cons _ (.boo _) _)),h=>by unfold Tree i4 at h;exact h.elim
 | .tup (.cons _ _ (.cons _ (.tup _) _)),h=>by unfold Tree i4 at h;exact h.elim
 | .tup (.cons _ _ (.cons _ (.dct _) _)),h=>by unfold Tree i4 at h;exact h.elim
 | .tup (.cons _ _ (.cons _ (.lst _) (.cons _ _ _))),h=>by unfold Tree i4 at h;exact h.elim
 | .int _,h=>by unfold Tree at h;exact h.elim
 | .str _,h=>by unfold Tree at h;exact h.elim
 | .non,h=>by unfold Tree at h;exact h.elim
 | .boo _,h=>by unfold Tree at h;exact h.elim
 | .lst _,h=>by unfold Tree at h;exact h.elim
 | .dct _,h=>by unfold Tree at h;exact h.elim
theorem fJ.get:∀{fs:Fs}{m:Ds}{x:Str}{k:Kd},fJ fs m->fs.get x=some k->∃d,m.get x=some d/\eT k d
 | .nil,_,_,_,_,h=>by cases h
 | .cons y q r,m,x,k,f,h=>by
   unfold fJ at f;obtain⟨d,t,rfl,f1,f2⟩:=f;have h:(if x=y then some q else r.get x)=some k:=h;by_cases e:x=y
   . rw[if_pos e] at h
     cases h;exact⟨d,by show(if x=y then some d else t.get x)=_;rw[if_pos e],f1⟩
   . rw[if_neg e] at h;obtain⟨d',I,J⟩:=fJ.get f2 h;exact⟨d',by show(if x=y then some d else t.get x)=_;rw[if_neg e];exact I,J⟩
theorem fJ.plain {fs:Fs}{m:Ds}{x:Str}(f:fJ fs m)(h:fs.pl x):(m.get x=some (.int 0)\/True)/\((∃z,m.get x=some (.int z)/\keyOf m x=.inl z/\fs.get x=some .num)\/∃s,m.get x=some (.str s)/\keyOf m x=.inr s/\fs.get x=some .fy):=by
 refine⟨.inr trivial,?_⟩;obtain⟨k,h1,h2⟩:=h;obtain⟨d,I,J⟩:=f.get h1
 cases k with
 |num=>
  unfold eT at J;obtain⟨z,rfl⟩:=J;exact .inl ⟨z,I,by unfold keyOf;rw[I],h1⟩
 |fy=>
  unfold eT at J;obtain⟨s,rfl⟩:=J;exact .inr ⟨s,I,by unfold keyOf;rw[I],h1⟩
 |eX _=>exact h2.elim
 |rows _ _ _=>exact h2.elim
 |tree _=>exact h2.elim
 |gj _=>exact h2.elim
theorem Ap:∀{fs:Fs}{x:Str}{v:D},jA fs x v->x∈fs.names
 | .nil,_,_,h=>by unfold jA at h;exact h.elim
 | .cons y k r,x,v,h=>by
   unfold jA at h;rcases h with⟨e,_⟩|⟨_,h⟩
   . rw[e];exact Q05
   . exact Q0b _ (Ap h)
noncomputable def jS:Option Kd->Bool
 |some .num=>true
 |_=>false
theorem fJ.tag {fs:Fs}{m:Ds}{x:Str}(f:fJ fs m)(h:fs.pl x):gL (keyOf m x)=jS (fs.get x):=by
 rcases(f.plain h).2 with⟨z,_,e,g⟩|⟨s,_,e,g⟩ <;> rw[e,g] <;> rfl
theorem qj {fs:Fs}{key by_:Str}{m:Ds}(f:fJ fs m)(h1:fs.pl key)(h2:by_=""\/fs.pl by_):(rankOf key by_ m).map gL=if by_="" then [jS (fs.get key)] else [jS (fs.get by_),jS (fs.get key)]:=by
 unfold rankOf;split
 . show [gL (keyOf m key)]=_;rw[f.tag h1]
 . rename_i e;rcases h2 with z|z
   . exact absurd z e
   . show [gL (keyOf m by_),gL (keyOf m key)]=_;rw[f.tag h1,f.tag z]
noncomputable def cellAt (ns:List Int) (n:Int):Int:=if 0<ns.length then ns.getD (n % (ns.length:Int)).toNat 0 else 0
noncomputable def nx (ns:List Int) (n:Int):Int:=
 ((cellAt ns n % 2147483647+n * n * 7919+11) * 48271 % 2147483647) * ((cellAt ns n % 2147483647+n * n * 7919+11) * 48271 % 2147483647) % 1999999973
theorem sI (ns:List Int)(n:Int):0<=nx ns n:=Q0g _ (by decide)
theorem sJ (ns:List Int)(n:Int):nx ns n<1999999973:=Q0i _ (by decide)
noncomputable def num (ns:List Int) (n:Int):Int:=
 if nx ns n % 3=0 then nx ns n / 3 % 7 - 3 else(cellAt ns n % 10 ^ 40+nx ns n * 10 ^ 29) % (2 * 10 ^ 40) - 10 ^ 40
noncomputable def jk:Str:=" !#$&'()*+,-./0123456789:;<=>?@ABCDEFGHIJKLMNOPQRSTUVWXYZ"++"[\\]^_`abcdefghijklmnopqrstuvwxyz{|}~"
noncomputable def nh (m:Int):Nat->Str
 |0=>""
 |k+1=>nh m k++⟨#[(jk.cps.toList.getD ((m / 145+(k:Int) * (k:Int) * (m / 7 % 3)) % 93).toNat 0)]⟩
noncomputable def fy (ns:List Int) (n:Int):Str:=nh (nx ns n) (if nx ns n / 5 % 29=0 then 40 else(nx ns n % 5).toNat)
noncomputable def times (g:Int->D × Int):Nat->Int->Ds × Int
 |0,n=>(.nil,n)
 |m+1,n=>(.cons "" (g n).1 (times g m (g n).2).1,(times g m (g n).2).2)
noncomputable def gF (ns:List Int) (f:Nat->Int->D × Int):Nat->Nat->Int->D × Int
 |0,_,n=>(.int 0,n)
 |fu+1,room,n=>
  (pairD (f (room / 2) n).1 (.lst (times (gF ns f fu (room / 2)) (nx ns ((f (room / 2) n).2+1) % ((room:Int)+1)).toNat ((f (room / 2) n).2+1)).1),
    (times (gF ns f fu (room / 2)) (nx ns ((f (room / 2) n).2+1) % ((room:Int)+1)).toNat ((f (room / 2) n).2+1)).2)
noncomputable def jB (key:Str) (l:List Ds) (k:Key):Bool:=l.any λr=>decide (keyOf r key=k)
noncomputable def f9 (g:Int->Ds × Int) (key:Str):Nat->List Ds->Int->List Ds × Int
 |0,I,n=>(I,n)
 |m+1,I,n=>if jB key I (keyOf (g n).1 key)=true then f9 g key m I (g n).2 else f9 g key m (I++[(g n).1]) (g n).2
mutual
noncomputable def val (ns:List Int):Kd->Nat->Int->D × Int
 | .num,_,n=>(.int (num ns (n+1)),n+1)
 | .fy,_,n=>(.str (fy ns (n+1)),n+1)
 | .eX fs,room,n=>(.dct (e9 ns fs room n).1,(e9 ns fs room n).2)
 | .rows key by_ fs,room,n=>
   (.lst (gm (gw key by_ (f9 (e9 ns fs (room / 2)) key (nx ns (n+1) % ((room:Int)+1)).toNat [] (n+1)).1)),(f9 (e9 ns fs (room / 2)) key (nx ns (n+1) % ((room:Int)+1)).toNat [] (n+1)).2)
 | .tree k,room,n=>gF ns (val ns k) 4 room n
 | .gj fs,room,n=>g7 ns fs (nx ns (n+1) % (fs.names.length:Int)).toNat room (n+1)
noncomputable def e9 (ns:List Int):Fs->Nat->Int->Ds × Int
 | .nil,_,n=>(.nil,n)
 | .cons x k r,room,n=>(.cons x (val ns k room n).1 (e9 ns r room (val ns k room n).2).1,(e9 ns r room (val ns k room n).2).2)
noncomputable def g7 (ns:List Int):Fs->Nat->Nat->Int->D × Int
 | .nil,_,_,n=>(.int 0,n)
 | .cons x k _,0,room,n=>(pairD (.str x) (val ns k room n).1,(val ns k room n).2)
 | .cons _ _ r,i+1,room,n=>g7 ns r i room n
end
theorem qm {g:Int->Ds × Int}{key:Str}:∀(m:Nat) (I:List Ds) (n:Int),(I.map λr=>keyOf r key).Nodup->((f9 g key m I n).1.map λr=>keyOf r key).Nodup
 |0,_,_,h=>h
 |m+1,I,n,h=>by
  unfold f9;split
  . exact qm m I _ h
  . rename_i c;refine qm m _ _ ?_;rw[Q0j];refine List.nodup_append.mpr ⟨h,by simp,λa J b U=>?_⟩;have:b=keyOf (g n).1 key:=by simpa using U
    rw[this];obtain⟨r,Y,e⟩:=List.mem_map.mp J;exact λe2=>c (List.any_eq_true.mpr ⟨r,Y,decide_eq_true (e.trans e2)⟩)
theorem ni {g:Int->Ds × Int}{key:Str}{R:Ds->Prop}(J:∀n,R (g n).1):∀(m:Nat) (I:List Ds) (n:Int),(∀r∈I,R r)->∀r∈(f9 g key m I n).1,R r
 |0,_,_,h=>h
 |m+1,I,n,h=>by
  unfold f9;split
  . exact ni J m I _ h
  . refine ni J m _ _ λr U=>?_;rcases List.mem_append.mp U with q|q
    . exact h r q
    . have:r=(g n).1:=by simpa using q
      rw[this];exact J n
theorem Aq {P:D->Prop}{g:Int->D × Int}(I:∀n,Tree P (g n).1):∀(m:Nat) (n:Int),ir P (times g m n).1
 |0,_=>by unfold times ir;trivial
 |m+1,n=>by
  unfold times ir;exact⟨I n,Aq I m _⟩
theorem Ar {ns:List Int}{P:D->Prop}{f:Nat->Int->D × Int}(I:∀room n,room<8->P (f room n).1):∀(fu room:Nat) (n:Int),room<8->room<2 ^ fu->Tree P (gF ns f (fu+1) room n).1
 |0,room,n,_,h=>by
  have e:room=0:=by simpa using h
  subst e;unfold gF
  have J:(nx ns ((f (0 / 2) n).2+1) % (((0:Nat):Int)+1)).toNat=0:=by
   have:nx ns ((f (0 / 2) n).2+1) % (((0:Nat):Int)+1)=0:=by
    show _ % (1:Int)=0;exact Int.emod_one _
   rw[this];rfl
  rw[J];unfold Tree i4;exact⟨I _ _ (by decide),by unfold times ir;trivial⟩
 |fu+1,room,n,Y,h=>by
  have U:=λm=>Ar (ns:=ns) I fu (room / 2) m (by omega) (by rw[Q25] at h;omega);unfold gF;unfold Tree i4;exact⟨I _ _ (by omega),Aq U _ _⟩
mutual
theorem l_ (ns:List Int):∀(k:Kd),k.W->∀(room:Nat) (n:Int),room<8->eT k (val ns k room n).1
 | .num,_,room,n,_=>by unfold val eT;exact⟨_,rfl⟩
 | .fy,_,room,n,_=>by unfold val eT;exact⟨_,rfl⟩
 | .eX fs,w,room,n,h=>by
   unfold Kd.W at w;unfold val eT;exact(Zr rfl (kQ ns fs w.2.2 room n h))
 | .rows key by_ fs,w,room,n,h=>by
   unfold Kd.W at w;unfold val eT;have I:=qm (g:=e9 ns fs (room / 2)) (key:=key) (nx ns (n+1) % ((room:Int)+1)).toNat [] (n+1) Q0x;refine(Zr rfl ⟨λm J=>?_,?_,?_⟩)
   . exact ni (R:=fJ fs) (λn=>kQ ns fs w.2.2.1 (room / 2) n (by omega)) _ _ _ (λr U=>absurd U (by simp)) m ((iM key by_ _).mem_iff.mp J)
   . exact oM (l9 key by_ _) (((iM key by_ _).map _).nodup_iff.mpr I)
   . exact((iM key by_ _).map _).nodup_iff.mpr I
 | .tree k,w,room,n,h=>by
   unfold Kd.W at w;unfold val eT;exact Ar (λroom n h=>l_ ns k w room n h) 3 room n h (by simpa using h)
 | .gj fs,w,room,n,h=>by
   unfold Kd.W at w;unfold val eT
   have hl:(nx ns (n+1) % (fs.names.length:Int)).toNat<fs.names.length:=by
    have:=Q0i (nx ns (n+1)) (show(0:Int)<fs.names.length by omega);have:=Q0g (nx ns (n+1)) (show(fs.names.length:Int)≠0 by omega);omega
   exact As ns fs w.2.2.2 w.1 _ room _ h hl
theorem kQ (ns:List Int):∀(fs:Fs),fs.W->∀(room:Nat) (n:Int),room<8->fJ fs (e9 ns fs room n).1
 | .nil,_,_,_,_=>by unfold e9 fJ;rfl
 | .cons x k r,w,room,n,h=>by
   unfold Fs.W at w;unfold e9 fJ;exact⟨_,Zr rfl ⟨l_ ns k w.1 room n h,kQ ns r w.2.2 room _ h⟩⟩
theorem As (ns:List Int):∀(fs:Fs),fs.W->fs.names.Nodup->∀(i room:Nat) (n:Int),room<8->i<fs.names.length->∃x v,(g7 ns fs i room n).1=pairD (.str x) v/\jA fs x v
 | .nil,_,_,i,_,_,_,hi=>by simp[Fs.names] at hi
 | .cons x k r,w,I,0,room,n,h,hi=>by
   unfold Fs.W at w;unfold g7;exact⟨x,Zr rfl (by unfold jA;exact .inl ⟨rfl,l_ ns k w.1 room n h⟩)⟩
 | .cons x k r,w,I,i+1,room,n,h,hi=>by
   unfold Fs.W at w;unfold g7;have I:(x::r.names).Nodup:=I;obtain⟨J,U⟩:=List.nodup_cons.mp I;obtain⟨y,v,e,f⟩:=As ns r w.2.2 U i room n h (by simpa[Fs.names] using hi);refine⟨y,v,e,?_⟩;unfold jA;exact .inr ⟨λz=>J (by rw[<-z];exact Ap f),f⟩
end
mutual
noncomputable def Kd.dB:Kd->Nat
 | .num=>1
 | .fy=>1
 | .eX fs=>fs.dB+1
 | .rows _ _ fs=>fs.dB+2
 | .tree k=>k.dB+10
 | .gj fs=>fs.dB+2
noncomputable def Fs.dB:Fs->Nat
 | .nil=>0
 | .cons _ k r=>max k.dB r.dB
end
mutual
noncomputable def Kd.cB:Kd->Nat
 | .num=>1
 | .fy=>1
 | .eX fs=>fs.cB
 | .rows _ _ fs=>8 * fs.cB+1
 | .tree k=>(k.cB+1) * 585
 | .gj fs=>fs.cB+1
noncomputable def Fs.cB:Fs->Nat
 | .nil=>0
 | .cons _ k r=>k.cB+r.cB
end
theorem sL:∀{l:List Ds}{n:Nat},(∀m∈l,m.dep<=n)->(gm l).dep<=n+1
 |[],n,_=>by simp[gm,Ds.dep]
 |m::r,n,h=>by
  have h1:=h m Q05;have h2:=sL (l:=r) (n:=n) λx I=>h x (Q0b _ I);simp only[gm,Ds.dep,D.dep];omega
theorem Au {g:Int->D × Int}{N:Nat}(I:∀n,(g n).1.dep<=N):∀(m:Nat) (n:Int),(times g m n).1.dep<=N
 |0,_=>by simp[times,Ds.dep]
 |m+1,n=>by
  have h1:=I n;have h2:=Au I m (g n).2;simp only[times,Ds.dep];omega
theorem Av {ns:List Int}{f:Nat->Int->D × Int}{N:Nat}(h1:1<=N)(I:∀room n,(f room n).1.dep<=N):∀(fu room:Nat) (n:Int),(gF ns f fu room n).1.dep<=N+2 * fu
 |0,_,_=>by simp[gF,D.dep];omega
 |fu+1,room,n=>by
  have a:=I (room / 2) n;have b:=Au (g:=gF ns f fu (room / 2)) (N:=N+2 * fu) (λn=>Av h1 I fu (room / 2) n) (nx ns ((f (room / 2) n).2+1) % ((room:Int)+1)).toNat ((f (room / 2) n).2+1);simp only[gF,D.dep,Ds.dep];omega
theorem Kd.Gs (k:Kd):1<=k.dB:=by cases k <;> simp[Kd.dB]
mutual
theorem sM (ns:List Int):∀(k:Kd) (room:Nat) (n:Int),(val ns k room n).1.dep<=k.dB
 | .num,_,_=>by simp[val,D.dep,Kd.dB]
 | .fy,_,_=>by simp[val,D.dep,Kd.dB]
 | .eX fs,room,n=>by
   have:=qo ns fs room n;simp only[val,D.dep,Kd.dB];omega
 | .rows key by_ fs,room,n=>by
   have:=sL (l:=gw key by_ (f9 (e9 ns fs (room / 2)) key (nx ns (n+1) % ((room:Int)+1)).toNat [] (n+1)).1) (n:=fs.dB) λm I=>
    ni (R:=λm=>m.dep<=fs.dB) (λn=>qo ns fs (room / 2) n) _ _ _ (λr J=>absurd J (by simp)) m ((iM key by_ _).mem_iff.mp I)
   simp only[val,D.dep,Kd.dB];omega
 | .tree k,room,n=>by
   have:=Av (ns:=ns) (f:=val ns k) k.Gs (λroom n=>sM ns k room n) 4 room n;simp only[val,Kd.dB];omega
 | .gj fs,room,n=>by
   have:=Aw ns fs (nx ns (n+1) % (fs.names.length:Int)).toNat room (n+1);simp only[val,Kd.dB];omega
theorem qo (ns:List Int):∀(fs:Fs) (room:Nat) (n:Int),(e9 ns fs room n).1.dep<=fs.dB
 | .nil,_,_=>by simp[e9,Ds.dep]
 | .cons x k r,room,n=>by
   have a:=sM ns k room n;have b:=qo ns r room (val ns k room n).2;simp only[e9,Ds.dep,Fs.dB];omega
theorem Aw (ns:List Int):∀(fs:Fs) (i room:Nat) (n:Int),(g7 ns fs i room n).1.dep<=fs.dB+2
 | .nil,_,_,_=>by simp[g7,D.dep]
 | .cons x k r,0,room,n=>by
   have a:=sM ns k room n;simp only[g7,D.dep,Ds.dep,Fs.dB];omega
 | .cons x k r,i+1,room,n=>by
   have a:=Aw ns r i room n;simp only[g7,Fs.dB];omega
end
theorem mod_le {a:Int}{room:Nat}(h:room<8):(a % ((room:Int)+1)).toNat<=room:=by
 have:=Q0i a (show(0:Int)<(room:Int)+1 by omega);have:=Q0g a (show((room:Int)+1)≠0 by omega);omega
theorem sN {g:Int->D × Int}{N:Nat}(I:∀n,n<=(g n).2/\(g n).2<=n+N):∀(m:Nat) (n:Int),n<=(times g m n).2/\(times g m n).2<=n+(m * N:Nat)
 |0,n=>by simp[times]
 |m+1,n=>by
  obtain⟨J,U⟩:=I n;obtain⟨Y,b2⟩:=sN I m (g n).2;have e:(m+1) * N=m * N+N:=Q1f m N;simp only[times];rw[e];omega
noncomputable def jT:Nat->Nat
 |0=>0
 |n+1=>8 * jT n+1
theorem nj {ns:List Int}{f:Nat->Int->D × Int}{N:Nat}(I:∀room n,room<8->n<=(f room n).2/\(f room n).2<=n+N):∀(fu room:Nat) (n:Int),room<8->n<=(gF ns f fu room n).2/\(gF ns f fu room n).2<=n+((N+1) * jT fu:Nat)
 |0,_,n,_=>by simp[gF,jT]
 |fu+1,room,n,h=>by
  obtain⟨J,U⟩:=I (room / 2) n (by omega);obtain⟨Y,b2⟩:=sN (g:=gF ns f fu (room / 2)) (N:=(N+1) * jT fu) (λn=>nj I fu (room / 2) n (by omega)) (nx ns ((f (room / 2) n).2+1) % ((room:Int)+1)).toNat ((f (room / 2) n).2+1);have c:=mod_le (a:=nx ns ((f (room / 2) n).2+1)) h;have d:(nx ns ((f (room / 2) n).2+1) % ((room:Int)+1)).toNat * ((N+1) * jT fu)<=8 * ((N+1) * jT fu):=Q0w _ (by omega)
  have e:(N+1) * jT (fu+1)=8 * ((N+1) * jT fu)+(N+1):=by
   show(N+1) * (8 * jT fu+1)=_;rw[Nat.mul_add,Q2v,Nat.mul_one]
  simp only[gF];rw[e];omega
theorem qp {g:Int->Ds × Int}{key:Str}{N:Nat}(J:∀n,n<=(g n).2/\(g n).2<=n+N):∀(m:Nat) (I:List Ds) (n:Int),n<=(f9 g key m I n).2/\(f9 g key m I n).2<=n+(m * N:Nat)
 |0,_,n=>by simp[f9]
 |m+1,I,n=>by
  obtain⟨a1,a2⟩:=J n;have e:(m+1) * N=m * N+N:=Q1f m N;unfold f9;rw[e];split
  . obtain⟨U,Y⟩:=qp (key:=key) J m I (g n).2;omega
  . obtain⟨U,Y⟩:=qp (key:=key) J m (I++[(g n).1]) (g n).2;omega
mutual
theorem kT (ns:List Int):∀(k:Kd) (room:Nat) (n:Int),room<8->n<=(val ns k room n).2/\(val ns k room n).2<=n+k.cB
 | .num,_,_,_=>by simp only[val,Kd.cB];omega
 | .fy,_,_,_=>by simp only[val,Kd.cB];omega
 | .eX fs,room,n,h=>by
   have:=nq ns fs room n h;simp only[val,Kd.cB];omega
 | .rows key by_ fs,room,n,h=>by
   obtain⟨I,J⟩:=qp (g:=e9 ns fs (room / 2)) (key:=key) (N:=fs.cB) (λn=>nq ns fs (room / 2) n (by omega)) (nx ns (n+1) % ((room:Int)+1)).toNat [] (n+1);have c:=mod_le (a:=nx ns (n+1)) h;have d:(nx ns (n+1) % ((room:Int)+1)).toNat * fs.cB<=8 * fs.cB:=Q0w _ (by omega);simp only[val,Kd.cB];omega
 | .tree k,room,n,h=>by
   have:=nj (ns:=ns) (f:=val ns k) (N:=k.cB) (λroom n h=>kT ns k room n h) 4 room n h;have e:jT 4=585:=rfl;rw[e] at this;simp only[val,Kd.cB];omega
 | .gj fs,room,n,h=>by
   have:=Ax ns fs (nx ns (n+1) % (fs.names.length:Int)).toNat room (n+1) h;simp only[val,Kd.cB];omega
theorem nq (ns:List Int):∀(fs:Fs) (room:Nat) (n:Int),room<8->n<=(e9 ns fs room n).2/\(e9 ns fs room n).2<=n+fs.cB
 | .nil,_,_,_=>by simp[e9,Fs.cB]
 | .cons x k r,room,n,h=>by
   have a:=kT ns k room n h;have b:=nq ns r room (val ns k room n).2 h;simp only[e9,Fs.cB];omega
theorem Ax (ns:List Int):∀(fs:Fs) (i room:Nat) (n:Int),room<8->n<=(g7 ns fs i room n).2/\(g7 ns fs i room n).2<=n+fs.cB
 | .nil,_,_,_,_=>by simp[g7,Fs.cB]
 | .cons x k r,0,room,n,h=>by
   have a:=kT ns k room n h;simp only[g7,Fs.cB];omega
 | .cons x k r,i+1,room,n,h=>by
   have a:=Ax ns r i room n h;simp only[g7,Fs.cB];omega
end
noncomputable def CB:Nat->Nat
 |0=>1
 |d+1=>1200 * CB d
theorem nr:∀d,1<=CB d
 |0=>Q00 _
 |d+1=>by have:=nr d;show 1<=1200 * CB d;omega
mutual
theorem Ay:∀(k:Kd) (d:Nat),k.W->k.dep<=d+1->k.cB<=CB d
 | .num,d,_,_=>nr d
 | .fy,d,_,_=>nr d
 | .eX fs,0,_,h=>by
   simp only[Kd.dep] at h
   cases fs with
   |nil=>simp[Kd.cB,Fs.cB]
   |cons x k r=>have:=k.jQ;simp only[Fs.dep] at h;omega
 | .eX fs,d+1,w,h=>by
   unfold Kd.W at w;simp only[Kd.dep] at h;have:=nt fs d w.2.2 (by omega);have e:fs.names.length * CB d<=12 * CB d:=Q0w _ w.2.1;show fs.cB<=1200 * CB d;omega
 | .rows key by_ fs,0,w,h=>by
   simp only[Kd.dep] at h
   cases fs with
   |nil=>simp[Kd.cB,Fs.cB,CB]
   |cons x k r=>have:=k.jQ;simp only[Fs.dep] at h;omega
 | .rows key by_ fs,d+1,w,h=>by
   unfold Kd.W at w;simp only[Kd.dep] at h;have:=nt fs d w.2.2.1 (by omega);have e:fs.names.length * CB d<=12 * CB d:=Q0w _ w.2.1;have p:=nr d;show 8 * fs.cB+1<=1200 * CB d;omega
 | .tree k,0,w,h=>by
   have:=k.jQ;simp only[Kd.dep] at h;omega
 | .tree k,d+1,w,h=>by
   unfold Kd.W at w;simp only[Kd.dep] at h;have:=Ay k d w (by omega);have p:=nr d;show(k.cB+1) * 585<=1200 * CB d;omega
 | .gj fs,0,w,h=>by
   simp only[Kd.dep] at h
   cases fs with
   |nil=>simp[Kd.cB,Fs.cB,CB]
   |cons x k r=>have:=k.jQ;simp only[Fs.dep] at h;omega
 | .gj fs,d+1,w,h=>by
   unfold Kd.W at w;simp only[Kd.dep] at h;have:=nt fs d w.2.2.2 (by omega);have e:fs.names.length * CB d<=12 * CB d:=Q0w _ w.2.1;have p:=nr d;show fs.cB+1<=1200 * CB d;omega
theorem nt:∀(fs:Fs) (d:Nat),fs.W->fs.dep<=d+1->fs.cB<=fs.names.length * CB d
 | .nil,d,_,_=>by simp[Fs.cB]
 | .cons x k r,d,w,h=>by
   unfold Fs.W at w;simp only[Fs.dep] at h;have a:=Ay k d w.1 (by omega);have b:=nt r d w.2.2 (by omega);show k.cB+r.cB<=(r.names.length+1) * CB d;rw[Q1f];omega
end
mutual
theorem Az:∀(k:Kd),k.dB+8<=10 * k.dep
 | .num=>by simp[Kd.dB,Kd.dep]
 | .fy=>by simp[Kd.dB,Kd.dep]
 | .eX fs=>by have:=oN fs;simp only[Kd.dB,Kd.dep];omega
 | .rows _ _ fs=>by have:=oN fs;simp only[Kd.dB,Kd.dep];omega
 | .tree k=>by have:=Az k;simp only[Kd.dB,Kd.dep];omega
 | .gj fs=>by have:=oN fs;simp only[Kd.dB,Kd.dep];omega
theorem oN:∀(fs:Fs),fs.dB<=10 * fs.dep - 8
 | .nil=>by simp[Fs.dB]
 | .cons x k r=>by
   have a:=Az k;have b:=oN r;simp only[Fs.dB,Fs.dep];omega
end
end Pb
namespace Pb
open L2
mutual
def KA (H:Hp):V->Kd->Prop
 |v,.num=>∃a,v=.ref a/\H a=some (.tup [.str "number"])
 |v,.fy=>∃a,v=.ref a/\H a=some (.tup [.str "word"])
 |v,.eX fs=>∃a b vs,v=.ref a/\H a=some (.tup [.str "record",.ref b])/\H b=some (.tup vs)/\FA H vs fs
 |v,.rows key by_ fs=>∃a b vs,v=.ref a/\H a=some (.tup [.str "rows",.str key,.str by_,.ref b])/\H b=some (.tup vs)/\FA H vs fs
 |v,.tree k=>∃a u,v=.ref a/\H a=some (.tup [.str "tree",u])/\KA H u k
 |v,.gj fs=>∃a b vs,v=.ref a/\H a=some (.tup [.str "either",.ref b])/\H b=some (.tup vs)/\FA H vs fs
def FA (H:Hp):List V->Fs->Prop
 |vs,.nil=>vs=[]
 |vs,.cons x k r=>∃c u I,vs=.ref c::I/\H c=some (.tup [.str x,u])/\KA H u k/\FA H I r
end
def Tu (H H':Hp):Prop:=∀a xs,H a=some (.tup xs)->H' a=some (.tup xs)
theorem Tu.trans {H H1 H2:Hp}(a:Tu H H1)(b:Tu H1 H2):Tu H H2:=λc xs h=>b c xs (a c xs h)
theorem Tu.of {H H':Hp}(s:Same H H'):Tu H H':=λa xs h=>s a _ h
theorem Tu.wr {H:Hp}{p:Addr}{o:HO}(h:∀xs,H p≠some (.tup xs)):Tu H (upd H p o):=λa xs e=>by
 rw[eE (λz=>h xs (by rw[<-z];exact e))];exact e
mutual
theorem KA.mono {H H':Hp}(t:Tu H H'):∀{v:V}(k:Kd),KA H v k->KA H' v k
 |v,.num,h=>by
  unfold KA at h ⊢;obtain⟨a,e,q⟩:=h;exact⟨a,e,t _ _ q⟩
 |v,.fy,h=>by
  unfold KA at h ⊢;obtain⟨a,e,q⟩:=h;exact⟨a,e,t _ _ q⟩
 |v,.eX fs,h=>by
  unfold KA at h ⊢;obtain⟨a,b,vs,e,I,J,f⟩:=h;exact⟨a,b,vs,e,t _ _ I,t _ _ J,FA.mono t fs f⟩
 |v,.rows key by_ fs,h=>by
  unfold KA at h ⊢;obtain⟨a,b,vs,e,I,J,f⟩:=h;exact⟨a,b,vs,e,t _ _ I,t _ _ J,FA.mono t fs f⟩
 |v,.tree k,h=>by
  unfold KA at h ⊢;obtain⟨a,u,e,q,f⟩:=h;exact⟨a,u,e,t _ _ q,KA.mono t k f⟩
 |v,.gj fs,h=>by
  unfold KA at h ⊢;obtain⟨a,b,vs,e,I,J,f⟩:=h;exact⟨a,b,vs,e,t _ _ I,t _ _ J,FA.mono t fs f⟩
theorem FA.mono {H H':Hp}(t:Tu H H'):∀{vs:List V}(fs:Fs),FA H vs fs->FA H' vs fs
 |vs,.nil,h=>by
  unfold FA at h ⊢;exact h
 |vs,.cons x k r,h=>by
  unfold FA at h ⊢;obtain⟨c,u,I,e,q,f,g⟩:=h;exact⟨c,u,I,e,t _ _ q,KA.mono t k f,FA.mono t r g⟩
end
theorem FA.len {H:Hp}:∀{vs:List V}(fs:Fs),FA H vs fs->vs.length=fs.names.length
 |vs,.nil,h=>by
  unfold FA at h;rw[h];rfl
 |vs,.cons x k r,h=>by
  unfold FA at h;obtain⟨c,u,I,e,_,_,g⟩:=h;rw[e];show I.length+1=r.names.length+1;rw[FA.len r g]
theorem FA.get {H:Hp}:∀{vs:List V}(fs:Fs) {i:Nat}{v:V},FA H vs fs->vs[i]? =some v->∃c u x k,v=.ref c/\fs.at i=some (x,k)/\H c=some (.tup [.str x,u])/\KA H u k
 |vs,.nil,i,v,h,e=>by
  unfold FA at h;rw[h] at e;simp at e
 |vs,.cons x k r,0,v,h,e=>by
  unfold FA at h;obtain⟨c,u,J,I,q,f,_⟩:=h;rw[I] at e;have e:some (V.ref c)=some v:=e
  cases e;exact⟨c,u,x,k,rfl,rfl,q,f⟩
 |vs,.cons x k r,i+1,v,h,e=>by
  unfold FA at h;obtain⟨c,u,J,I,_,_,g⟩:=h;rw[I] at e;exact FA.get r (i:=i) g (by simpa using e)
theorem FA.at {H:Hp}{vs:List V}{fs:Fs}{i:Nat}{x:Str}{k:Kd}(h:FA H vs fs)(e:fs.at i=some (x,k)):∃c u,vs[i]? =some (.ref c)/\H c=some (.tup [.str x,u])/\KA H u k:=by
 have hl:=FA.len fs h
 have hi:i<fs.names.length:=by
  have:fs.names[i]? =some x:=by rw[Fs.jz,e];rfl
  exact(List.getElem?_eq_some_iff.mp this).1
 have I:vs[i]? =some (vs[i]'(by omega)):=Q03 (by omega);obtain⟨c,u,Y,k',h1,h2,J,U⟩:=FA.get fs h I;rw[e] at h2;cases h2;exact⟨c,u,by rw[I,h1],J,U⟩
theorem FA.snoc {H:Hp}{c:Addr}{u:V}{x:Str}{k:Kd}(hc:H c=some (.tup [.str x,u]))(I:KA H u k):∀{vs:List V}(fs:Fs),FA H vs fs->FA H (vs++[.ref c]) (fs.snoc x k)
 |vs,.nil,h=>by
  unfold FA at h;subst h;show FA H [.ref c] (.cons x k .nil);unfold FA;exact⟨c,u,[],rfl,hc,I,by unfold FA;rfl⟩
 |vs,.cons y q r,h=>by
  unfold FA at h;obtain⟨d,w,J,e,h1,h2,U⟩:=h;subst e;show FA H (.ref d::(J++[.ref c])) (.cons y q (r.snoc x k));unfold FA;exact⟨d,w,J++[.ref c],rfl,h1,h2,FA.snoc hc I r U⟩
mutual
def Own (H:Hp):V->D->List Addr->Prop
 |v,.int z,I=>v=.int z/\I=[]
 |v,.str x,I=>v=.str x/\I=[]
 |v,.non,I=>v=.non/\I=[]
 |v,.boo b,I=>v=.bl b/\I=[]
 |v,.tup xs,I=>∃a vs,v=.ref a/\H a=some (.tup vs)/\eW H vs xs I
 |v,.lst xs,I=>∃a vs J,v=.ref a/\H a=some (.lst vs)/\I=a::J/\eW H vs xs J
 |v,.dct m,I=>∃a kvs J,v=.ref a/\H a=some (.dK kvs)/\I=a::J/\eV H kvs m J
def eW (H:Hp):List V->Ds->List Addr->Prop
 |vs,.nil,I=>vs=[]/\I=[]
 |vs,.cons _ d r,I=>∃v q f1 f2,vs=v::q/\I=f1++f2/\Own H v d f1/\eW H q r f2
def eV (H:Hp):List (Key × V)->Ds->List Addr->Prop
 |kvs,.nil,I=>kvs=[]/\I=[]
 |kvs,.cons x d r,I=>∃v q f1 f2,kvs=(Sum.inr x,v)::q/\I=f1++f2/\Own H v d f1/\eV H q r f2
end
mutual
theorem Own.keep {H H':Hp}(t:Tu H H'):∀{v:V}(d:D) {I:List Addr},(∀a∈I,∀o,H a=some o->H' a=some o)->Own H v d I->Own H' v d I
 |v,.int z,I,k,h=>by unfold Own at h ⊢;exact h
 |v,.str x,I,k,h=>by unfold Own at h ⊢;exact h
 |v,.non,I,k,h=>by unfold Own at h ⊢;exact h
 |v,.boo _,I,k,h=>by unfold Own at h ⊢;exact h
 |v,.tup xs,I,k,h=>by
  unfold Own at h ⊢;obtain⟨a,vs,e,q,f⟩:=h;exact⟨a,vs,e,t _ _ q,eW.keep t xs k f⟩
 |v,.lst xs,I,k,h=>by
  unfold Own at h ⊢;obtain⟨a,vs,J,e,q,rfl,f⟩:=h;exact⟨a,vs,J,e,k a Q05 _ q,rfl,eW.keep t xs (λb U=>k b (Q0b _ U)) f⟩
 |v,.dct m,I,k,h=>by
  unfold Own at h ⊢;obtain⟨a,vs,J,e,q,rfl,f⟩:=h;exact⟨a,vs,J,e,k a Q05 _ q,rfl,eV.keep t m (λb U=>k b (Q0b _ U)) f⟩
theorem eW.keep {H H':Hp}(t:Tu H H'):∀{vs:List V}(xs:Ds) {I:List Addr},(∀a∈I,∀o,H a=some o->H' a=some o)->eW H vs xs I->eW H' vs xs I
 |vs,.nil,I,k,h=>by unfold eW at h ⊢;exact h
 |vs,.cons x d r,I,k,h=>by
  unfold eW at h ⊢;obtain⟨v,q,f1,f2,e,rfl,U,Y⟩:=h;exact⟨v,q,f1,f2,e,rfl,Own.keep t d (λb J=>k b (Q0u _ J)) U,eW.keep t r (λb J=>k b (Q06 _ J)) Y⟩
theorem eV.keep {H H':Hp}(t:Tu H H'):∀{kvs:List (Key × V)}(m:Ds) {I:List Addr},(∀a∈I,∀o,H a=some o->H' a=some o)->eV H kvs m I->eV H' kvs m I
 |kvs,.nil,I,k,h=>by unfold eV at h ⊢;exact h
 |kvs,.cons x d r,I,k,h=>by
  unfold eV at h ⊢;obtain⟨v,q,f1,f2,e,rfl,U,Y⟩:=h;exact⟨v,q,f1,f2,e,rfl,Own.keep t d (λb J=>k b (Q0u _ J)) U,eV.keep t r (λb J=>k b (Q06 _ J)) Y⟩
end
theorem Own.same {H H':Hp}{v:V}{d:D}{I:List Addr}(s:Same H H')(h:Own H v d I):Own H' v d I:=h.keep (Tu.of s) d λa _ o e=>s a o e
theorem eW.same {H H':Hp}{v:List V}{d:Ds}{I:List Addr}(s:Same H H')(h:eW H v d I):eW H' v d I:=h.keep (Tu.of s) d λa _ o e=>s a o e
theorem eV.same {H H':Hp}{v:List (Key × V)}{d:Ds}{I:List Addr}(s:Same H H')(h:eV H v d I):eV H' v d I:=h.keep (Tu.of s) d λa _ o e=>s a o e
def Mu (H:Hp) (a:Addr):Prop:=(∃xs,H a=some (.lst xs))\/∃kvs,H a=some (.dK kvs)
mutual
theorem Own.alive {H:Hp}:∀{v:V}(d:D) {I:List Addr},Own H v d I->∀a∈I,Mu H a
 |v,.int z,I,h=>by unfold Own at h;rw[h.2];intro a J;exact absurd J (by simp)
 |v,.str x,I,h=>by unfold Own at h;rw[h.2];intro a J;exact absurd J (by simp)
 |v,.non,I,h=>by unfold Own at h;rw[h.2];intro a J;exact absurd J (by simp)
 |v,.boo _,I,h=>by unfold Own at h;rw[h.2];intro a J;exact absurd J (by simp)
 |v,.tup xs,I,h=>by
  unfold Own at h;obtain⟨a,vs,e,q,f⟩:=h;exact eW.alive xs f
 |v,.lst xs,I,h=>by
  unfold Own at h;obtain⟨a,vs,Y,e,q,rfl,f⟩:=h;intro b U;rcases List.mem_cons.mp U with z|z
  . rw[z];exact .inl ⟨_,q⟩
  . exact eW.alive xs f b z
 |v,.dct m,I,h=>by
  unfold Own at h;obtain⟨a,vs,Y,e,q,rfl,f⟩:=h;intro b U;rcases List.mem_cons.mp U with z|z
  . rw[z];exact .inr ⟨_,q⟩
  . exact eV.alive m f b z
theorem eW.alive {H:Hp}:∀{vs:List V}(xs:Ds) {I:List Addr},eW H vs xs I->∀a∈I,Mu H a
 |vs,.nil,I,h=>by unfold eW at h;rw[h.2];intro a J;exact absurd J (by simp)
 |vs,.cons x d r,I,h=>by
  unfold eW at h;obtain⟨v,q,f1,f2,e,rfl,U,Y⟩:=h;intro b hb;rcases List.mem_append.mp hb with z|z
  . exact Own.alive d U b z
  . exact eW.alive r Y b z
theorem eV.alive {H:Hp}:∀{kvs:List (Key × V)}(m:Ds) {I:List Addr},eV H kvs m I->∀a∈I,Mu H a
 |kvs,.nil,I,h=>by unfold eV at h;rw[h.2];intro a J;exact absurd J (by simp)
 |kvs,.cons x d r,I,h=>by
  unfold eV at h;obtain⟨v,q,f1,f2,e,rfl,U,Y⟩:=h;intro b hb;rcases List.mem_append.mp hb with z|z
  . exact Own.alive d U b z
  . exact eV.alive r Y b z
end
theorem Mu.ex {H:Hp}{a:Addr}(h:Mu H a):∃o,H a=some o:=by
 rcases h with⟨_,h⟩|⟨_,h⟩ <;> exact⟨_,h⟩
theorem Mu.sO {H:Hp}{a:Addr}(h:Mu H a)(xs:List V):H a≠some (.tup xs):=λz=>by
 rcases h with⟨_,h⟩|⟨_,h⟩ <;> rw[h] at z <;> cases z
noncomputable def Ds.len:Ds->Nat
 | .nil=>0
 | .cons _ _ r=>r.len+1
noncomputable def Ds.names:Ds->List Str
 | .nil=>[]
 | .cons x _ r=>x::r.names
noncomputable def Ds.at:Ds->Nat->Option D
 | .nil,_=>none
 | .cons _ d _,0=>some d
 | .cons _ _ r,i+1=>r.at i
noncomputable def Ds.snoc:Ds->Str->D->Ds
 | .nil,x,d=>.cons x d .nil
 | .cons y e r,x,d=>.cons y e (r.snoc x d)
theorem Ds.kM:∀{xs:Ds}{i:Nat}{d:D},xs.at i=some d->d.dep<=xs.dep
 | .nil,_,_,h=>by cases h
 | .cons _ d r,0,_,h=>by cases h;exact Q23 _ _
 | .cons _ d r,i+1,_,h=>Q0f (Ds.kM (xs:=r) (i:=i) h) (Q24 _ _)
theorem Ds.sP:∀{xs:Ds}{x:Str}{d:D},xs.get x=some d->d.dep<=xs.dep
 | .nil,_,_,h=>by cases h
 | .cons y e r,x,d,h=>by
   have h:(if x=y then some e else r.get x)=some d:=h;by_cases c:x=y
   . rw[if_pos c] at h;cases h;exact Q23 _ _
   . rw[if_neg c] at h;exact Q0f (Ds.sP h) (Q24 _ _)
theorem eW.len {H:Hp}:∀{vs:List V}(xs:Ds) {I:List Addr},eW H vs xs I->vs.length=xs.len
 |vs,.nil,I,h=>by unfold eW at h;rw[h.1];rfl
 |vs,.cons x d r,I,h=>by
  unfold eW at h;obtain⟨v,q,f1,f2,rfl,rfl,U,J⟩:=h;show q.length+1=r.len+1;rw[eW.len r J]
theorem eW.get {H:Hp}:∀{vs:List V}(xs:Ds) {I:List Addr}{i:Nat}{v:V},eW H vs xs I->vs[i]? =some v->∃d f,xs.at i=some d/\Own H v d f/\∀a∈f,a∈I
 |vs,.nil,I,i,v,h,e=>by
  unfold eW at h;rw[h.1] at e;simp at e
 |vs,.cons x d r,I,0,v,h,e=>by
  unfold eW at h;obtain⟨w,q,f1,f2,rfl,rfl,U,Y⟩:=h;have e:some w=some v:=e
  cases e;exact⟨d,f1,rfl,U,λa J=>Q0u _ J⟩
 |vs,.cons x d r,I,i+1,v,h,e=>by
  unfold eW at h;obtain⟨w,q,f1,f2,rfl,rfl,U,Y⟩:=h;obtain⟨d',f,h1,h2,h3⟩:=eW.get r (i:=i) Y (by simpa using e);exact⟨d',f,h1,h2,λa J=>Q06 _ (h3 a J)⟩
theorem eW.snoc {H:Hp}{v:V}{d:D}{g:List Addr}{y:Str}(J:Own H v d g):∀{vs:List V}(xs:Ds) {I:List Addr},eW H vs xs I->eW H (vs++[v]) (xs.snoc y d) (I++g)
 |vs,.nil,I,h=>by
  unfold eW at h;obtain⟨rfl,rfl⟩:=h;show eW H [v] (.cons y d .nil) g;unfold eW;exact⟨v,[],g,[],rfl,by simp,J,by unfold eW;exact⟨rfl,rfl⟩⟩
 |vs,.cons x e r,I,h=>by
  unfold eW at h;obtain⟨w,q,f1,f2,rfl,rfl,U,Y⟩:=h;show eW H (w::(q++[v])) (.cons x e (r.snoc y d)) (f1++f2++g);unfold eW;exact⟨w,q++[v],f1,f2++g,rfl,by rw[Q17],U,eW.snoc J r Y⟩
theorem eV.snoc {H:Hp}{v:V}{d:D}{g:List Addr}{y:Str}(J:Own H v d g):∀{kvs:List (Key × V)}(xs:Ds) {I:List Addr},eV H kvs xs I->eV H (kvs++[(Sum.inr y,v)]) (xs.snoc y d) (I++g)
 |kvs,.nil,I,h=>by
  unfold eV at h;obtain⟨rfl,rfl⟩:=h;show eV H [(Sum.inr y,v)] (.cons y d .nil) g;unfold eV;exact⟨v,[],g,[],rfl,by simp,J,by unfold eV;exact⟨rfl,rfl⟩⟩
 |kvs,.cons x e r,I,h=>by
  unfold eV at h;obtain⟨w,q,f1,f2,rfl,rfl,U,Y⟩:=h;show eV H ((Sum.inr x,w)::(q++[(Sum.inr y,v)])) (.cons x e (r.snoc y d)) (f1++f2++g);unfold eV;exact⟨w,q++[(Sum.inr y,v)],f1,f2++g,rfl,by rw[Q17],U,eV.snoc J r Y⟩
theorem eV.keys {H:Hp}:∀{kvs:List (Key × V)}(m:Ds) {I:List Addr},eV H kvs m I->kvs.map (·.1)=m.names.map Sum.inr
 |kvs,.nil,I,h=>by unfold eV at h;rw[h.1];rfl
 |kvs,.cons x d r,I,h=>by
  unfold eV at h;obtain⟨v,q,f1,f2,rfl,rfl,U,J⟩:=h;show Sum.inr x::q.map (·.1)=Sum.inr x::r.names.map Sum.inr;rw[eV.keys r J]
theorem eV.len {H:Hp}{kvs:List (Key × V)}{m:Ds}{I:List Addr}(h:eV H kvs m I):kvs.length=m.names.length:=by
 have:=congrArg List.length (eV.keys m h);simpa using this
theorem eV.val {H:Hp}:∀{kvs:List (Key × V)}(m:Ds) {J:List Addr}{x:Str}{d:D},eV H kvs m J->m.get x=some d->∃v f,gD kvs (Sum.inr x)=some v/\Own H v d f/\∀a∈f,a∈J
 |kvs,.nil,J,x,d,h,e=>by cases e
 |kvs,.cons y e r,J,x,d,h,I=>by
  unfold eV at h;obtain⟨v,q,f1,f2,rfl,rfl,Y,g2⟩:=h;have I:(if x=y then some e else r.get x)=some d:=I;by_cases c:x=y
  . rw[if_pos c] at I
    cases I;exact⟨v,f1,ou (by rw[c]),Y,λa U=>Q0u _ U⟩
  . rw[if_neg c] at I;obtain⟨w,f,h1,h2,h3⟩:=eV.val r g2 I;exact⟨w,f,by rw[ow (λz=>c (Sum.inr.inj z).symm)];exact h1,h2,λa U=>Q06 _ (h3 a U)⟩
theorem fJ.names:∀{fs:Fs}{m:Ds},fJ fs m->m.names=fs.names
 | .nil,m,h=>by unfold fJ at h;rw[h];rfl
 | .cons x k r,m,h=>by
   unfold fJ at h;obtain⟨d,q,rfl,_,g⟩:=h;show x::q.names=x::r.names;rw[fJ.names g]
theorem eV.AB {H:Hp}{kvs:List (Key × V)}{m:Ds}{I:List Addr}{x:Str}(h:eV H kvs m I)(J:x ∉ m.names):gD kvs (Sum.inr x)=none:=by
 cases e:gD kvs (Sum.inr x) with
 |none=>rfl
 |some v=>
  have:=Fu e;rw[eV.keys m h] at this;obtain⟨y,U,Y⟩:=List.mem_map.mp this
  cases Y;exact absurd U J
theorem oO {kvs:List (Key × V)}{k:Key}{v:V}(h:gD kvs k=none):putK kvs k v=kvs++[(k,v)]:=by
 unfold putK;rw[if_neg];rw[oy,h];simp
def Kp (S:Addr->Prop) (H H':Hp):Prop:=∀c o,¬S c->H c=some o->H' c=some o
theorem Kp.refl (S:Addr->Prop)(H:Hp):Kp S H H:=λ_ _ _ h=>h
theorem Kp.trans {S:Addr->Prop}{H H1 H2:Hp}(x:Kp S H H1)(y:Kp S H1 H2):Kp S H H2:=λc o n h=>y c o n (x c o n h)
theorem Kp.of {S:Addr->Prop}{H H':Hp}(s:Same H H'):Kp S H H':=λc o _ h=>s c o h
theorem Kp.oP {S:Addr->Prop}{H H':Hp}{a:Addr}(x:Kp S H H')(I:¬S a)(h:H' a=none):H a=none:=by
 cases e:H a with
 |none=>rfl
 |some o=>rw[x a o I e] at h;cases h
inductive A3 {α β γ:Type} (R:α->β->γ->Prop):List α->List β->List γ->Prop
 |nil:A3 R [] [] []
 |cons {a:α} {b:β} {c:γ} {as:List α} {bs:List β} {cs:List γ}:R a b c->A3 R as bs cs->A3 R (a::as) (b::bs) (c::cs)
theorem A3.snoc {α I J:Type}{R:α->I->J->Prop}{a:α}{b:I}{c:J}(h:R a b c):∀{as:List α}{bs:List I}{U:List J},A3 R as bs U->A3 R (as++[a]) (bs++[b]) (U++[c])
 |_,_,_,.nil=>.cons h .nil
 |_,_,_,.cons x r=>.cons x (A3.snoc h r)
theorem A3.len {α J U:Type}{R:α->J->U->Prop}:∀{as:List α}{bs:List J}{I:List U},A3 R as bs I->as.length=bs.length/\as.length=I.length
 |_,_,_,.nil=>⟨rfl,rfl⟩
 |_,_,_,.cons x r=>by
  obtain⟨h1,h2⟩:=A3.len r;simp only[Q0h];omega
theorem A3.at {α I J:Type}{R:α->I->J->Prop}{a0:α}{b0:I}{c0:J}:∀{as:List α}{bs:List I}{U:List J},A3 R as bs U->∀i,i<as.length->R (as.getD i a0) (bs.getD i b0) (U.getD i c0)
 |_,_,_,.nil,i,h=>absurd h (by simp)
 |_,_,_,.cons x r,0,h=>x
 |_,_,_,.cons x r,i+1,h=>by
  have:=A3.at (a0:=a0) (b0:=b0) (c0:=c0) r i (by simpa using h);simpa using this
theorem A3.pick {α I J:Type}{R:α->I->J->Prop}{a0:α}{b0:I}{c0:J}{as:List α}{bs:List I}{U:List J}(h:A3 R as bs U):∀p:List Nat,(∀i∈p,i<as.length)->A3 R (p.map λi=>as.getD i a0) (p.map λi=>bs.getD i b0) (p.map λi=>U.getD i c0)
 |[],_=>.nil
 |i::p,hp=>.cons (h.at i (hp i Q05)) (A3.pick h p λj Y=>hp j (Q0b _ Y))
theorem Gu {α:Type}(a0:α):∀l:List α,((List.range l.length).map λi=>l.getD i a0)=l:=λl=>by
 apply Q2p
 . simp
 . intro i h1 h2;simp[h2]
theorem qr {α:Type}(a0:α){l:List α}{p:List Nat}(h:p.Perm (List.range l.length)):(p.map λi=>l.getD i a0).Perm l:=by
 have:=h.map (λi=>l.getD i a0)
 rwa [Gu] at this
theorem AD {α:Type}{I J:List (List α)}(h:I.Perm J):I.flatten.Perm J.flatten:=by
 induction h with
 |nil=>exact List.Perm.refl _
 |cons x _ U=>exact U.append_left x
 |swap x y l=>
  show(y++(x++l.flatten)).Perm (x++(y++l.flatten));rw[<-Q17,<-Q17];exact List.perm_append_comm.append_right _
 |trans _ _ a b=>exact a.trans b
abbrev eR (H:Hp):List V->List Ds->List (List Addr)->Prop:=A3 λv m f=>Own H v (.dct m) f
theorem eR.own {H:Hp}:∀{vs:List V}{rs:List Ds}{fs:List (List Addr)},eR H vs rs fs->eW H vs (gm rs) fs.flatten
 |_,_,_,.nil=>by unfold gm eW;exact⟨rfl,rfl⟩
 |_,_,_,.cons h r=>by
  unfold gm eW;exact⟨_,_,_,Zr rfl ⟨rfl,h,eR.own r⟩⟩
noncomputable def lt (z:Int):Str:=⟨#[97+z.toNat]⟩
theorem qt (z:Int):(lt z).length=1:=rfl
theorem Gv:∀j:Nat,j<26->(("abcdefghijklmnopqrstuvwxyz":Str)).cps.toList[j]? =some (97+j):=by decide +kernel
theorem Gw:(("abcdefghijklmnopqrstuvwxyz":Str)).cps.toList.length=26:=by decide +kernel
theorem qu {z:Int}(I:0<=z)(h1:z<26):gv (("abcdefghijklmnopqrstuvwxyz":Str)).cps.toList z=some (97+z.toNat):=by
 unfold gv jx;rw[Gw,if_pos I,if_pos (show z<((26:Nat):Int) by omega)];exact Gv z.toNat (by omega)
theorem Gx {z:Int}(I:0<=z)(h1:z<6):gv [V.int 1,.int 3,.int 5,.int 7,.int 9,.int 11] z=some (.int (2 * z+1)):=by
 obtain⟨n,rfl⟩:=Int.eq_ofNat_of_zero_le I;have h:=Int.ofNat_lt.mp h1;clear I h1;revert n
 decide
noncomputable def nameAt (m:Int) (k:Nat):Str:=
 if m / 12168 % 4=0 then Txt.mul (lt (m / 6 % 26)) ((k:Int)+1)
 else Txt.slice (lt (m / 6 % 26)++lt (m / 156 % 26)) none (some (m / 4056 % 3))++lt ((m / 156+(k:Int) * (2 * (m % 6)+1)) % 26)++Txt.slice (lt (m / 6 % 26)++lt (m / 156 % 26)) (some (m / 4056 % 3)) none
theorem foldl_size (a:Array Nat):∀(n:Nat) (b:Array Nat),((List.replicate n a).foldl (· ++ ·) b).size=b.size+n * a.size
 |0,b=>by simp
 |n+1,b=>by
  rw[Q26,Q2w,foldl_size a n,Q2r,Q1f];omega
theorem AE {x:Str}(I:x.length=1)(k:Nat):(Txt.mul x ((k:Int)+1)).length=k+1:=by
 have J:x.cps.size=1:=I;unfold Txt.mul;rw[if_neg (by omega)];by_cases h:k=0
 . subst h;rw[if_pos (by simp)];exact I
 . rw[if_neg]
   . show((List.replicate ((k:Int)+1).toNat x.cps).foldl (· ++ ·) #[]).size=k+1;rw[foldl_size,J,show((k:Int)+1).toNat=k+1 by omega];simp
   . rw[I];simp;omega
theorem sQ (x y:Str):(x++y).cps.toList=x.cps.toList++y.cps.toList:=by
 show(x.cps++y.cps).toList=_;simp
theorem AG (x y:Str):(x++y).length=x.length+y.length:=by
 show(x.cps++y.cps).size=x.cps.size+y.cps.size;simp
theorem Gy {p q:Str}{z w:Int}(h:p++lt z++q=p++lt w++q):z.toNat=w.toNat:=by
 have e:=congrArg (λs:Str=>s.cps.toList) h;simp only[sQ] at e;have e:=List.append_cancel_left (List.append_cancel_right e);have e:[97+z.toNat]=[97+w.toNat]:=e;have e:=List.cons.inj e |>.1;omega
theorem Gz:∀s:Nat,s<6->∀i,i<12->∀j,j<12->(i * (2 * s+1)) % 26=(j * (2 * s+1)) % 26->i=j:=by decide +kernel
theorem GA {m:Int}{i j:Nat}(Y:0<=m)(hi:i<12)(J:j<12)(h:nameAt m i=nameAt m j):i=j:=by
 unfold nameAt at h;by_cases I:m / 12168 % 4=0
 . rw[if_pos I,if_pos I] at h;have e:=congrArg Str.length h;rw[AE (qt _),AE (qt _)] at e;omega
 . rw[if_neg I,if_neg I] at h;have e:=Gy h;obtain⟨s,U⟩:∃s:Nat,m % 6=s:=⟨(m % 6).toNat,by omega⟩;rw[U] at e;have e:((m / 156+(i * (2 * s+1):Nat)) % 26).toNat=((m / 156+(j * (2 * s+1):Nat)) % 26).toNat:=e;generalize m / 156=a at e;exact Gz s (by omega) i hi j J (by omega)
theorem GB {f:Nat->Str}:∀{n:Nat},(∀i j,i<n->j<n->f i=f j->i=j)->((List.range n).map f).Nodup:=by
 intro n h;refine List.pairwise_map.mpr (List.Pairwise.imp_of_mem (λ{a b} J U I=>?_) (List.nodup_range (n:=n)));intro e;exact I (h a b (List.mem_range.mp J) (List.mem_range.mp U) e)
theorem names_nodup {m:Int}{n:Nat}(I:0<=m)(J:n<=12):((List.range n).map (nameAt m)).Nodup:=
 GB λi j hi U e=>GA I (by omega) (by omega) e
theorem GC {x:Str}(I:x.length=1){k:Nat}(Y:k<12)(hl:∀n,n<=1000->Builtin.Str.tooLong n=false):MulOk x ((k:Int)+1):=by
 refine⟨?_,λ_ z=>?_,λ_ _=>?_⟩
 . have J:decide (((k:Int)+1)< -(2 ^ 63:Int))=false:=decide_eq_false (by omega);have U:decide (((k:Int)+1) ≥ 2 ^ 63)=false:=decide_eq_false (by omega);rw[J,U];rfl
 . rw[I];clear hl I z;revert k
   decide
 . rw[I];exact hl _ (by omega)
end Pb
namespace Pb
open L2 PyProof.Rows Spec StrLaws Builtin Builtin.Str
theorem foldl_rep (c:Nat):∀(n:Nat) (b:Array Nat),((List.replicate n #[c]).foldl (· ++ ·) b).toList=b.toList++List.replicate n c
 |0,b=>by simp
 |n+1,b=>by
  rw[Q26,Q2w,foldl_rep c n,Array.toList_append,Q17];rfl
theorem GD (z:Int)(k:Nat):(Txt.mul (lt z) ((k:Int)+1)).cps.toList=List.replicate (k+1) (97+z.toNat):=by
 unfold Txt.mul;rw[if_neg (by omega)];by_cases h:(((k:Int)+1 == 1) || (lt z).length == 0)=true
 . rw[if_pos h]
   have I:k=0:=by
    rw[qt] at h;simp at h;omega
   subst I;rfl
 . rw[if_neg h];have e:((k:Int)+1).toNat=k+1:=by omega
   rw[e];show((List.replicate (k+1) #[97+z.toNat]).foldl (· ++ ·) #[]).toList=_;rw[foldl_rep];rfl
theorem GF (a b:Int){c:Int}(Y:0<=c)(h1:c<3):∃I J:List Nat,(Txt.slice (lt a++lt b) none (some c)).cps.toList=I/\(Txt.slice (lt a++lt b) (some c) none).cps.toList=J/\I++J=[97+a.toNat,97+b.toNat]:=by
 have U:(lt a++lt b)=⟨#[97+a.toNat,97+b.toNat]⟩:=rfl;rw[U];have:c=0\/c=1\/c=2:=by omega
 rcases this with rfl|rfl|rfl
 . refine⟨[],[97+a.toNat,97+b.toNat],rfl,?_,rfl⟩;have e:strSliceIndices (some 0) none 1 2=[0,1]:=by decide +kernel
   unfold Txt.slice;rw[show(⟨#[97+a.toNat,97+b.toNat]⟩:Str).length=2 from rfl,e];rfl
 . refine⟨[97+a.toNat],[97+b.toNat],rfl,?_,rfl⟩;have e:strSliceIndices (some 1) none 1 2=[1]:=by decide +kernel
   unfold Txt.slice;rw[show(⟨#[97+a.toNat,97+b.toNat]⟩:Str).length=2 from rfl,e];rfl
 . exact⟨[97+a.toNat,97+b.toNat],[],rfl,rfl,rfl⟩
theorem AH:("":Str).cps.toList=[]:=by decide +kernel
theorem GH {m:Int}{i:Nat}:nameAt m i≠"":=by
 intro e;unfold nameAt at e;by_cases h:m / 12168 % 4=0
 . rw[if_pos h] at e;have:=congrArg (λx:Str=>x.cps.toList) e;have this:(Txt.mul (lt (m / 6 % 26)) ((i:Int)+1)).cps.toList=("":Str).cps.toList:=this;rw[GD,AH] at this;rw[Q26] at this
   cases this
 . rw[if_neg h] at e;obtain⟨J,p2,U,Y,e3⟩:=GF (m / 6 % 26) (m / 156 % 26) (c:=m / 4056 % 3) (by omega) (by omega)
   have I:(Txt.slice (lt (m / 6 % 26)++lt (m / 156 % 26)) none (some (m / 4056 % 3))++lt ((m / 156+(i:Int) * (2 * (m % 6)+1)) % 26)++Txt.slice (lt (m / 6 % 26)++lt (m / 156 % 26)) (some (m / 4056 % 3)) none).cps.toList
    =J++[97+((m / 156+(i:Int) * (2 * (m % 6)+1)) % 26).toNat]++p2:=by
    rw[sQ,sQ,U,Y];rfl
   have aa:J.length+p2.length=2:=by
    have:=congrArg List.length e3;rw[Q0d] at this;exact this
   have:=congrArg (λx:Str=>x.cps.toList.length) e;have this:List.length _=List.length _:=this;rw[I,AH,Q0d,Q0d,Q1n] at this;have:J.length+1+p2.length=0:=this;omega
end Pb
namespace Pb
open L2
theorem boot_isinstance:bootBuiltins "isinstance"=some (.builtin "isinstance"):=by decide +kernel
theorem boot_sorted:bootBuiltins "sorted"=some (.builtin "sorted"):=by decide +kernel
theorem boot_all:bootBuiltins "all"=some (.builtin "all"):=by decide +kernel
theorem boot_int:bootBuiltins "int"=some (.type "int"):=by decide +kernel
theorem boot_bool:bootBuiltins "bool"=some (.type "bool"):=by decide +kernel
theorem boot_str:bootBuiltins "str"=some (.type "str"):=by decide +kernel
theorem boot_list:bootBuiltins "list"=some (.type "list"):=by decide +kernel
theorem boot_tuple:bootBuiltins "tuple"=some (.type "tuple"):=by decide +kernel
theorem boot_min:bootBuiltins "min"=some (.builtin "min"):=by decide +kernel
theorem boot_dict:bootBuiltins "dict"=some (.type "dict"):=by decide +kernel
structure Tb (mg:Str->Option Value):Prop where
 gM:mg "len"=none
 iu:mg "isinstance"=none
 oQ:mg "sorted"=none
 sR:mg "all"=none
 kU:mg "range"=none
 sS:mg "enumerate"=none
 AI:mg "zip"=none
 qw:mg "int"=none
 AJ:mg "bool"=none
 sT:mg "str"=none
 ma:mg "list"=none
 oR:mg "tuple"=none
 AK:mg "dict"=none
 GI:mg "min"=none
structure Dn (K:W.Frag) (mg:Str->Option Value) (x:Str) (ps:List Str) (st:Stmt) (f:Addr) (fd:FuncData):Prop where
 F:jO K x x st f fd
 b:Binds K fd ps []
 m:mg x=some (.ref f)
theorem eL {X:Cx}{k U:Nat}{f:Addr}{fd:FuncData}{ps:List Str}{sp:Sp}{x:Str}{p pos:Pos}{e:Expr}{es:List Expr}{t:TA}{st:Stmt}(F:en X.prog X.w X.K X.mg X.base eu k f fd ps sp)(Y:fY U X.A)(D:Dn X.K X.mg x ps st f fd)(ha:PA X (e::es) t)(hg:Gl X x:=by rfl)(I:(x == ("__debug__":Str))=false:=by decide)(he:starEach (e::es) X.env=(false,eval e X.env)::starEach es X.env:=by rfl)(J:(backTo pos (starEach es X.env)).any (·.1)=false:=by rfl)(hk:k<=U:=by first|decide|omega):PE X (.Call (.Name x p) (e::es) [] pos) (jg sp [] E0 t):=oj F (Y.mono hk) hg D.m D.F.kp D.b .nil jh ha I he J
theorem eN {X:Cx}(i:Nat){x:Str}{e:Expr}{te:TE}{pos I:Pos}(J:X.N.Nodup)(U:PE X e te)(hi:X.N[i]? =some x:=by rfl)(Y:Loc X.env.scope x:=by exact Or.inl rfl)(hs:swapsWith e (some (.Name x I)) pos.line X.env=pure false:=by rfl)(hf:X.fn x=true\/X.env.scope.names.lookup x=some .local:=by first|exact .inl rfl|exact .inr rfl|assumption):PS X (.Assign [.Name x I] e pos) (lH te (gS i)):=yV J hi Y U hs hf
theorem sU {X:Cx}(i:Nat){x:Str}{e:Expr}{te:TE}{pos I:Pos}(J:X.N.Nodup)(U:PE X e te)(hi:X.N[i]? =some x:=by rfl)(Y:Loc X.env.scope x:=by exact Or.inr rfl)(hs:swapsWith e (some (.Name x I)) pos.line X.env=pure false:=by rfl)(hf:X.fn x=true\/X.env.scope.names.lookup x=some .local:=by first|exact .inl rfl|exact .inr rfl|assumption):PS X (.Assign [.Name x I] e pos) (lH te (gS i)):=yV J hi Y U hs hf
theorem nu:0<=sizeLine:=by decide
theorem iN:1<=sizeLine:=by decide
theorem gh:2<=sizeLine:=by decide
theorem kW:3<=sizeLine:=by decide
theorem sV:4<=sizeLine:=by decide
theorem GJ:5<=sizeLine:=by decide
theorem GK:6<=sizeLine:=by decide
theorem eI {X:Cx}{a b:Expr}{ta tb:TE}{pos:Pos}(I:PE X a ta)(J:PE X b tb)(U:rP b:=by exact λ_ _=>rfl):PE X (.Subscript a b pos) (gT (i3 X.K) ta tb):=kI ER I J U
theorem gG {X:Cx}{a b:Expr}{ta tb:TE}{pos:Pos}(I:PE X a ta)(J:PE X b tb)(U:rP b:=by exact λ_ _=>rfl):PE X (.Subscript a b pos) (gT (zr X.K) ta tb):=kI EO I J U
theorem i5 {X:Cx}{own N:List Str}{scope sc:Scope}(I:X.env.scope=sc:=by rfl)(J:X.N=N:=by rfl)(k:scope.kind=.function:=by rfl)(c:r_ own N scope sc=true:=by decide +kernel):iQ X own scope:=iQ.of I J k c
theorem gc {α:Type}{a:α}{p:Prop}:a=a\/p:=Or.inl rfl
theorem fC {N P:List Str}{sc:Scope}(h:(sc.kind == .function && !sc.isCoroutine && !sc.isGenerator && decide N.Nodup && N.take P.length == P && P.all (λx=>sc.names.lookup x == some .local || sc.names.lookup x == some .cell) && sc.names.all (λy=>y.2 != .free))=true:=by decide +kernel):fv N P sc:=by
 simp only[Bool.and_eq_true,Q0z,Bool.or_eq_true,beq_iff_eq,bne_iff_ne,decide_eq_true_eq,Bool.not_eq_true',ne_eq] at h;obtain⟨⟨⟨⟨⟨⟨h1,h2⟩,I⟩,J⟩,U⟩,Y⟩,h7⟩:=h;exact⟨h1,h2,I,J,U,Y,h7⟩
abbrev fg:List Str:=XD
abbrev gZ:List Str:=XJ
abbrev iA:List Str:=["kind","value"]
abbrev iS:List Str:=XI
abbrev iT:List Str:=XU
abbrev i6:List Str:=Xb
abbrev i7:List Str:=XG
abbrev jl:List Str:=XO
abbrev jC:List Str:=Xh
abbrev kb:List Str:=Xc
abbrev ke:List Str:=Xa
abbrev kf:List Str:=["look","value"]
abbrev kg:List Str:=XY
abbrev kh:List Str:=["fields","name"]
abbrev km:List Str:=["kind","tree"]
abbrev kX:List Str:=XF
abbrev k5:List Str:=["look","kind"]
abbrev md:List Str:=["kind","row"]
abbrev me:List Str:=Xi
abbrev mf:List Str:=Xd
abbrev mi:List Str:=Xk
abbrev mj:List Str:=["value"]
abbrev ny:List Str:=["path","kind"]
abbrev oS:List Str:=["path","value"]
abbrev oU:List Str:=XV
abbrev oV:List Str:=Xe
abbrev oW:List Str:=["fields","value"]
abbrev oX:List Str:=Xm
abbrev qx:List Str:=XT
abbrev qy:List Str:=XR
abbrev qz:List Str:=Xn
abbrev qA:List Str:=Xo
abbrev qB:List Str:=["self","kind"]
abbrev qC:List Str:=XZ
abbrev qD:List Str:=["kind","seen"]
abbrev qE:List Str:=Xj
abbrev qF:List Str:=XS
abbrev qG:List Str:=XN
def iU (K:W.Frag) (H:Hp) (a:Addr) (ns:List Int):Prop:=
 (∃o,H a=some (.iE o (.lst (ns.map V.int))))\/
   ∃(o:Obj) (I:Array Value) (n:Nat),K.lookup a=some o/\o.cls=.type "list"/\o.dict=none/\o.data=.seq I n/\I.size<=sizeLine/\Vals (ns.map V.int) I.toList
theorem iU.sq {K:W.Frag}{H:Hp}{a:Addr}{ns:List Int}(h:iU K H a ns):eB K H a (ns.map V.int):=by
 rcases h with⟨o,h⟩|h
 . exact .inl (.inr ⟨o,h⟩)
 . exact .inr h
def SB (b:Addr) (H H':Hp):Prop:=∀c o,c≠b->H c=some o->H' c=some o
theorem SB.trans {b:Addr}{H H1 H2:Hp}(x:SB b H H1)(y:SB b H1 H2):SB b H H2:=λc o n h=>y c o n (x c o n h)
theorem SB.of {b:Addr}{H H':Hp}(s:Same H H'):SB b H H':=λc o _ h=>s c o h
theorem SB.wr {b:Addr}{H:Hp}{o:HO}:SB b H (upd H b o):=λc u n h=>by rw[eE n];exact h
theorem SB.new {b p:Addr}{H:Hp}{o:HO}(h:H p=none):SB b H (upd H p o):=λc u n q=>by rw[eE (eP q h)];exact q
structure G0 (K:W.Frag) (H:Hp) (a b:Addr) (ns:List Int) (n:Int):Prop where
 iB:iU K H a ns
 len:ns.length<=63
 at_:H b=some (.lst [.int n])
 pos:0<=n
theorem SB.iB {K:W.Frag}{b:Addr}{H H':Hp}{a:Addr}{ns:List Int}{n:Int}(x:SB b H H')(I:H b=some (.lst [.int n]))(h:iU K H a ns):iU K H' a ns:=by
 rcases h with⟨o,h⟩|h
 . exact .inl ⟨o,x a _ (gO h I (by intro z;cases z)) h⟩
 . exact .inr h
theorem SB.tu {b:Addr}{H H':Hp}{n:Int}(x:SB b H H')(I:H b=some (.lst [.int n])):Tu H H':=λc xs h=>x c _ (gO h I (by intro z;cases z)) h
theorem G0.go {K:W.Frag}{H H':Hp}{a b:Addr}{ns:List Int}{n n':Int}(g:G0 K H a b ns n)(x:SB b H H')(h:H' b=some (.lst [.int n']))(I:n<=n'):G0 K H' a b ns n':=
 ⟨x.iB g.at_ g.iB,g.len,h,by have:=g.pos;omega⟩
theorem Same.new {H:Hp}{p:Addr}{o:HO}(h:H p=none):Same H (upd H p o):=λc u q=>by rw[eE (eP q h)];exact q
theorem int_at {ns:List Int}{z:Int}(I:0<=z)(h1:z<ns.length):gv (ns.map V.int) z=some (.int (ns.getD z.toNat 0)):=by
 obtain⟨j,rfl⟩:∃j:Nat,z=(j:Int):=⟨z.toNat,by omega⟩;rw[Q2x];exact gz (by rw[Q0q,Q0e,Q03 (by omega)];rfl)
def ml (K:W.Frag):Sp:=λvs H Q _=>∃a b ns n,vs=[.ref a,.ref b]/\G0 K H a b ns n/\n<=1000000000000/\
 ∀(H':Hp),SB b H H'->H' b=some (.lst [.int (n+1)])->Q (.int (nx ns (n+1))) H'
def i8 (K:W.Frag):Sp:=λvs H Q _=>∃a b ns n,vs=[.ref a,.ref b]/\G0 K H a b ns n/\n<=1000000000000/\
 ∀(r:Int) (H':Hp),0<=r->r<1999999973->SB b H H'->H' b=some (.lst [.int (n+1)])->Q (.int r) H'
theorem nz {P:Program}{w:World}{K:W.Frag}{mg:Str->Option Value}{base:Heap}{CX:iI}{k:Nat}{f:Addr}{fd:FuncData}{ps:List Str}(F:en P w K mg base CX k f fd ps (ml K)):en P w K mg base CX k f fd ps (i8 K):=
 F.imp λvs H Q E ⟨a,b,ns,n,e,g,I,q⟩=>⟨a,b,ns,n,e,g,I,λH' J h1=>q _ H' (sI _ _) (sJ _ _) J h1⟩
def oY (K:W.Frag):Sp:=λvs H Q _=>∃a b ns n,vs=[.ref a,.ref b]/\G0 K H a b ns n/\n<=1000000000000/\
 ∀(v:V) (k:Kd) (H':Hp),SB b H H'->H' b=some (.lst [.int (n+1)])->KA H' v k->k.dep<=1->jR k->k.W->Q v H'
def qH (K:W.Frag):Sp:=λvs H Q _=>∃a b ns n,∃m:Nat,vs=[.ref a,.ref b,.int m]/\m<=12/\G0 K H a b ns n/\n<=1000000000000/\
 ∀(p:Addr) (ss:List Str) (H':Hp),SB b H H'->H' b=some (.lst [.int (n+1)])->p≠b->H' p=some (.lst (ss.map V.str))->ss.length=m->ss.Nodup->(∀x∈ss,x≠"")->Q (.ref p) H'
noncomputable def ck:Nat->Nat
 |0=>2
 |d+1=>3 * ck d+6
def mq (K:W.Frag) (d:Nat):Sp:=λvs H Q _=>∃a b ns n,vs=[.ref a,.ref b,.int d]/\G0 K H a b ns n/\n+ck d<=1000000000000/\
 ∀(v:V) (k:Kd) (n':Int) (H':Hp),SB b H H'->H' b=some (.lst [.int n'])->n<=n'->n'<=n+ck d->KA H' v k->k.dep<=d+1->k.W->Q v H'
def AM (K:W.Frag) (d:Nat):Sp:=λvs H Q _=>∃a b ns n,∃m:Nat,vs=[.ref a,.ref b,.int m,.int d]/\m<=3/\G0 K H a b ns n/\n+1+3 * ck d<=1000000000000/\
 ∀(t:Addr) (xs:List V) (fs:Fs) (n':Int) (H':Hp),SB b H H'->H' b=some (.lst [.int n'])->n<=n'->n'<=n+1+3 * ck d->H' t=some (.tup xs)->FA H' xs fs->fs.names.Nodup->fs.names.length=m->fs.dep<=d+1->fs.W->Q (.ref t) H'
def AN (K:W.Frag) (d:Nat):Sp:=λvs H Q _=>∃a b ns n,∃m:Nat,vs=[.ref a,.ref b,.int m,.int d]/\1<=m/\m<=3/\G0 K H a b ns n/\n+5+3 * ck d<=1000000000000/\
 ∀(v:V) (k:Kd) (n':Int) (H':Hp),SB b H H'->H' b=some (.lst [.int n'])->n<=n'->n'<=n+5+3 * ck d->KA H' v k->k.dep<=d+2->k.W->Q v H'
def qI (K:W.Frag) (d:Nat):Sp:=λvs H Q _=>∃a b ns n,∃m:Nat,vs=[.ref a,.ref b,.int m,.int d]/\1<=m/\m<=12/\G0 K H a b ns n/\n+2+(m:Int) * (ck d+1)<=1000000000000/\
 ∀(v:V) (key by_:Str) (fs:Fs) (n':Int) (H':Hp),SB b H H'->H' b=some (.lst [.int n'])->n<=n'->n'<=n+2+(m:Int) * (ck d+1)->KA H' v (.rows key by_ fs)->(Kd.rows key by_ fs).dep<=d+2->(Kd.rows key by_ fs).W->fs.names.length=m->Q v H'
def AO (K:W.Frag):Sp:=λvs H Q _=>∃a b ns n,vs=[.ref a,.ref b]/\G0 K H a b ns n/\n<=1000000000000/\
 ∀(H':Hp),SB b H H'->H' b=some (.lst [.int (n+1)])->Q (.int (num ns (n+1))) H'
def AQ (K:W.Frag):Sp:=λvs H Q _=>∃a b ns n,vs=[.ref a,.ref b]/\G0 K H a b ns n/\n<=1000000000000/\
 ∀(H':Hp),SB b H H'->H' b=some (.lst [.int (n+1)])->Q (.str (fy ns (n+1))) H'
variable {P:Program}{w:World}{K:W.Frag}{mg:Str->Option Value}{base:Heap}
theorem GL:fv ["_law_script","_law_at","_law_cell","_law_m"] XD (eS (top 33)):=fC
theorem mw (T:Tb mg)(I:Dn K mg "_law_next" fg (top 33) J U):en P w K mg base eu (1) J U fg (ml K):=by
 refine I.F.ok GL λvs H Q E h=>?_;obtain⟨a,b,ns,n,rfl,g,hn,q⟩:=h;refine⟨rfl,λaa A outer s nd hr hu=>?_⟩
 refine⟨_,(eh (pP (eG iH (gG (pv 1) b_) b_) (D0 (pv 1) b_ set_list))
  (eh (eN 2 nd b_)
  (eh (eO (eM jL (fM gY (by rfl) T.gM PySem.boot_len (a_ (pv 0) c_)) b_ (eK _)) (eA (eN 2 nd (gG (pv 0) (eG fA (gG (pv 1) b_) (fM gY (by rfl) T.gM PySem.boot_len (a_ (pv 0) c_)))))) eQ)
  (eh (eN 3 nd (eG fA (eG j4 (eG iH (eG iH (eG fA (pv 2) b_) (eG j4 (eG j4 (gG (pv 1) b_) (gG (pv 1) b_)) b_)) b_) b_) b_))
  (eA (eJ (eG fA (eG j4 (pv 3) (pv 3)) b_))))))),?_⟩
 ac_rfl
 have hb:=g.at_;have hp:=g.pos;have hS:eB K (upd H b (.lst [.int (n+1)])) a (ns.map V.int):=(SB.wr.iB hb g.iB).sq;have Y:upd H b (.lst [.int (n+1)]) b=some (.lst [.int (n+1)]):=eF;refine(Zr rfl ⟨b,_,_,Zr rfl ⟨rfl,eB.of hb,rfl,_,Zr rfl ⟨rfl,Zr rfl ⟨b,_,_,0,rfl,rfl,hb,rfl,?_⟩⟩⟩⟩);refine(Zr rfl ⟨a,Zr rfl ⟨.inl hS,_,Zr rfl ⟨rfl,Zr rfl ?_⟩⟩⟩);have hl:(ns.map V.int).length=ns.length:=Q04 _;refine fW (λc=>?_) (λc=>?_)
 . have c':(0:Int)<((ns.map V.int).length:Nat):=of_decide_eq_true c;rw[hl] at c';have i0:=Q0g (n+1) (show(ns.length:Int)≠0 by omega);have i1:=Q0i (n+1) c'
   have hz:gv (ns.map V.int) ((n+1) % (((ns.map V.int).length:Nat):Int))=some (.int (cellAt ns (n+1))):=by
    rw[hl,int_at i0 i1];unfold cellAt;rw[if_pos (by omega)]
   refine(Zr rfl (Zr rfl ⟨b,_,_,Zr rfl ⟨rfl,eB.of Y,rfl,Zr rfl ⟨a,Zr rfl ⟨.inl hS,_,Zr rfl ⟨rfl,by rw[hl];exact c',a,_,_,Zr rfl ⟨rfl,hS,hz,?_⟩⟩⟩⟩⟩⟩))
   refine(Zr rfl ⟨_,Zr rfl ⟨rfl,(by show(0:Int)<_;decide),Zr rfl ⟨b,_,_,Zr rfl ⟨rfl,eB.of Y,rfl,Zr rfl ⟨b,_,_,Zr rfl ⟨rfl,eB.of Y,rfl,_,Zr rfl ⟨rfl,.inl ⟨by omega,by omega⟩,_,Zr rfl ⟨rfl,.inr ⟨by decide,by decide⟩,
    _,Zr rfl ⟨rfl,_,Zr rfl ⟨rfl,_,Zr rfl ⟨rfl,.inr ⟨by decide,by decide⟩,_,Zr rfl ⟨rfl,(by show(0:Int)<_;decide),?_⟩⟩⟩⟩⟩⟩⟩⟩⟩⟩⟩⟩)
   refine(Zr rfl (Zr rfl ⟨_,Zr rfl ⟨rfl,.inl ⟨?_,?_⟩,_,Zr rfl ⟨rfl,(by show(0:Int)<_;decide),q _ SB.wr Y⟩⟩⟩))
   . exact Q2y (by decide) (Q0g _ (by decide))
   . exact Int.lt_trans (Q0i _ (by decide)) (by decide)
 . have c':¬(0:Int)<((ns.map V.int).length:Nat):=λz=>c (decide_eq_true z);rw[hl] at c'
   have hz:cellAt ns (n+1)=0:=by
    unfold cellAt;rw[if_neg (by omega)]
   have q':Q (.int (((0:Int) % 2147483647+(n+1) * (n+1) * 7919+11) * 48271 % 2147483647 * (((0:Int) % 2147483647+(n+1) * (n+1) * 7919+11) * 48271 % 2147483647) % 1999999973)) (upd H b (.lst [.int (n+1)])):=by
    have:=q _ SB.wr Y;unfold nx at this;rw[hz] at this;exact this
   refine(Zr rfl ⟨_,Zr rfl ⟨rfl,(by show(0:Int)<_;decide),Zr rfl ⟨b,_,_,Zr rfl ⟨rfl,eB.of Y,rfl,Zr rfl ⟨b,_,_,Zr rfl ⟨rfl,eB.of Y,rfl,_,Zr rfl ⟨rfl,.inl ⟨by omega,by omega⟩,_,Zr rfl ⟨rfl,.inr ⟨by decide,by decide⟩,
    _,Zr rfl ⟨rfl,_,Zr rfl ⟨rfl,_,Zr rfl ⟨rfl,.inr ⟨by decide,by decide⟩,_,Zr rfl ⟨rfl,(by show(0:Int)<_;decide),?_⟩⟩⟩⟩⟩⟩⟩⟩⟩⟩⟩⟩)
   refine(Zr rfl (Zr rfl ⟨_,Zr rfl ⟨rfl,.inl ⟨?_,?_⟩,_,Zr rfl ⟨rfl,(by show(0:Int)<_;decide),q'⟩⟩⟩))
   . exact Q2y (by decide) (Q0g _ (by decide))
   . exact Int.lt_trans (Q0i _ (by decide)) (by decide)
theorem GN:fv XD XD (eS (top 37)):=fC
theorem sW (T:Tb mg)(I:Dn K mg "_law_plain" fg (top 37) J U)(Y:Dn K mg "_law_next" fg (top 33) aa ab)(ac:en P w K mg base eu (1) aa ab fg (i8 K)):en P w K mg base eu (2) J U fg (oY K):=by
 refine I.F.ok GN λvs H Q E h=>?_;obtain⟨a,b,ns,n,rfl,g,hn,q⟩:=h;refine⟨rfl,λaf A outer s nd hr hu=>?_⟩
 refine⟨_,(eh (eO (eM fc (eG fA (eL ac hr Y (a_ (pv 0) (a_ (pv 1) c_))) b_) b_ (eK _)) (eA (eJ (gd (a_ eY c_)))) eQ)
  (eA (eJ (gd (a_ eY c_))))),?_⟩
 ac_rfl
 refine(Zr rfl (Zr rfl ⟨a,b,ns,n,rfl,g,hn,λr H1 r0 r1 s1 h1=>?_⟩));refine⟨_,Zr rfl ⟨rfl,(by show(0:Int)<_;decide),rfl,Zr rfl ?_⟩⟩
 have fin:∀(x:Str) (k:Kd),(∀(p:Addr) (H2:Hp),H2 p=some (.tup [.str x])->KA H2 (.ref p) k)->k.dep<=1->jR k->k.W->∀p,H1 p=none->Q (.ref p) (upd H1 p (.tup [.str x])):=λx k hk hd hp hw p ae=>
  q _ k _ (s1.trans (SB.new ae)) (by rw[eE (eP h1 ae)];exact h1) (hk p _ eF) hd hp hw
 refine fW (λc=>?_) (λc=>?_)
 . exact⟨iN,λp hp=>fin _ .num (λp H2 e=>by unfold KA;exact⟨p,rfl,e⟩) (Q00 _) trivial (by unfold Kd.W;trivial) p hp⟩
 . exact⟨iN,λp hp=>fin _ .fy (λp H2 e=>by unfold KA;exact⟨p,rfl,e⟩) (Q00 _) trivial (by unfold Kd.W;trivial) p hp⟩
theorem GO:fv ["_law_script","_law_at","_law_m","_law_cell"] XD (eS (top 34)):=fC
theorem GP (T:Tb mg)(I:Dn K mg "_law_number" fg (top 34) J U)(Y:Dn K mg "_law_next" fg (top 33) aa ab)(ac:en P w K mg base eu (1) aa ab fg (ml K)):en P w K mg base eu (2) J U fg (AO K):=by
 refine I.F.ok GO λvs H Q E h=>?_;obtain⟨a,b,ns,n,rfl,g,hn,q⟩:=h;refine⟨rfl,λaf A outer s nd hr hu=>?_⟩
 refine⟨_,(eh (eN 2 nd (eL ac hr Y (a_ (pv 0) (a_ (pv 1) c_))))
  (eh (eN 3 nd b_)
  (eh (eO (eM jL (fM gY (by rfl) T.gM PySem.boot_len (a_ (pv 0) c_)) b_ (eK _)) (eA (eN 3 nd (gG (pv 0) (eG fA (gG (pv 1) b_) (fM gY (by rfl) T.gM PySem.boot_len (a_ (pv 0) c_)))))) eQ)
  (eh (eO (eM fc (eG fA (pv 2) b_) b_ (eK _)) (eA (eJ (eG jK (eG fA (eG gC (pv 2) b_) b_) b_))) eQ)
  (eA (eJ (eG jK (eG fA (eG iH (eG fA (pv 3) (eG pT b_ b_)) (eG j4 (pv 2) (eG pT b_ b_))) (eG j4 b_ (eG pT b_ b_))) (eG pT b_ b_)))))))),?_⟩
 ac_rfl
 refine(Zr rfl (Zr rfl ⟨a,b,ns,n,rfl,g,hn,λH1 s1 h1=>?_⟩));have g1:=g.go s1 h1 (by omega);have hS:=g1.iB.sq;have r0:=sI ns (n+1);have r1:=sJ ns (n+1);have hl:(ns.map V.int).length=ns.length:=Q04 _;have hq:∀e,num ns (n+1)=e->Q (.int e) H1:=λe he=>by rw[<-he];exact q _ s1 h1
 unfold num at hq;refine(Zr rfl ⟨a,Zr rfl ⟨.inl hS,_,Zr rfl ⟨rfl,Zr rfl ?_⟩⟩⟩);have pw:rG 10 40:=⟨by decide,by decide,by decide⟩;have ae:rG 10 29:=⟨by decide,by decide,by decide⟩;refine fW (λc=>?_) (λc=>?_)
 . have c':(0:Int)<((ns.map V.int).length:Nat):=of_decide_eq_true c;rw[hl] at c';have i0:=Q0g (n+1) (show(ns.length:Int)≠0 by omega);have i1:=Q0i (n+1) c'
   have hz:gv (ns.map V.int) ((n+1) % (((ns.map V.int).length:Nat):Int))=some (.int (cellAt ns (n+1))):=by
    rw[hl,int_at i0 i1];unfold cellAt;rw[if_pos (by omega)]
   refine(Zr rfl (Zr rfl ⟨b,_,_,Zr rfl ⟨rfl,eB.of h1,rfl,Zr rfl ⟨a,Zr rfl ⟨.inl hS,_,Zr rfl ⟨rfl,by rw[hl];exact c',a,_,_,Zr rfl ⟨rfl,hS,hz,?_⟩⟩⟩⟩⟩⟩));refine(Zr rfl ⟨_,Zr rfl ⟨rfl,(by show(0:Int)<_;decide),rfl,Zr rfl (fW (λc2=>?_) (λc2=>?_))⟩⟩)
   . have c3:nx ns (n+1) % 3=0:=by
      have:=of_decide_eq_true c2;injection this
     refine(Zr rfl ⟨_,Zr rfl ⟨rfl,⟨by decide,by decide⟩,_,Zr rfl ⟨rfl,(by show(0:Int)<_;decide),_,Zr rfl ⟨rfl,hq _ (by rw[if_pos c3])⟩⟩⟩⟩)
   . have c3:¬nx ns (n+1) % 3=0:=λz=>c2 (decide_eq_true (show V.int (nx ns (n+1) % 3)=V.int 0 by rw[z]));refine(Zr rfl ⟨_,Zr rfl ⟨rfl,pw,_,Zr rfl ⟨rfl,(by show(0:Int)<_;decide),Zr rfl ⟨_,Zr rfl ⟨rfl,ae,_,Zr rfl ⟨rfl,.inl ⟨by omega,by omega⟩,_,Zr rfl ⟨rfl,_,Zr rfl ⟨rfl,pw,_,Zr rfl ⟨rfl,.inl ⟨by decide,by decide⟩,_,Zr rfl ⟨rfl,(by show(0:Int)<_;decide),_,Zr rfl ⟨rfl,pw,_,Zr rfl ⟨rfl,hq _ (by rw[if_neg c3];rfl)⟩⟩⟩⟩⟩⟩⟩⟩⟩⟩⟩⟩)
 . have c':¬(0:Int)<((ns.map V.int).length:Nat):=λz=>c (decide_eq_true z);rw[hl] at c'
   have hz:cellAt ns (n+1)=0:=by
    unfold cellAt;rw[if_neg (by omega)]
   refine(Zr rfl ⟨_,Zr rfl ⟨rfl,(by show(0:Int)<_;decide),rfl,Zr rfl (fW (λc2=>?_) (λc2=>?_))⟩⟩)
   . have c3:nx ns (n+1) % 3=0:=by
      have:=of_decide_eq_true c2;injection this
     refine(Zr rfl ⟨_,Zr rfl ⟨rfl,⟨by decide,by decide⟩,_,Zr rfl ⟨rfl,(by show(0:Int)<_;decide),_,Zr rfl ⟨rfl,hq _ (by rw[if_pos c3])⟩⟩⟩⟩)
   . have c3:¬nx ns (n+1) % 3=0:=λz=>c2 (decide_eq_true (show V.int (nx ns (n+1) % 3)=V.int 0 by rw[z]));refine(Zr rfl ⟨_,Zr rfl ⟨rfl,pw,_,Zr rfl ⟨rfl,(by show(0:Int)<_;decide),Zr rfl ⟨_,Zr rfl ⟨rfl,ae,_,Zr rfl ⟨rfl,.inl ⟨by omega,by omega⟩,_,Zr rfl ⟨rfl,_,Zr rfl ⟨rfl,pw,_,Zr rfl ⟨rfl,.inl ⟨by decide,by decide⟩,_,Zr rfl ⟨rfl,(by show(0:Int)<_;decide),_,Zr rfl ⟨rfl,pw,_,Zr rfl ⟨rfl,hq _ (by rw[if_neg c3,hz];rfl)⟩⟩⟩⟩⟩⟩⟩⟩⟩⟩⟩⟩)
theorem nA:jk.length=93:=by decide +kernel
theorem AR {z:Int}(I:0<=z)(h1:z<93):gv jk.cps.toList z=some (jk.cps.toList.getD z.toNat 0):=by
 have hl:jk.cps.toList.length=93:=by
  have:=nA;rw[Q1i];exact this
 unfold gv jx;rw[hl,if_pos I,if_pos (show z<((93:Nat):Int) by omega)];show jk.cps.toList[z.toNat]? =_;rw[Q0e,Q03 (by omega)];rfl
theorem qJ (m:Int):∀k,(nh m k).length=k
 |0=>rfl
 |k+1=>by
  show(nh m k++_).length=_;rw[AG,qJ m k];rfl
noncomputable def σW (a b:Addr) (m:Int) (k:Int) (w:Str) (y z:Option V):St:=[some (.ref a),some (.ref b),some (.str jk),some (.int m),some (.int k),some (.str w),y,z]
theorem GQ:fv ["_law_script","_law_at","_law_signs","_law_m","_law_many","_law_word_here","_law_k","_law_place"] XD (eS (top 35)):=fC
theorem GS (T:Tb mg)(I:Dn K mg "_law_word" fg (top 35) J U)(Y:Dn K mg "_law_next" fg (top 33) aa ab)(ac:en P w K mg base eu (1) aa ab fg (ml K)):en P w K mg base eu (2) J U fg (AQ K):=by
 refine I.F.ok GQ λvs H Q E h=>?_;obtain⟨a,b,ns,n,rfl,g,hn,q⟩:=h;refine⟨rfl,λaf A outer s nd hr hu=>?_⟩
 refine⟨_,(eh (eN 2 nd eY)
  (eh (eN 2 nd (eG lM (pv 2) eY))
  (eh (eN 3 nd (eL ac hr Y (a_ (pv 0) (a_ (pv 1) c_))))
  (eh (eN 4 nd (eG fA (pv 3) b_))
  (eh (eO (eM fc (eG fA (eG gC (pv 3) b_) b_) b_ (eK _)) (eA (eN 4 nd b_)) eQ)
  (eh (eN 5 nd eY)
  (eh (hX PassesOwn.never rfl (ky rfl T.kU (a_ (pv 4) c_)) (fL (i:=6) nd rfl gc) (eh (eN 7 nd (eG iH (eG gC (pv 3) b_) (eG j4 (eG j4 (pv 6) (pv 6)) (eG fA (eG gC (pv 3) b_) b_))))
  (eA (eN 5 nd (eG lM (pv 5) (kI mZ (pv 2) (eG fA (pv 7) (fM zw (by rfl) T.gM PySem.boot_len (a_ (pv 2) c_))) (λ_ _=>rfl)))))))
  (eA (eJ (pv 5)))))))))),?_⟩
 ac_rfl
 have ae:(jk).length<=sizeLine:=by rw[nA];decide
 refine(Zr rfl ⟨_,Zr rfl ⟨rfl,ae,?_⟩⟩);refine(Zr rfl (Zr rfl ⟨a,b,ns,n,rfl,g,hn,λH1 s1 h1=>?_⟩));have r0:=sI ns (n+1);have r1:=sJ ns (n+1);have hq:∀e,fy ns (n+1)=e->Q (.str e) H1:=λe he=>by rw[<-he];exact q _ s1 h1
 unfold fy at hq;generalize nx ns (n+1)=m at *;refine(Zr rfl ⟨_,Zr rfl ⟨rfl,(by show(0:Int)<_;decide),?_⟩⟩);refine(Zr rfl ⟨_,Zr rfl ⟨rfl,⟨by decide,by decide⟩,_,Zr rfl ⟨rfl,(by show(0:Int)<_;decide),rfl,Zr rfl (fW (λc=>?_) (λc=>?_))⟩⟩⟩)
 . have c3:m / 5 % 29=0:=by
    have:=of_decide_eq_true c;injection this
   rw[if_pos c3] at hq;refine(Zr rfl (Zr rfl ⟨by decide,by decide,kE (n:=Int.toNat 40) (λi σ H'=>∃y z,σ=σW a b m 40 (nh m i) y z/\H'=H1) ⟨_,Zr rfl rfl⟩ ?_ ?_⟩))
   . rintro i σ H' hi ⟨y,z,rfl,rfl⟩;have hi:i<40:=hi;have e0:(0:Int)+(i:Int)=(i:Int):=by omega
     have l3:0<=(m / 145+((0:Int)+(i:Int)) * ((0:Int)+(i:Int)) * (m / 7 % 3)) % 93/\(m / 145+((0:Int)+(i:Int)) * ((0:Int)+(i:Int)) * (m / 7 % 3)) % 93<93:=⟨Q0g _ (by decide),Q0i _ (by decide)⟩;refine(Zr rfl ⟨_,Zr rfl ⟨rfl,⟨by decide,by decide⟩,Zr rfl (Zr rfl ⟨_,Zr rfl ⟨rfl,.inl ⟨by omega,by omega⟩,Zr rfl ⟨_,Zr rfl ⟨rfl,⟨by decide,by decide⟩,_,Zr rfl ⟨rfl,(by show(0:Int)<_;decide),_,Zr rfl ⟨rfl,.inr ⟨by omega,by omega⟩,_,Zr rfl ⟨rfl,?_⟩⟩⟩⟩⟩⟩⟩)⟩⟩);refine(Zr rfl (Zr rfl (Zr rfl (Zr rfl (Zr rfl ⟨ae,_,Zr rfl ⟨rfl,(by show(0:Int)<((jk.length:Nat):Int);rw[nA];decide),jk,_,Zr rfl ⟨rfl,ae,(by rw[nA];exact AR l3.1 l3.2),_,Zr rfl ⟨rfl,?_,?_⟩⟩⟩⟩)))))
     . rw[qJ];show i+1<=sizeLine;exact Q0k (gE (by omega))
     . rw[e0];exact⟨_,Zr rfl rfl⟩
   . rintro σ H' ⟨y,z,rfl,rfl⟩;exact(Zr rfl (hq _ rfl))
 . have c3:¬m / 5 % 29=0:=λz=>c (decide_eq_true (show V.int (m / 5 % 29)=V.int 0 by rw[z]));rw[if_neg c3] at hq;have h5:0<=m % 5/\m % 5<5:=by omega
   refine(Zr rfl (Zr rfl ⟨by omega,by omega,kE (n:=Int.toNat (m % 5)) (λi σ H'=>∃y z,σ=σW a b m (m % 5) (nh m i) y z/\H'=H1) ⟨_,Zr rfl rfl⟩ ?_ ?_⟩))
   . rintro i σ H' hi ⟨y,z,rfl,rfl⟩;have hi:i<40:=by omega
     have e0:(0:Int)+(i:Int)=(i:Int):=by omega
     have l3:0<=(m / 145+((0:Int)+(i:Int)) * ((0:Int)+(i:Int)) * (m / 7 % 3)) % 93/\(m / 145+((0:Int)+(i:Int)) * ((0:Int)+(i:Int)) * (m / 7 % 3)) % 93<93:=⟨Q0g _ (by decide),Q0i _ (by decide)⟩;refine(Zr rfl ⟨_,Zr rfl ⟨rfl,⟨by decide,by decide⟩,Zr rfl (Zr rfl ⟨_,Zr rfl ⟨rfl,.inl ⟨by omega,by omega⟩,Zr rfl ⟨_,Zr rfl ⟨rfl,⟨by decide,by decide⟩,_,Zr rfl ⟨rfl,(by show(0:Int)<_;decide),_,Zr rfl ⟨rfl,.inr ⟨by omega,by omega⟩,_,Zr rfl ⟨rfl,?_⟩⟩⟩⟩⟩⟩⟩)⟩⟩);refine(Zr rfl (Zr rfl (Zr rfl (Zr rfl (Zr rfl ⟨ae,_,Zr rfl ⟨rfl,(by show(0:Int)<((jk.length:Nat):Int);rw[nA];decide),jk,_,Zr rfl ⟨rfl,ae,(by rw[nA];exact AR l3.1 l3.2),_,Zr rfl ⟨rfl,?_,?_⟩⟩⟩⟩)))))
     . rw[qJ];show i+1<=sizeLine;exact Q0k (gE (by omega))
     . rw[e0];exact⟨_,Zr rfl rfl⟩
   . rintro σ H' ⟨y,z,rfl,rfl⟩;exact(Zr rfl (hq _ rfl))
theorem GU (n:Nat)(h:n<=1000):Builtin.Str.tooLong n=false:=by
 have:n<=sizeLine:=Q0k (gE h);unfold Builtin.Str.tooLong;exact decide_eq_false (by omega)
theorem GV (f:Nat->Str)(i:Nat):((List.range (i+1)).map f).map V.str=((List.range i).map f).map V.str++[V.str (f i)]:=by
 rw[List.range_succ,Q0j,Q0j];rfl
noncomputable abbrev abc:Str:="abcdefghijklmnopqrstuvwxyz"
noncomputable abbrev stemOf (r:Int):Str:=lt (r / 6 % 26)++lt (r / 156 % 26)
noncomputable def σN (a b:Addr) (m:Nat) (r:Int) (p:Addr) (y z:Option V):St:=
 [some (.ref a),some (.ref b),some (.int m),some (.str abc),some (.int r),some (.int (2 * (r % 6)+1)),some (.str (stemOf r)),some (.int (r / 4056 % 3)),some (.ref p),y,z]
theorem GW:fv ["_law_script","_law_at","_law_many","_law_letters","_law_m","_law_step","_law_stem","_law_cut","_law_names_here","_law_k","_law_sign"] Xc (eS (top 36)):=fC
theorem AU (T:Tb mg)(I:Dn K mg "_law_names" kb (top 36) J U)(Y:Dn K mg "_law_next" fg (top 33) aa ab)(ac:en P w K mg base eu (1) aa ab fg (i8 K)):en P w K mg base eu (2) J U kb (qH K):=by
 refine I.F.ok GW λvs H Q E h=>?_;obtain⟨a,b,ns,n,m,rfl,hm,g,hn,q⟩:=h;refine⟨rfl,λam A outer s nd hr hu=>?_⟩
 refine⟨_,(eh (eN 3 nd eY)
  (eh (eN 4 nd (eL ac hr Y (a_ (pv 0) (a_ (pv 1) c_))))
  (eh (eN 5 nd (gG (gi (a_ b_ (a_ b_ (a_ b_ (a_ b_ (a_ b_ (a_ b_ c_))))))) (eG fA (pv 4) b_)))
  (eh (eN 6 nd (eG lM (kI mZ (pv 3) (eG fA (eG gC (pv 4) b_) b_) (λ_ _=>rfl)) (kI mZ (pv 3) (eG fA (eG gC (pv 4) b_) b_) (λ_ _=>rfl))))
  (eh (eN 7 nd (eG fA (eG gC (pv 4) b_) b_))
  (eh (eN 8 nd (gi c_))
  (eh (hX PassesOwn.never rfl (ky rfl T.kU (a_ (pv 2) c_)) (fL (i:=9) nd rfl gc) (eA (eO (eM fc (eG fA (eG gC (pv 4) b_) b_) b_ (eK _)) (eA (j1 (lV PySem.F.plainAttrs_list PySem.F.slot_list_append PySem.F.type_list_append lW (pv 8) (a_ (eG FI (kI mZ (pv 3) (eG fA (eG gC (pv 4) b_) b_) (λ_ _=>rfl)) (eG iH (pv 9) b_)) c_)))) (eh (eN 10 nd (kI mZ (pv 3) (eG fA (eG iH (eG gC (pv 4) b_) (eG j4 (pv 9) (pv 5))) b_) (λ_ _=>rfl)))
  (eA (j1 (lV PySem.F.plainAttrs_list PySem.F.slot_list_append PySem.F.type_list_append lW (pv 8) (a_ (eG lM (eG lM (ot p6 (pv 6) oo (oq (pv 7))) (pv 10)) (ot p6 (pv 6) (oq (pv 7)) oo)) c_))))))))
  (eA (eJ (fM FD (by rfl) T.oQ boot_sorted (a_ (pv 8) c_))))))))))),?_⟩
 ac_rfl
 refine(Zr rfl (Zr rfl ⟨a,b,ns,n,rfl,g,hn,λr H1 r0 r1 s1 h1=>?_⟩));have hz:(abc).length<=sizeLine:=by decide +kernel
 have m6:0<=r % 6/\r % 6<6:=by omega
 have l1:0<=r / 6 % 26/\r / 6 % 26<26:=by omega
 have l2:0<=r / 156 % 26/\r / 156 % 26<26:=by omega
 refine⟨GK,λp1 aj=>?_⟩;refine(Zr rfl ⟨_,Zr rfl ⟨rfl,(by show(0:Int)<_;decide),p1,_,_,Zr rfl ⟨rfl,eB.of eF,Gx m6.1 m6.2,?_⟩⟩⟩);have s2:SB b H (upd H1 p1 (.lst [.int 1,.int 3,.int 5,.int 7,.int 9,.int 11])):=s1.trans (SB.new aj);have h2:upd H1 p1 (.lst [.int 1,.int 3,.int 5,.int 7,.int 9,.int 11]) b=some (.lst [.int (n+1)]):=by rw[eE (eP h1 aj)];exact h1
 generalize upd H1 p1 (.lst [.int 1,.int 3,.int 5,.int 7,.int 9,.int 11])=H2 at s2 h2
 refine(Zr rfl (Zr rfl ⟨_,Zr rfl ⟨rfl,⟨by decide,by decide⟩,_,Zr rfl ⟨rfl,(by show(0:Int)<_;decide),_,_,Zr rfl ⟨rfl,hz,qu l1.1 l1.2,Zr rfl (Zr rfl ⟨_,Zr rfl ⟨rfl,⟨by decide,by decide⟩,_,Zr rfl ⟨rfl,(by show(0:Int)<_;decide),_,_,Zr rfl ⟨rfl,hz,qu l2.1 l2.2,
  _,Zr rfl ⟨rfl,gh,?_⟩⟩⟩⟩⟩)⟩⟩⟩⟩))
 refine(Zr rfl ⟨_,Zr rfl ⟨rfl,⟨by decide,by decide⟩,_,Zr rfl ⟨rfl,(by show(0:Int)<_;decide),?_⟩⟩⟩);refine⟨nu,λp hp=>?_⟩;have ak:p≠b:=λz=>by rw[z,h2] at hp;cases hp
 have em:Int.toNat (m:Int)=m:=by omega
 refine(Zr rfl (Zr rfl ⟨by omega,by omega,kE (n:=Int.toNat (m:Int)) (λi σ H'=>∃y z,σ=σN a b m r p y z/\SB b H H'/\H' b=some (.lst [.int (n+1)])/\H' p=some (.lst (((List.range i).map (nameAt r)).map V.str))) ?_ ?_ ?_⟩))
 . exact⟨_,Zr rfl ⟨s2.trans (SB.new hp),by rw[eE (eP h2 hp)];exact h2,eF⟩⟩
 . intro i σ H' hi zq;obtain⟨y,z,rfl,sb,ah,af⟩:=zq;rw[em] at hi
   have ae:(((List.range i).map (nameAt r)).map V.str).length<sizeLine:=by
    rw[Q04,Q04,Q21];exact gE (by omega)
   have next:∀(v:Str) (y' z':Option V),v=nameAt r i->∃y z,σN a b m r p y' z'=σN a b m r p y z/\SB b H (upd H' p (.lst (((List.range i).map (nameAt r)).map V.str++[V.str v])))/\
    upd H' p (.lst (((List.range i).map (nameAt r)).map V.str++[V.str v])) b=some (.lst [.int (n+1)])/\upd H' p (.lst (((List.range i).map (nameAt r)).map V.str++[V.str v])) p=some (.lst (((List.range (i+1)).map (nameAt r)).map V.str)):=by
    rintro v y' z' rfl;refine⟨y',z',rfl,λc o hc hh=>?_,by rw[eE (Ne.symm ak)];exact ah,by rw[eF,GV]⟩;by_cases e:c=p
    . subst e;have:=s2 c o hc hh;rw[hp] at this;cases this
    . rw[eE e];exact sb c o hc hh
   have e0:(0:Int)+(i:Int)=(i:Int):=by omega
   refine(Zr rfl ⟨_,Zr rfl ⟨rfl,⟨by decide,by decide⟩,_,Zr rfl ⟨rfl,(by show(0:Int)<_;decide),rfl,Zr rfl ?_⟩⟩⟩);refine fW (λc=>?_) (λc=>?_)
   . have c':r / 12168 % 4=0:=by
      have:=of_decide_eq_true c;injection this
     refine(Zr rfl ⟨.inl ⟨rfl,_,eB.of af⟩,Zr rfl (Zr rfl ⟨_,Zr rfl ⟨rfl,⟨by decide,by decide⟩,_,Zr rfl ⟨rfl,(by show(0:Int)<_;decide),_,_,Zr rfl ⟨rfl,hz,qu l1.1 l1.2,Zr rfl ⟨_,Zr rfl ⟨rfl,_,Zr rfl ⟨rfl,?_,p,_,Zr rfl ⟨rfl,af,ae,?_⟩⟩⟩⟩⟩⟩⟩⟩)⟩)
     . rw[e0];exact GC (qt _) (by omega) GU
     . refine next _ _ _ ?_;rw[e0];unfold nameAt;rw[if_pos c'];rfl
   . have c':¬r / 12168 % 4=0:=λz=>c (decide_eq_true (show V.int (r / 12168 % 4)=V.int 0 by rw[z]));have l3:0<=(r / 156+((0:Int)+(i:Int)) * (2 * (r % 6)+1)) % 26/\(r / 156+((0:Int)+(i:Int)) * (2 * (r % 6)+1)) % 26<26:=⟨Q0g _ (by decide),Q0i _ (by decide)⟩;have ls:(stemOf r).length<=sizeLine:=gh;refine(Zr rfl (Zr rfl ⟨_,Zr rfl ⟨rfl,⟨by decide,by decide⟩,Zr rfl (Zr rfl ⟨_,Zr rfl ⟨rfl,.inl ⟨by omega,by omega⟩,_,Zr rfl ⟨rfl,_,Zr rfl ⟨rfl,(by show(0:Int)<_;decide),_,_,Zr rfl ⟨rfl,hz,qu l3.1 l3.2,?_⟩⟩⟩⟩⟩)⟩⟩));have k1:=Txt.slice_le (stemOf r) none (some (r / 4056 % 3));have k2:=Txt.slice_le (stemOf r) (some (r / 4056 % 3)) none;have k0:(stemOf r).length=2:=rfl;rw[k0] at k1 k2;refine(Zr rfl ⟨.inl ⟨rfl,_,eB.of af⟩,Zr rfl (Zr rfl (Zr rfl (Zr rfl ⟨ls,Zr rfl ⟨_,Zr rfl ⟨rfl,?_,Zr rfl (Zr rfl (Zr rfl (Zr rfl ⟨ls,_,Zr rfl ⟨rfl,?_,p,_,Zr rfl ⟨rfl,af,ae,?_⟩⟩⟩)))⟩⟩⟩)))⟩)
     . show _+1<=sizeLine;exact Q0f (Q2z k1 1) (by decide)
     . rw[AG];show _+1+_<=sizeLine;exact Q0f (Nat.add_le_add (Q2z k1 1) k2) (by decide)
     . refine next _ _ _ ?_;rw[e0];unfold nameAt;rw[if_neg c'];rfl
 . intro σ H' zq;obtain⟨y,z,rfl,sb,ah,af⟩:=zq;rw[em] at af;have ae:((List.range m).map (nameAt r)).length=m:=by rw[Q04,Q21]
   refine(Zr rfl ⟨p,Zr rfl ⟨eB.of af,by rw[ae];omega,λp' al ai ag _=>?_⟩⟩);refine q p' al _ (sb.trans (SB.new ai)) (by rw[eE (eP ah ai)];exact ah) (λz=>by rw[z,ah] at ai;cases ai) eF (ag.length_eq.trans ae) ?_ ?_
   . exact ag.nodup_iff.mpr (names_nodup r0 hm)
   . intro x hx;obtain⟨i,hi,rfl⟩:=List.mem_map.mp (ag.mem_iff.mp hx);exact GH
theorem GX:fv Xg XI (eS (top 38)):=fC
theorem GY (d:Nat)(T:Tb mg)(I:Dn K mg "_law_fields" iS (top 38) J U)(Y:Dn K mg "_law_names" kb (top 36) aa ab)(ac:en P w K mg base eu (2) aa ab kb (qH K))(ae:Dn K mg "_law_kind" i6 (top 40) af ag)(ah:en P w K mg base eu (2 * d+4) af ag i6 (mq K d)):en P w K mg base eu (2 * d+5) J U iS (AM K d):=by
 refine I.F.ok GX λvs H Q E h=>?_;obtain⟨a,b,ns,n,m,rfl,hm,g,hn,q⟩:=h;refine⟨rfl,λaD A outer s nd hr hu=>?_⟩
 refine⟨_,(eh (eN 4 nd (eL ac hr Y (a_ (pv 0) (a_ (pv 1) (a_ (pv 2) c_)))))
  (eA (eJ (mW zy (by rfl) T.oR boot_tuple (a_ (kL (g:=(gS 0)) (tt:=kK) (te:=(rL (gy (fT 0) (gy (jg _ _ _ (gy (fT 1) (gy (fT 2) (gy (fT 4) iz)))) iz)))) (own:=["_law_name"]) rfl (i5 (N:=Xg) (sc:=eS (top 38))) (j3 (pv 4)) (λ_ _ _ _ _=>(fL (i:=0) (show(["_law_name","_law_script","_law_at","_law_many","_law_deep","_law_names_here"]:List Str).Nodup by decide +kernel) rfl (Or.inl rfl) (.inr rfl))) (λ_ _ _ _ _=>m8) (λ_ _ _ _ _=>(gd (a_ (pv 0) (a_ (eL ah hr ae (a_ (pv 1) (a_ (pv 2) (a_ (pv 4) c_)))) c_))))) c_))))),?_⟩
 ac_rfl
 have aq:n<=1000000000000:=by omega
 refine(Zr rfl (Zr rfl (Zr rfl ⟨a,b,ns,n,m,rfl,by omega,g,aq,λp ss H1 s1 h1 ar hp hl au av=>?_⟩)))
 refine(Zr rfl ⟨p,rfl,⟨_,eB.of hp⟩,λi m' ys H'=>m'=ss.length - i/\i<=ss.length/\∃(fs:Fs) (n':Int),SB b H H'/\H' b=some (.lst [.int n'])/\n<=n'/\n'<=n+1+i * ck d/\H' p=some (.lst (ss.map V.str))/\FA H' ys fs/\fs.names=ss.take i/\fs.dep<=d+1/\ys.length=i/\fs.W,
  (Zr rfl ⟨Q07 _,.nil,n+1,s1,h1,by omega,by omega,hp,by unfold FA;rfl,by simp[Fs.names],by simp[Fs.dep],rfl,by unfold Fs.W;trivial⟩),?_⟩)
 intro i m' ys H' zq;obtain⟨rfl,aC,fs,n',sb,aj,z1,z2,ak,hf,al,aw,hy,hW⟩:=zq;by_cases hi:i<ss.length
 . refine .inr ⟨⟨_,.str ss[i],eB.of ak,by rw[Q0q,Q03 hi];rfl⟩,gE (by omega),λx ax y=>?_⟩;obtain⟨rfl,y⟩:=y;have hx:=y _ (eB.of ak)
   have ex:x=.str ss[i]:=by
    rw[Q0q,Q03 hi] at hx;exact(Option.some.inj hx).symm
   subst ex;refine⟨rfl,yes (fw ?_)⟩;have ay:(i:Int)<=2:=by omega
   have aE:(i:Int) * ck d<=2 * ck d:=Q1g ay (by omega);refine(Zr rfl (Zr rfl (Zr rfl (Zr rfl ⟨a,b,ns,n',rfl,g.go sb aj z1,by omega,λv k az H2 s2 h2 y1 y2 hk aF aA=>?_⟩))));refine⟨gh,λt ht=>?_⟩;have aB:t≠b:=λz=>by rw[z,h2] at ht;cases ht
   have am:Tu H2 (upd H2 t (.tup [.str ss[i],v])):=Tu.of (λc o h=>by rw[eE (eP h ht)];exact h);have tu:Tu ax (upd H2 t (.tup [.str ss[i],v])):=(s2.tu aj).trans am;refine⟨_,Nat.sub_lt_sub_left hi (Q1 i),rfl,hi,fs.snoc ss[i] k,az,sb.trans (s2.trans (SB.new ht)),by rw[eE (Ne.symm aB)];exact h2,by omega,?_,?_,FA.snoc eF (KA.mono am k hk) fs (FA.mono tu fs hf),?_,?_,?_,Fs.sG aA (av _ (Q0v _)) hW⟩
   . have e:((i+1:Nat):Int) * ck d=(i:Int) * ck d+ck d:=by
      rw[Q1o,Q1p];simp
     rw[e];omega
   . have h3:=s2 p _ ar ak;rw[eE (eP h3 ht)];exact h3
   . rw[Fs.sC,al,Q0t,Q03 hi];rfl
   . rw[Fs.sE];omega
   . rw[Q0d,hy];rfl
 . have ei:i=m:=by omega
   subst ei;refine .inl ⟨⟨_,eB.of ak,by rw[Q04];omega⟩,λp' ai=>?_⟩;have e3:(i:Int) * ck d<=3 * ck d:=Q1g (by omega) (by omega);refine⟨p',ys,rfl,.inl ⟨eB.of eF,λt ht=>?_⟩⟩;have ap:p'≠b:=λz=>by rw[z,aj] at ai;cases ai
   have an:upd H' p' (.lst ys) b=some (.lst [.int n']):=by rw[eE (Ne.symm ap)];exact aj
   have tu:Tu H' (upd (upd H' p' (.lst ys)) t (.tup ys)):=λc xs h=>by
    rw[eE (eP (show upd H' p' (.lst ys) c=some (.tup xs) by rw[eE (eP h ai)];exact h) ht),eE (eP h ai)];exact h
   have ao:ss.take i=ss:=by rw[<-hl,Q0r]
   refine q t ys fs n' _ (sb.trans ((SB.new ai).trans (SB.new ht))) (by rw[eE (eP an ht)];exact an) z1 (by omega) eF (FA.mono tu fs hf) ?_ ?_ aw hW
   . rw[al,ao];exact au
   . rw[al,ao];exact hl
noncomputable def σR (a b:Addr) (m d:Nat) (p:Addr) (r:Int) (I:Addr) (x y z:Option V):St:=
 [some (.ref a),some (.ref b),some (.int m),some (.int d),some (.ref p),some (.int r),some (.int (r % m)),some (.int (r / m % (m+1))),some (.ref I),x,y,z]
theorem sX {ss:List Str}{z:Int}(I:0<=z)(h1:z<ss.length):∃x:Str,gv (ss.map V.str) z=some (.str x)/\ss[z.toNat]? =some x:=by
 obtain⟨j,rfl⟩:∃j:Nat,z=(j:Int):=⟨z.toNat,by omega⟩;exact⟨ss[j]'(by omega),gz (by rw[Q0q,Q03 (by omega)];rfl),by rw[Q2x];exact Q03 (by omega)⟩
theorem Fs.AV:∀{fs:Fs}{x:Str}{k:Kd}{j:Nat}{y:Str}{q:Kd},fs.at j=some (y,q)->(fs.snoc x k).at j=some (y,q)
 | .nil,_,_,_,_,_,h=>by cases h
 | .cons _ _ _,_,_,0,_,_,h=>h
 | .cons _ _ r,x,k,j+1,y,q,h=>Fs.AV (fs:=r) (j:=j) h
theorem Fs.AW:∀{fs:Fs}{x:Str}{k:Kd},(fs.snoc x k).at fs.names.length=some (x,k)
 | .nil,_,_=>rfl
 | .cons _ _ r,x,k=>Fs.AW (fs:=r)
theorem GZ:fv ["_law_script","_law_at","_law_many","_law_deep","_law_names_here","_law_m","_law_lead","_law_by","_law_fields_here","_law_k","_law_kind_here","_law_name"] XI (eS (top 39)):=fC
theorem sY (d:Nat)(T:Tb mg)(U:Dn K mg "_law_rows_kind" iS (top 39) Y aa)(ae:Dn K mg "_law_names" kb (top 36) af ag)(ah:en P w K mg base eu (2) af ag kb (qH K))(an:Dn K mg "_law_next" fg (top 33) ao ap)(aq:en P w K mg base eu (1) ao ap fg (i8 K))(ai:Dn K mg "_law_plain" fg (top 37) aj ak)(al:en P w K mg base eu (2) aj ak fg (oY K))(ar:Dn K mg "_law_kind" i6 (top 40) au av)(aw:en P w K mg base eu (2 * d+4) au av i6 (mq K d)):
 en P w K mg base eu (2 * d+5) Y aa iS (qI K d):=by
 refine U.F.ok GZ λvs H Q E h=>?_;obtain⟨a,b,ns,n,m,rfl,bo,hm,g,hn,q⟩:=h;refine⟨rfl,λbp A outer s nd hr hu=>?_⟩;have bq:(0:Int)<=(m:Int) * (ck d+1):=Int.mul_nonneg (by omega) (by omega)
 refine⟨_,(eh (eN 4 nd (eL ah hr ae (a_ (pv 0) (a_ (pv 1) (a_ (pv 2) c_)))))
  (eh (eN 5 nd (eL aq hr an (a_ (pv 0) (a_ (pv 1) c_))))
  (eh (eN 6 nd (eG fA (pv 5) (pv 2)))
  (eh (eN 7 nd (eG fA (eG gC (pv 5) (pv 2)) (eG iH (pv 2) b_)))
  (eh (eN 8 nd (gi c_))
  (eh (hX PassesOwn.never rfl (ky rfl T.kU (a_ (pv 2) c_)) (fL (i:=9) nd rfl gc) (eh (eN 10 nd (eL aw hr ar (a_ (pv 0) (a_ (pv 1) (a_ (pv 3) c_)))))
  (eh (eO (PW.pt (g9 (eM fc (pv 9) (pv 6) (eK _)) (hU (eM fc (pv 9) (pv 7) (eK _))))) (eA (eN 10 nd (eL al hr ai (a_ (pv 0) (a_ (pv 1) c_))))) eQ)
  (eA (j1 (lV PySem.F.plainAttrs_list PySem.F.slot_list_append PySem.F.type_list_append lW (pv 8) (a_ (gd (a_ (gG (pv 4) (pv 9)) (a_ (pv 10) c_))) c_)))))))
  (eh (eN 11 nd eY)
  (eh (eO (PW.pt (mP (eM lK (pv 7) (pv 2) (eK _)) (oh (eM jw (pv 7) (pv 6) (eK _))))) (eA (eN 11 nd (gG (pv 4) (pv 7)))) eQ)
  (eA (eJ (gd (a_ eY (a_ (gG (pv 4) (pv 6)) (a_ (pv 11) (a_ (mW zy (by rfl) T.oR boot_tuple (a_ (pv 8) c_)) c_))))))))))))))),?_⟩
 ac_rfl
 refine(Zr rfl (Zr rfl (Zr rfl ⟨a,b,ns,n,m,rfl,by omega,g,by omega,λp ss H1 s1 h1 aB hp hl a8 a9=>?_⟩)));refine(Zr rfl (Zr rfl ⟨a,b,ns,n+1,rfl,g.go s1 h1 (by omega),by omega,λr H2 r0 r1 s2 h2=>?_⟩));have aL:H2 p=some (.lst (ss.map V.str)):=s2 p _ aB hp;have aU:SB b H H2:=s1.trans s2;refine(Zr rfl (Zr rfl ⟨_,Zr rfl ⟨rfl,by omega,?_⟩⟩));refine(Zr rfl (Zr rfl ⟨_,Zr rfl ⟨rfl,⟨by omega,by omega⟩,Zr rfl ⟨_,Zr rfl ⟨rfl,_,Zr rfl ⟨rfl,by omega,?_⟩⟩⟩⟩⟩));refine⟨nu,λI aC=>?_⟩;have ab:I≠b:=λz=>by rw[z,h2] at aC;cases aC
 have aV:p≠I:=λz=>by rw[z,aC] at aL;cases aL
 have a4:∀o,H I=some o->False:=λo ho=>by
  have:=aU I o ab ho;rw[aC] at this;cases this
 have em:Int.toNat (m:Int)=m:=by omega
 refine(Zr rfl (Zr rfl ⟨by omega,by omega,kE (n:=Int.toNat (m:Int)) (λi σ H'=>∃(x y z:Option V) (n':Int) (ys:List V) (fs:Fs),σ=σR a b m d p r I x y z/\SB b H H'/\H' b=some (.lst [.int n'])/\n<=n'/\n'<=n+2+i * (ck d+1)/\
  H' p=some (.lst (ss.map V.str))/\H' I=some (.lst ys)/\FA H' ys fs/\fs.dep<=d+1/\ys.length=i/\fs.W/\fs.names=ss.take i/\∀j:Nat,j<i->((j:Int)=r % m\/(j:Int)=r / m % (m+1))->∃y q,fs.at j=some (y,q)/\jR q) ?_ ?_ ?_⟩))
 . refine⟨_,_,_,n+1+1,[],.nil,rfl,aU.trans (SB.new aC),by rw[eE (Ne.symm ab)];exact h2,by omega,by omega,by rw[eE aV];exact aL,eF,by unfold FA;rfl,by simp[Fs.dep],rfl,by unfold Fs.W;trivial,rfl,λj hj=>absurd hj (by omega)⟩
 . intro i σ H' hi zq;obtain⟨x,y,z,n',ys,fs,rfl,sb,ay,z1,z2,am,J,aH,ba,hy,hW,aI,aJ⟩:=zq;rw[em] at hi
   have e1:((i+1:Nat):Int) * (ck d+1)=(i:Int) * (ck d+1)+(ck d+1):=by
    rw[Q1o,Q1p];simp
   have bb:((i+1:Nat):Int) * (ck d+1)<=(m:Int) * (ck d+1):=Q1g (by omega) (by omega);rw[e1] at bb;have aD:ys.length<sizeLine:=gE (by omega);have bc:∃q:Str,gv (ss.map V.str) ((0:Int)+(i:Int))=some (.str q)/\ss[((0:Int)+(i:Int)).toNat]? =some q:=sX (by omega) (by omega);obtain⟨nm,aE,ax⟩:=bc
   have ax:ss[i]? =some nm:=by
    rw[show((0:Int)+(i:Int)).toNat=i by omega] at ax;exact ax
   have bd:fs.names.length=i:=by rw[<-FA.len fs aH];exact hy
   have next:∀(x' y' z':Option V) (v:V) (k:Kd) (n2:Int) (H3:Hp) (t:Addr),SB b H' H3->H3 b=some (.lst [.int n2])->n'<=n2->n2<=n'+(ck d+1)->KA H3 v k->k.dep<=d+1->k.W->(((i:Int)=r % m\/(i:Int)=r / m % (m+1))->jR k)->H3 t=none->
    ∃(x y z:Option V) (n':Int) (aM:List V) (fs:Fs),σR a b m d p r I x' y' z'=σR a b m d p r I x y z/\SB b H (upd (upd H3 t (.tup [.str nm,v])) I (.lst (ys++[.ref t])))/\(upd (upd H3 t (.tup [.str nm,v])) I (.lst (ys++[.ref t]))) b=some (.lst [.int n'])/\n<=n'/\
     n'<=n+2+((i+1:Nat):Int) * (ck d+1)/\(upd (upd H3 t (.tup [.str nm,v])) I (.lst (ys++[.ref t]))) p=some (.lst (ss.map V.str))/\(upd (upd H3 t (.tup [.str nm,v])) I (.lst (ys++[.ref t]))) I=some (.lst aM)/\
     FA (upd (upd H3 t (.tup [.str nm,v])) I (.lst (ys++[.ref t]))) aM fs/\fs.dep<=d+1/\aM.length=i+1/\fs.W/\fs.names=ss.take (i+1)/\∀j:Nat,j<i+1->((j:Int)=r % m\/(j:Int)=r / m % (m+1))->∃y q,fs.at j=some (y,q)/\jR q:=by
    intro x' y' z' v k n2 H3 t s3 h3 w1 w2 hk aW aP be ht;have aX:H3 I=some (.lst ys):=s3 I _ ab J;have aY:H3 p=some (.lst (ss.map V.str)):=s3 p _ aB am;have bf:t≠I:=λz=>by rw[z,aX] at ht;cases ht
    have bg:t≠b:=λz=>by rw[z,h3] at ht;cases ht
    have bh:t≠p:=λz=>by rw[z,aY] at ht;cases ht
    have aZ:Tu H3 (upd (upd H3 t (.tup [.str nm,v])) I (.lst (ys++[.ref t]))):=λc xs h=>by
     rw[eE (gO h aX (by intro z;cases z)),eE (eP h ht)];exact h
    have oZ:upd (upd H3 t (.tup [.str nm,v])) I (.lst (ys++[.ref t])) t=some (.tup [.str nm,v]):=by rw[eE bf];exact eF
    refine⟨x',y',z',n2,ys++[.ref t],fs.snoc nm k,rfl,λc o hc hh=>?_,?_,by omega,by rw[e1];omega,?_,eF,FA.snoc oZ (KA.mono aZ k hk) fs (FA.mono ((s3.tu ay).trans aZ) fs aH),by rw[Fs.sE];omega,by rw[Q0d,hy];rfl,Fs.sG aP (a9 _ (Q0m ax)) hW,by rw[Fs.sC,aI,Q0t,ax];rfl,λj hj aA=>?_⟩
    . have q1:=s3 c o hc (sb c o hc hh);by_cases e:c=I
      . subst e;exact(a4 o hh).elim
      . rw[eE e,eE (eP q1 ht)];exact q1
    . rw[eE (Ne.symm ab),eE (Ne.symm bg)];exact h3
    . rw[eE aV,eE (Ne.symm bh)];exact aY
    . by_cases e:j<i
      . obtain⟨y,q,e1,e2⟩:=aJ j e aA;exact⟨y,q,Fs.AV e1,e2⟩
      . have:j=i:=by omega
        subst this;exact⟨nm,k,by have:=Fs.AW (fs:=fs) (x:=nm) (k:=k);rwa [bd] at this,be aA⟩
   refine(Zr rfl (Zr rfl (Zr rfl ⟨a,b,ns,n',rfl,g.go sb ay z1,by omega,λv k n2 H3 s3 h3 w1 w2 hk aW aP=>?_⟩)));refine(Zr rfl (Zr rfl ⟨rfl,Zr rfl ?_⟩));refine fW (λc=>fw ?_) (λcL=>(Zr rfl (Zr rfl ⟨rfl,Zr rfl (fW (λc=>?_) (λc=>?_))⟩)))
   . refine(Zr rfl (Zr rfl ⟨a,b,ns,n2,rfl,(g.go sb ay z1).go s3 h3 w1,by omega,λv' k' H4 s4 h4 aQ a5 aF aG=>?_⟩));have ac:=s3.trans s4;refine(Zr rfl ⟨.inl ⟨rfl,_,eB.of (ac I _ ab J)⟩,Zr rfl (Zr rfl ⟨p,_,_,Zr rfl ⟨rfl,eB.of (ac p _ aB am),aE,Zr rfl ⟨gh,λt ht=>?_⟩⟩⟩)⟩);refine⟨I,_,Zr rfl ⟨rfl,by rw[eE (eP (ac I _ ab J) ht)];exact ac I _ ab J,aD,?_⟩⟩;exact next _ _ _ v' k' _ H4 t ac h4 (by omega) (by omega) aQ (by omega) aG (λ_=>aF) ht
   . refine(Zr rfl (Zr rfl ⟨a,b,ns,n2,rfl,(g.go sb ay z1).go s3 h3 w1,by omega,λv' k' H4 s4 h4 aQ a5 aF aG=>?_⟩));have ac:=s3.trans s4;refine(Zr rfl ⟨.inl ⟨rfl,_,eB.of (ac I _ ab J)⟩,Zr rfl (Zr rfl ⟨p,_,_,Zr rfl ⟨rfl,eB.of (ac p _ aB am),aE,Zr rfl ⟨gh,λt ht=>?_⟩⟩⟩)⟩);refine⟨I,_,Zr rfl ⟨rfl,by rw[eE (eP (ac I _ ab J) ht)];exact ac I _ ab J,aD,?_⟩⟩;exact next _ _ _ v' k' _ H4 t ac h4 (by omega) (by omega) aQ (by omega) aG (λ_=>aF) ht
   . refine(Zr rfl ⟨.inl ⟨rfl,_,eB.of (s3 I _ ab J)⟩,Zr rfl (Zr rfl ⟨p,_,_,Zr rfl ⟨rfl,eB.of (s3 p _ aB am),aE,Zr rfl ⟨gh,λt ht=>?_⟩⟩⟩)⟩);refine⟨I,_,Zr rfl ⟨rfl,by rw[eE (eP (s3 I _ ab J) ht)];exact s3 I _ ab J,aD,?_⟩⟩;refine next _ _ _ v k _ H3 t s3 h3 (by omega) (by omega) hk aW aP (λaA=>?_) ht
     exact(by
      rcases aA with e|e
      . exact absurd (decide_eq_true (show V.int ((0:Int)+(i:Int))=V.int (r % m) by rw[<-e];congr 1;omega)) cL
      . exact absurd (decide_eq_true (show V.int ((0:Int)+(i:Int))=V.int (r / m % (m+1)) by rw[<-e];congr 1;omega)) c)
 . intro σ H' zq;obtain⟨x,y,z,n',ys,fs,rfl,sb,ay,z1,z2,am,J,aH,ba,hy,hW,aI,aJ⟩:=zq;rw[em] at z2 hy aJ aI;have l0:0<=r % (m:Int):=Q0g _ (by omega);have l1:r % (m:Int)<m:=Q0i _ (by omega);have b0:0<=r / (m:Int) % ((m:Int)+1):=Q0g _ (by omega);obtain⟨xk,aT,bi⟩:=sX (ss:=ss) l0 (by omega);have az:fs.names=ss:=by rw[aI,<-hl,Q0r]
   have a1:fs.names.Nodup:=by rw[az];exact a8
   have pl:∀(z:Int) (x:Str),0<=z->z<m->(z=r % m\/z=r / m % (m+1))->ss[z.toNat]? =some x->fs.pl x:=λz x h0 h1 aA hx=>by
    obtain⟨y,q,e1,e2⟩:=aJ z.toNat (by omega) (by rw[Int.toNat_of_nonneg h0];exact aA);have a2:=Fs.jz fs z.toNat;rw[e1,az,hx] at a2;have e3:some x=some y:=a2
    cases e3;exact⟨q,Fs.l8 a1 e1,e2⟩
   have bj:fs.pl xk:=pl _ _ l0 l1 (.inl rfl) bi;have aK:fs.names.length<=12:=by rw[az,hl];omega
   have fin:∀(nm:Str),(nm=""\/fs.pl nm)->∀(t:Addr),H' t=none->∀v:Addr,upd H' t (.tup ys) v=none->Q (.ref v) (upd (upd H' t (.tup ys)) v (.tup [.str "rows",.str xk,.str nm,.ref t])):=by
    intro nm bm t ht v hv;have bn:v≠t:=λz=>by rw[z,eF] at hv;cases hv
    have tu:Tu H' (upd (upd H' t (.tup ys)) v (.tup [.str "rows",.str xk,.str nm,.ref t])):=λc xs h=>by
     have e:upd H' t (.tup ys) c=some (.tup xs):=by rw[eE (eP h ht)];exact h
     rw[eE (eP e hv)];exact e
    have a3:upd H' t (.tup ys) b=some (.lst [.int n']):=by rw[eE (eP ay ht)];exact ay
    refine q (.ref v) xk nm fs n' _ (sb.trans ((SB.new ht).trans (SB.new hv))) (by rw[eE (eP a3 hv)];exact a3) z1 (by omega) ?_ (by simp only[Kd.dep];omega) (by unfold Kd.W;exact⟨a1,aK,hW,bj,bm⟩) (by rw[az,hl]);unfold KA;exact⟨v,t,ys,rfl,eF,by rw[eE (Ne.symm bn)];exact eF,FA.mono tu fs aH⟩
   refine(Zr rfl (Zr rfl ⟨_,Zr rfl ⟨rfl,Zr rfl ?_⟩⟩));refine fW (λc=>(Zr rfl (Zr rfl ⟨rfl,Zr rfl (fW (λc2=>?_) (λc2=>?_))⟩))) (λc=>e_ ?_)
   . have c':r / (m:Int) % ((m:Int)+1)<m:=of_decide_eq_true c;obtain⟨nm,a6,a7⟩:=sX (ss:=ss) b0 (by omega);refine(Zr rfl (Zr rfl ⟨p,_,_,Zr rfl ⟨rfl,eB.of am,a6,?_⟩⟩));exact(Zr rfl (Zr rfl ⟨p,_,_,Zr rfl ⟨rfl,eB.of am,aT,Zr rfl (Zr rfl ⟨I,ys,rfl,.inl ⟨eB.of J,λt ht=>⟨sV,λv hv=>fin nm (.inr (pl _ _ b0 c' (.inr rfl) a7)) t ht v hv⟩⟩⟩)⟩⟩))
   . exact(Zr rfl (Zr rfl ⟨p,_,_,Zr rfl ⟨rfl,eB.of am,aT,Zr rfl (Zr rfl ⟨I,ys,rfl,.inl ⟨eB.of J,λt ht=>⟨sV,λv hv=>fin _ (.inl rfl) t ht v hv⟩⟩⟩)⟩⟩))
   . exact(Zr rfl (Zr rfl ⟨p,_,_,Zr rfl ⟨rfl,eB.of am,aT,Zr rfl (Zr rfl ⟨I,ys,rfl,.inl ⟨eB.of J,λt ht=>⟨sV,λv hv=>fin _ (.inl rfl) t ht v hv⟩⟩⟩)⟩⟩))
theorem G3 (d:Nat)(T:Tb mg)(I:Dn K mg "_law_rows_kind" iS (top 39) J U)(Y:Dn K mg "_law_names" kb (top 36) aa ab)(ac:en P w K mg base eu (2) aa ab kb (qH K))(ai:Dn K mg "_law_next" fg (top 33) aj ak)(al:en P w K mg base eu (1) aj ak fg (i8 K))(ae:Dn K mg "_law_plain" fg (top 37) af ag)(ah:en P w K mg base eu (2) af ag fg (oY K))(am:Dn K mg "_law_kind" i6 (top 40) an ao)(ap:en P w K mg base eu (2 * d+4) an ao i6 (mq K d)):
 en P w K mg base eu (2 * d+5) J U iS (AN K d):=(sY d T I Y ac ai al ae ah am ap).imp λvs H Q E h=>by
 obtain⟨a,b,ns,n,m,e,h1,h3,g,hn,q⟩:=h;have e3:(m:Int) * (ck d+1)<=3 * (ck d+1):=Q1g (by omega) (by omega);exact⟨a,b,ns,n,m,e,h1,by omega,g,by omega,λv key by_ fs n' H' s h0 l1 l2 k kd kw _=>q v _ n' H' s h0 l1 (by omega) k kd kw⟩
theorem AX:fv ["_law_script","_law_at","_law_deep","_law_m"] Xb (eS (top 40)):=fC
theorem G4 (T:Tb mg)(aa:Dn K mg "_law_kind" i6 (top 40) ab ac)(ae:Dn K mg "_law_next" fg (top 33) af ag)(ah:en P w K mg base eu (1) af ag fg (i8 K))(I:Dn K mg "_law_plain" fg (top 37) J U)(Y:en P w K mg base eu (2) J U fg (oY K)):en P w K mg base eu (2 * 0+4) ab ac i6 (mq K 0):=by
 refine aa.F.ok AX λvs H Q E h=>?_;obtain⟨a,b,ns,n,rfl,g,hn,q⟩:=h;refine⟨rfl,λaj A outer s nd hr hu=>?_⟩;have ai:ck 0=2:=rfl;rw[ai] at hn q
 refine⟨_,(eh (eN 3 nd (eL ah hr ae (a_ (pv 0) (a_ (pv 1) c_))))
  (eh (eO (PW.pt (g9 (eM y_ (pv 2) b_ (eK _)) (hU FC))) (eA (eJ (eL Y hr I (a_ (pv 0) (a_ (pv 1) c_))))) eQ) yT)),?_⟩
 ac_rfl
 refine(Zr rfl (Zr rfl ⟨a,b,ns,n,rfl,g,by omega,λr H1 r0 r1 s1 h1=>?_⟩));refine(Zr rfl ⟨_,Zr rfl ⟨rfl,Zr rfl ?_⟩⟩);refine fW (λc=>fw ?_) (λc=>(c (by decide)).elim);refine(Zr rfl (Zr rfl ⟨a,b,ns,n+1,rfl,g.go s1 h1 (by omega),by omega,λv k H2 s2 h2 hk hd hp hw=>?_⟩));exact q v k (n+1+1) H2 (s1.trans s2) h2 (by omega) (by omega) hk (by omega) hw
theorem G5 (d:Nat)(T:Tb mg)(U:Dn K mg "_law_kind" i6 (top 40) Y aa)(am:Dn K mg "_law_next" fg (top 33) an ao)(ap:en P w K mg base eu (1) an ao fg (i8 K))(ai:Dn K mg "_law_plain" fg (top 37) aj ak)(al:en P w K mg base eu (2) aj ak fg (oY K))(I:Dn K mg "_law_fields" iS (top 38) ag ah)(J:en P w K mg base eu (2 * d+5) ag ah iS (AM K d))(ab:Dn K mg "_law_rows_kind" iS (top 39) ac ae)(af:en P w K mg base eu (2 * d+5) ac ae iS (AN K d))
 (aq:en P w K mg base eu (2 * d+4) Y aa i6 (mq K d)):en P w K mg base eu (2 * (d+1)+4) Y aa i6 (mq K (d+1)):=by
 refine U.F.ok AX λvs H Q E h=>?_;obtain⟨a,b,ns,n,rfl,g,hn,q⟩:=h;refine⟨rfl,λax A outer s nd hr hu=>?_⟩
 have ar:(ck (d+1):Int)=3 * ck d+6:=by
  have:ck (d+1)=3 * ck d+6:=rfl;omega
 rw[ar] at hn
 refine⟨_,(eh (eN 3 nd (eL ap hr am (a_ (pv 0) (a_ (pv 1) c_))))
  (eh (eO (PW.pt (g9 (eM y_ (pv 2) b_ (eK _)) (hU (eM lK (eG fA (pv 3) b_) b_ (eK _))))) (eA (eJ (eL al hr ai (a_ (pv 0) (a_ (pv 1) c_))))) eQ)
  (eh (eO (eM lK (eG fA (pv 3) b_) b_ (eK _)) (eA (eJ (gd (a_ eY (a_ (eL J hr I (a_ (pv 0) (a_ (pv 1) (a_ (eG fA (eG gC (pv 3) b_) b_) (a_ (eG jK (pv 2) b_) c_))))) c_))))) eQ)
  (eh (eO (eM lK (eG fA (pv 3) b_) b_ (eK _)) (eA (eJ (eL af hr ab (a_ (pv 0) (a_ (pv 1) (a_ (eG iH b_ (eG fA (eG gC (pv 3) b_) b_)) (a_ (eG jK (pv 2) b_) c_))))))) eQ)
  (eh (eO (eM fc (eG fA (pv 3) b_) b_ (eK _)) (eA (eJ (gd (a_ eY (a_ (eL aq hr U (a_ (pv 0) (a_ (pv 1) (a_ (eG jK (pv 2) b_) c_)))) c_))))) eQ)
  (eA (eJ (gd (a_ eY (a_ (eL J hr I (a_ (pv 0) (a_ (pv 1) (a_ (eG iH b_ (eG fA (eG gC (pv 3) b_) b_)) (a_ (eG jK (pv 2) b_) c_))))) c_)))))))))),?_⟩
 ac_rfl
 refine(Zr rfl (Zr rfl ⟨a,b,ns,n,rfl,g,by omega,λr H1 r0 r1 s1 h1=>?_⟩));have g1:=g.go s1 h1 (by omega);have e2:(((d+1:Nat):Int)) - 1=(d:Int):=by omega
 have e0:(if decide ((((d+1:Nat):Int))<=0)=true then True else False)=False:=by
  rw[if_neg (by rw[decide_eq_true_iff];omega)]
 refine(Zr rfl ⟨_,Zr rfl ⟨rfl,Zr rfl (fW (λc=>?_) (λc=>?_))⟩⟩)
 . exact absurd (of_decide_eq_true c) (by omega)
 refine(Zr rfl ⟨_,Zr rfl ⟨rfl,(by show(0:Int)<_;decide),_,Zr rfl ⟨rfl,Zr rfl (fW (λc1=>?_) (λc1=>?_))⟩⟩⟩)
 . refine(Zr rfl (Zr rfl ⟨a,b,ns,n+1,rfl,g1,by omega,λv k H2 s2 h2 hk hd hp hw=>?_⟩));exact q v k (n+1+1) H2 (s1.trans s2) h2 (by omega) (by rw[ar];omega) hk (by omega) hw
 refine(Zr rfl ⟨_,Zr rfl ⟨rfl,(by show(0:Int)<_;decide),_,Zr rfl ⟨rfl,Zr rfl (fW (λc2=>?_) (λc2=>?_))⟩⟩⟩)
 . obtain⟨m,hm⟩:∃m:Nat,r / 10 % 4=(m:Int):=⟨(r / 10 % 4).toNat,by omega⟩;refine(Zr rfl (Zr rfl (Zr rfl ⟨_,Zr rfl ⟨rfl,⟨by decide,by decide⟩,_,Zr rfl ⟨rfl,(by show(0:Int)<_;decide),Zr rfl ⟨_,Zr rfl ⟨rfl,a,b,ns,n+1,m,(by show [V.ref a,V.ref b,V.int (r / 10 % 4),V.int (((d+1:Nat):Int) - 1)]=_;rw[hm,e2]),by omega,g1,by omega,λt xs fs n' H2 s2 h2 w1 w2 ht au av hl aw hW=>?_⟩⟩⟩⟩⟩)));refine⟨gh,λv hv=>?_⟩;have tu:Tu H2 (upd H2 v (.tup [.str "record",.ref t])):=λc ys h=>by rw[eE (eP h hv)];exact h
   refine q (.ref v) (.eX fs) n' _ (s1.trans (s2.trans (SB.new hv))) (by rw[eE (eP h2 hv)];exact h2) (by omega) (by rw[ar];omega) ?_ (by simp only[Kd.dep];omega) (by unfold Kd.W;exact⟨av,by omega,hW⟩);unfold KA;exact⟨v,t,xs,rfl,eF,tu _ _ ht,FA.mono tu fs au⟩
 refine(Zr rfl ⟨_,Zr rfl ⟨rfl,(by show(0:Int)<_;decide),_,Zr rfl ⟨rfl,Zr rfl (fW (λc3=>?_) (λc3=>?_))⟩⟩⟩)
 . obtain⟨m,hm⟩:∃m:Nat,1+r / 10 % 3=(m:Int):=⟨(1+r / 10 % 3).toNat,by omega⟩;refine(Zr rfl (Zr rfl (Zr rfl ⟨_,Zr rfl ⟨rfl,⟨by decide,by decide⟩,_,Zr rfl ⟨rfl,(by show(0:Int)<_;decide),_,Zr rfl ⟨rfl,Zr rfl ⟨_,Zr rfl ⟨rfl,a,b,ns,n+1,m,(by show [V.ref a,V.ref b,V.int (1+r / 10 % 3),V.int (((d+1:Nat):Int) - 1)]=_;rw[hm,e2]),by omega,by omega,g1,by omega,λv k n' H2 s2 h2 w1 w2 hk aw hw=>?_⟩⟩⟩⟩⟩⟩)));exact q v k n' H2 (s1.trans s2) h2 (by omega) (by rw[ar];omega) hk (by omega) hw
 refine(Zr rfl ⟨_,Zr rfl ⟨rfl,(by show(0:Int)<_;decide),rfl,Zr rfl (fW (λc4=>?_) (λc4=>?_))⟩⟩)
 . refine(Zr rfl (Zr rfl (Zr rfl ⟨_,Zr rfl ⟨rfl,a,b,ns,n+1,(by show [V.ref a,V.ref b,V.int (((d+1:Nat):Int) - 1)]=_;rw[e2]),g1,by omega,λu k n' H2 s2 h2 w1 w2 hk aw hw=>?_⟩⟩)));refine⟨gh,λv hv=>?_⟩;have tu:Tu H2 (upd H2 v (.tup [.str "tree",u])):=λc ys h=>by rw[eE (eP h hv)];exact h
   refine q (.ref v) (.tree k) n' _ (s1.trans (s2.trans (SB.new hv))) (by rw[eE (eP h2 hv)];exact h2) (by omega) (by rw[ar];omega) ?_ (by simp only[Kd.dep];omega) (by unfold Kd.W;exact hw);unfold KA;exact⟨v,u,rfl,eF,KA.mono tu k hk⟩
 . obtain⟨m,hm⟩:∃m:Nat,1+r / 10 % 3=(m:Int):=⟨(1+r / 10 % 3).toNat,by omega⟩;refine(Zr rfl (Zr rfl (Zr rfl ⟨_,Zr rfl ⟨rfl,⟨by decide,by decide⟩,_,Zr rfl ⟨rfl,(by show(0:Int)<_;decide),_,Zr rfl ⟨rfl,Zr rfl ⟨_,Zr rfl ⟨rfl,a,b,ns,n+1,m,(by show [V.ref a,V.ref b,V.int (1+r / 10 % 3),V.int (((d+1:Nat):Int) - 1)]=_;rw[hm,e2]),by omega,g1,by omega,λt xs fs n' H2 s2 h2 w1 w2 ht au av hl aw hW=>?_⟩⟩⟩⟩⟩⟩)));refine⟨gh,λv hv=>?_⟩;have tu:Tu H2 (upd H2 v (.tup [.str "either",.ref t])):=λc ys h=>by rw[eE (eP h hv)];exact h
   refine q (.ref v) (.gj fs) n' _ (s1.trans (s2.trans (SB.new hv))) (by rw[eE (eP h2 hv)];exact h2) (by omega) (by rw[ar];omega) ?_ (by simp only[Kd.dep];omega) (by unfold Kd.W;exact⟨av,by omega,by omega,hW⟩);unfold KA;exact⟨v,t,xs,rfl,eF,tu _ _ ht,FA.mono tu fs au⟩
theorem kind_all (T:Tb mg)(U:Dn K mg "_law_kind" i6 (top 40) ac ae)(I:Dn K mg "_law_next" fg (top 33) an ao)(J:Dn K mg "_law_plain" fg (top 37) aj ak)(aa:Dn K mg "_law_names" kb (top 36) al am)(ab:Dn K mg "_law_fields" iS (top 38) ah ai)(Y:Dn K mg "_law_rows_kind" iS (top 39) af ag):∀d:Nat,en P w K mg base eu (2 * d+4) ac ae i6 (mq K d)
 |0=>G4 T U I (nz (mw T I)) J (sW T J I (nz (mw T I)))
 |d+1=>by
  have N:=nz (mw (P:=P) (w:=w) (base:=base) T I);have Pl:=sW T J I N;have Nm:=AU T aa I N;have ih:=kind_all T U I J aa ab Y d;have Fd:=GY d T ab aa Nm U ih;have Rw:=G3 d T Y aa Nm I N J Pl U ih;exact G5 d T U I N J Pl ab Fd Y Rw ih
theorem AY (ns:List Int)(x:Str)(k:Kd)(room:Nat):∀(fs:Fs) (n:Int),e9 ns (fs.snoc x k) room n=((e9 ns fs room n).1.snoc x (val ns k room (e9 ns fs room n).2).1,(val ns k room (e9 ns fs room n).2).2)
 | .nil,n=>by
   show e9 ns (.cons x k .nil) room n=_;simp only[e9,Ds.snoc]
 | .cons y q r,n=>by
   show e9 ns (.cons y q (r.snoc x k)) room n=_;simp only[e9,Ds.snoc];rw[AY ns x k room r]
theorem AZ (g:Int->D × Int):∀(m:Nat) (n:Int),times g (m+1) n=((times g m n).1.snoc "" (g (times g m n).2).1,(g (times g m n).2).2)
 |0,n=>by simp only[times,Ds.snoc]
 |m+1,n=>by
  have I:=AZ g m (g n).2;show(Ds.cons "" (g n).1 (times g (m+1) (g n).2).1,(times g (m+1) (g n).2).2)=_;rw[I];simp only[times,Ds.snoc]
theorem sZ {g h:Int->D × Int}(e:∀n,g n=h n):∀(m:Nat) (n:Int),times g m n=times h m n
 |0,n=>rfl
 |m+1,n=>by
  simp only[times];rw[e n,sZ e m]
theorem k7 {ns:List Int}{f:Nat->Int->D × Int}:∀(fu room:Nat) (n:Int),room<2 ^ fu->gF ns f (fu+1) room n=gF ns f (fu+2) room n
 |0,room,n,h=>by
  have e:room=0:=by simpa using h
  subst e
  have I:(nx ns ((f (0 / 2) n).2+1) % (((0:Nat):Int)+1)).toNat=0:=by
   have:nx ns ((f (0 / 2) n).2+1) % (((0:Nat):Int)+1)=0:=by
    show _ % (1:Int)=0;exact Int.emod_one _
   rw[this];rfl
  unfold gF;rw[I];rfl
 |fu+1,room,n,h=>by
  have J:=λm=>k7 (ns:=ns) (f:=f) fu (room / 2) m (by rw[Q25] at h;omega);show(pairD (f (room / 2) n).1 (.lst (times (gF ns f (fu+1) (room / 2)) _ _).1),(times (gF ns f (fu+1) (room / 2)) _ _).2)=(pairD (f (room / 2) n).1 (.lst (times (gF ns f (fu+2) (room / 2)) _ _).1),(times (gF ns f (fu+2) (room / 2)) _ _).2);rw[sZ J]
theorem G6 (ns:List Int)(k:Kd)(room:Nat)(n:Int)(h:room<8):val ns (.tree k) room n=
 (pairD (val ns k (room / 2) n).1 (.lst (times (val ns (.tree k) (room / 2)) (nx ns ((val ns k (room / 2) n).2+1) % ((room:Int)+1)).toNat ((val ns k (room / 2) n).2+1)).1),
   (times (val ns (.tree k) (room / 2)) (nx ns ((val ns k (room / 2) n).2+1) % ((room:Int)+1)).toNat ((val ns k (room / 2) n).2+1)).2):=by
 have e:∀m,val ns (.tree k) (room / 2) m=gF ns (val ns k) 3 (room / 2) m:=λm=>by
  show gF ns (val ns k) 4 (room / 2) m=_;exact(k7 2 (room / 2) m (by show _<4;omega)).symm
 rw[sZ e];simp only[val,gF]
theorem s_ {g:Int->Ds × Int}{key:Str}:∀(m:Nat) (I:List Ds) (n:Int),f9 g key (m+1) I n=
 (if jB key (f9 g key m I n).1 (keyOf (g (f9 g key m I n).2).1 key)=true then((f9 g key m I n).1,(g (f9 g key m I n).2).2) else((f9 g key m I n).1++[(g (f9 g key m I n).2).1],(g (f9 g key m I n).2).2))
 |0,I,n=>by
  simp only[f9]
  first
   |rfl
   |(by_cases c:jB key I (keyOf (g n).1 key)=true <;> simp[c])
 |m+1,I,n=>by
  rw[f9];split
  . rename_i c;rw[s_ m I]
    conv=>rhs;rw[f9]
    simp only[c,if_true]
  . rename_i c;rw[s_ m (I++[(g n).1])]
    conv=>rhs;rw[f9]
    simp only[c,if_false];rfl
noncomputable def mu:Kd->Nat->Nat
 | .rows key by_ fs,room=>(2 * (fs.dep+1)+1) * 8+room
 |k,room=>(2 * k.dep) * 8+room
theorem qK (k:Kd)(room:Nat):mu k room<=(2 * k.dep+1) * 8+room:=by
 cases k <;> simp only[mu,Kd.dep] <;> omega
theorem tf {k J:Kd}{room I:Nat}(h:k.dep<J.dep)(U:room<8):mu k room<mu J I:=by
 have:=qK k room
 cases J <;> simp only[mu,Kd.dep] at * <;> omega
noncomputable def gr (room:Nat):Nat:=if room=0 then 1 else if room=1 then 9 else if room<4 then 73 else 585
noncomputable def kc:Kd->Nat->Nat
 | .tree k,room=>(k.cB+1) * gr room
 |k,_=>k.cB
theorem tm (room:Nat):1<=gr room/\gr room<=585:=by
 unfold gr;by_cases I:room=0
 . rw[if_pos I];omega
 . rw[if_neg I];by_cases h1:room=1
   . rw[if_pos h1];omega
   . rw[if_neg h1];by_cases h2:room<4
     . rw[if_pos h2];omega
     . rw[if_neg h2];omega
theorem G7 (room:Nat):gr room<=585:=(tm room).2
theorem tw (k:Kd)(room:Nat):kc k room<=k.cB:=by
 cases k with
 |tree k=>exact Q3 _ (G7 room)
 |_=>exact Q00 _
theorem G8 {room:Nat}(h1:1<=room)(I:room<8):1+room * gr (room / 2)<=gr room:=by
 have h:room=1\/room=2\/room=3\/room=4\/room=5\/room=6\/room=7:=by omega
 rcases h with h|h|h|h|h|h|h <;> subst h <;> decide
theorem G9 (ns:List Int)(k:Kd)(room:Nat)(n:Int)(h:room<8):n<=(val ns (.tree k) room n).2/\(val ns (.tree k) room n).2<=n+((k.cB+1) * gr room:Nat):=by
 have I:=λ(room:Nat) (n:Int) (h:room<8)=>kT ns k room n h;have e:val ns (.tree k) room n=gF ns (val ns k) 4 room n:=by simp only[val]
 rw[e];unfold gr;by_cases J:room=0
 . rw[if_pos J,<-k7 2 room n (by omega),<-k7 1 room n (by omega),<-k7 0 room n (by omega)];exact nj (N:=k.cB) I 1 room n h
 . rw[if_neg J];by_cases h1:room=1
   . rw[if_pos h1,<-k7 2 room n (by omega),<-k7 1 room n (by omega)];exact nj (N:=k.cB) I 2 room n h
   . rw[if_neg h1];by_cases h2:room<4
     . rw[if_pos h2,<-k7 2 room n (by omega)];exact nj (N:=k.cB) I 3 room n h
     . rw[if_neg h2];exact nj (N:=k.cB) I 4 room n h
theorem A0 (ns:List Int):∀(fs:Fs) (i room:Nat) (n:Int) (x:Str) (k:Kd),fs.at i=some (x,k)->g7 ns fs i room n=(pairD (.str x) (val ns k room n).1,(val ns k room n).2)
 | .nil,i,_,_,_,_,h=>by cases h
 | .cons y q r,0,room,n,x,k,h=>by
   cases h;simp only[g7]
 | .cons y q r,i+1,room,n,x,k,h=>by
   simp only[g7];exact A0 ns r i room n x k h
theorem Fs.A1:∀{fs:Fs}{i:Nat}{x:Str}{k:Kd},fs.at i=some (x,k)->k.cB<=fs.cB
 | .nil,_,_,_,h=>by cases h
 | .cons y q r,0,x,k,h=>by
   cases h;simp only[Fs.cB];omega
 | .cons y q r,i+1,x,k,h=>by
   have:=Fs.A1 (fs:=r) (i:=i) h;simp only[Fs.cB];omega
theorem Fs.A2:∀{fs:Fs}{i:Nat}{x:Str}{k:Kd},fs.at i=some (x,k)->(fs.take i).cB+k.cB<=fs.cB
 | .nil,_,_,_,h=>by cases h
 | .cons y q r,0,x,k,h=>by
   cases h;simp only[Fs.take,Fs.cB];omega
 | .cons y q r,i+1,x,k,h=>by
   have:=Fs.A2 (fs:=r) (i:=i) h;simp only[Fs.take,Fs.cB];omega
theorem Fs.tD:∀(fs:Fs) (i:Nat),(fs.take i).names=fs.names.take i
 | .nil,i=>by simp[Fs.take,Fs.names]
 | .cons x k r,0=>by simp[Fs.take,Fs.names]
 | .cons x k r,i+1=>by
   show x::(r.take i).names=x::r.names.take i;rw[Fs.tD r i]
theorem Fs.G_ {fs:Fs}{i:Nat}{x:Str}{k:Kd}(I:fs.names.Nodup)(h:fs.at i=some (x,k)):x ∉ (fs.take i).names:=by
 rw[Fs.tD];intro J;obtain⟨j,U,e⟩:=Q16 J;have Y:fs.names[i]? =some x:=by rw[Fs.jz,h];rfl
 obtain⟨hi,ei⟩:=List.getElem?_eq_some_iff.mp Y;rw[Q0n] at U;rw[Q12] at e;have:=(Q1s I).mp (e.trans ei.symm);omega
theorem qL (ns:List Int)(room:Nat):∀(fs:Fs) (n:Int),(e9 ns fs room n).1.names=fs.names
 | .nil,n=>by simp[e9,Ds.names,Fs.names]
 | .cons x k r,n=>by
   simp only[e9,Ds.names,Fs.names];rw[qL ns room r]
theorem eV.key {H:Hp}{kvs:List (Key × V)}{m:Ds}{U:List Addr}{fs:Fs}{x:Str}(h:eV H kvs m U)(f:fJ fs m)(hp:fs.pl x):gD kvs (Sum.inr x)=some (kV (keyOf m x)):=by
 rcases(f.plain hp).2 with⟨z,I,J,_⟩|⟨s,I,J,_⟩
 . obtain⟨v,g,h1,h2,_⟩:=eV.val m h I;unfold Own at h2;rw[h1,J,h2.1];rfl
 . obtain⟨v,g,h1,h2,_⟩:=eV.val m h I;unfold Own at h2;rw[h1,J,h2.1];rfl
abbrev ff (b P:Addr):Hp->Hp->Prop:=Kp (λc=>c=b\/c=P)
theorem _root_.L2.eU.tab {P:Addr}{I:Pos}{J:Str}{H:Hp}(h:eU P I J H):∃ps,H P=some (.gA ps):=by
 rcases h with e|⟨c,e,_⟩ <;> exact⟨_,e⟩
theorem _root_.L2.eU.keep {P:Addr}{I:Pos}{J:Str}{H H':Hp}(h:eU P I J H)(k:∀c o,(∀xs,o≠ .lst xs)->H c=some o->H' c=some o):eU P I J H':=by
 rcases h with e|⟨c,e,f⟩
 . exact .inl (k _ _ (by intro xs z;cases z) e)
 . exact .inr ⟨c,k _ _ (by intro xs z;cases z) e,k _ _ (by intro xs z;cases z) f⟩
theorem _root_.L2.eU.same {P:Addr}{I:Pos}{J:Str}{H H':Hp}(h:eU P I J H)(s:Same H H'):eU P I J H':=h.keep λc o _ e=>s c o e
theorem _root_.L2.eU.sb {P b:Addr}{I:Pos}{J:Str}{H H':Hp}{l:List V}(h:eU P I J H)(U:H b=some (.lst l))(s:SB b H H'):eU P I J H':=
 h.keep λc o Y e=>s c o (gO e U (Y l)) e
theorem _root_.L2.eU.wr {P p:Addr}{J:Pos}{U:Str}{H:Hp}{o:HO}(h:eU P J U H)(hp:Mu H p):eU P J U (upd H p o):=by
 have key:∀c u,(∀xs,u≠ .lst xs)->(∀I,u≠ .dK I)->H c=some u->upd H p o c=some u:=λc u h1 h2 e=>by
  rw[eE];· exact e
  intro z;subst z;rcases hp with⟨xs,q⟩|⟨I,q⟩
  . rw[e] at q;exact h1 xs (Option.some.inj q)
  . rw[e] at q;exact h2 I (Option.some.inj q)
 rcases h with e|⟨c,e,f⟩
 . exact .inl (key _ _ (by intro xs z;cases z) (by intro xs z;cases z) e)
 . exact .inr ⟨c,key _ _ (by intro xs z;cases z) (by intro xs z;cases z) e,key _ _ (by intro xs z;cases z) (by intro xs z;cases z) f⟩
theorem SB.fh {b P:Addr}{H H':Hp}(s:SB b H H'):ff b P H H':=λc o n e=>s c o (λz=>n (.inl z)) e
theorem ff.at {b P c:Addr}{H H':Hp}{n:Int}{I:Pos}{J:Str}{o:HO}(x:ff b P H H')(U:H b=some (.lst [.int n]))(hT:eU P I J H)(h1:o≠ .lst [.int n])(h2:∀ps,o≠ .gA ps)(e:H c=some o):H' c=some o:=by
 obtain⟨ps,Y⟩:=hT.tab;refine x c o (λz=>?_) e;rcases z with z|z
 . exact gO e U h1 z
 . exact gO e Y (h2 ps) z
theorem ff.tu {b P:Addr}{H H':Hp}{n:Int}{I:Pos}{J:Str}(x:ff b P H H')(U:H b=some (.lst [.int n]))(hT:eU P I J H):Tu H H':=λa xs e=>x.at U hT (by intro z;cases z) (by intro ps z;cases z) e
theorem ff.g0 {K:W.Frag}{a b P:Addr}{H H':Hp}{ns:List Int}{n n':Int}{I:Pos}{J:Str}(x:ff b P H H')(g:G0 K H a b ns n)(hT:eU P I J H)(h:H' b=some (.lst [.int n']))(U:n<=n'):G0 K H' a b ns n':=by
 refine⟨?_,g.len,h,by have:=g.pos;omega⟩;rcases g.iB with⟨o,e⟩|e
 . exact .inl ⟨o,x.at g.at_ hT (by intro z;cases z) (by intro ps z;cases z) e⟩
 . exact .inr e
theorem Own.fh {b P:Addr}{H₀ H H':Hp}{v:V}{d:D}{I:List Addr}{n:Int}{U:Pos}{Y:Str}(h:Own H v d I)(x:ff b P H H')(hb:H b=some (.lst [.int n]))(hT:eU P U Y H)(J:∃o,H₀ b=some o)(fr:∀c∈I,H₀ c=none):Own H' v d I:=by
 refine h.keep (x.tu hb hT) d λc hc o e=>x c o (λz=>?_) e;rcases z with z|z
 . obtain⟨o',e'⟩:=J;have:=fr c hc;rw[z,e'] at this;cases this
 . obtain⟨ps,hP⟩:=hT.tab;rcases Own.alive d h c hc with⟨xs,q⟩|⟨xs,q⟩ <;> rw[z,hP] at q <;> cases q
def k8:Sp:=λvs H Q _=>∃p r b key by_ fs kvs m I,vs=[.ref p,.ref r]/\H p=some (.tup [.str "rows",.str key,.str by_,.ref b])/\H r=some (.dK kvs)/\eV H kvs m I/\fJ fs m/\fs.pl key/\(by_=""\/fs.pl by_)/\
 ∀q,H q=none->Q (.ref q) (upd H q (.tup ((rankOf key by_ m).map kV)))
noncomputable def qM (st:Stmt):Pos:=match(g6 st).getLast? with
 |some (.Return (some (.Call _ _ [⟨_,.Lambda _ _ _ I,_⟩] _)) _)=>I
 |_=>⟨0,0,0,0⟩
noncomputable abbrev gH:Pos:=qM (top 42)
noncomputable abbrev gI:Str:=("_law_rows":Str)++".<locals>."++"<lambda>"
def kq (K:W.Frag) (P:Addr) (N:Nat):Sp:=λvs H Q _=>∃a b ns n J k,∃room:Nat,vs=[.ref a,.ref b,J,.int room]/\G0 K H a b ns n/\eU P gH gI H/\KA H J k/\k.W/\room<8/\mu k room<=N/\n+kc k room<=1000000000000/\
 ∀(v:V) (H':Hp) (I:List Addr),ff b P H H'->H' b=some (.lst [.int (val ns k room n).2])->eU P gH gI H'->Own H' v (val ns k room n).1 I->I.Nodup->(∀c∈I,H c=none)->Q v H'
def A4 (K:W.Frag) (P:Addr) (N:Nat):Sp:=λvs H Q _=>∃a b ns n J key by_ fs,∃room:Nat,vs=[.ref a,.ref b,J,.int room]/\G0 K H a b ns n/\eU P gH gI H/\KA H J (.rows key by_ fs)/\(Kd.rows key by_ fs).W/\room<8/\mu (.rows key by_ fs) room<=N+1/\n+(Kd.rows key by_ fs).cB<=1000000000000/\
 ∀(v:V) (H':Hp) (I:List Addr),ff b P H H'->H' b=some (.lst [.int (val ns (.rows key by_ fs) room n).2])->eU P gH gI H'->Own H' v (val ns (.rows key by_ fs) room n).1 I->I.Nodup->(∀c∈I,H c=none)->Q v H'
theorem Ha:fv Xa Xa (eS (top 41)):=fC
theorem A5 (T:Tb mg)(I:Dn K mg "_law_rank" ke (top 41) J U):en P w K mg base eu (1) J U ke (k8):=by
 refine I.F.ok Ha λvs H Q E h=>?_;obtain⟨p,r,b,key,by_,fs,kvs,m,fp,rfl,hp,hR,hO,hF,hk,aa,q⟩:=h;refine⟨rfl,λac A outer s nd hr Y=>?_⟩
 refine⟨_,(eh (eO (eM fc (eI (pv 0) b_) eY (eK _)) (eA (eJ (gd (a_ (hZ Y (pv 1) (eI (pv 0) b_) (λ_ _=>rfl)) c_)))) eQ)
  (eA (eJ (gd (a_ (hZ Y (pv 1) (eI (pv 0) b_) (λ_ _=>rfl)) (a_ (hZ Y (pv 1) (eI (pv 0) b_) (λ_ _=>rfl)) c_)))))),?_⟩
 ac_rfl
 have gk:f_ H r (.str key) (some (kV (keyOf m key))):=by have:=f_.k (k:=Sum.inr key) hR;rw[hO.key hF hk] at this;exact this
 refine(Zr rfl ⟨p,_,_,Zr rfl ⟨rfl,d_.of hp,rfl,rfl,Zr rfl (fW (λc=>?_) (λc=>?_))⟩⟩)
 . have c':by_="":=by
    have:=of_decide_eq_true c;injection this
   refine(Zr rfl (Zr rfl ⟨p,_,_,Zr rfl ⟨rfl,d_.of hp,rfl,r,Zr rfl ⟨gk,iN,λt ht=>?_⟩⟩⟩));have:=q t ht;unfold rankOf at this;rw[if_pos c'] at this;exact this
 . have c':¬by_="":=λz=>c (decide_eq_true (show V.str by_=V.str "" by rw[z]));have ab:fs.pl by_:=aa.resolve_left c';have gb:f_ H r (.str by_) (some (kV (keyOf m by_))):=by have:=f_.k (k:=Sum.inr by_) hR;rw[hO.key hF ab] at this;exact this
   refine(Zr rfl (Zr rfl ⟨p,_,_,Zr rfl ⟨rfl,d_.of hp,rfl,r,Zr rfl ⟨gb,Zr rfl (Zr rfl ⟨p,_,_,Zr rfl ⟨rfl,d_.of hp,rfl,r,Zr rfl ⟨gk,gh,λt ht=>?_⟩⟩⟩)⟩⟩⟩));have:=q t ht;unfold rankOf at this;rw[if_neg c'] at this;exact this
theorem Hb:fv ["kind","row","key","by"] ["kind","row"] (eS (top 15)):=fC
theorem A6 (T:Tb mg)(I:Dn K mg "rank" md (top 15) J U):en P w K mg base eu (1) J U md (k8):=by
 refine I.F.ok Hb λvs H Q E h=>?_;obtain⟨p,r,b,key,by_,fs,kvs,m,fp,rfl,hp,hR,hO,hF,hk,aa,q⟩:=h;refine⟨rfl,λac A outer s nd hr Y=>?_⟩
 refine⟨_,(eh (eN 2 nd (eI (pv 0) b_))
  (eh (eN 3 nd (eI (pv 0) b_))
  (eh (eO (eM fc (pv 3) eY (eK _)) (eA (eJ (gd (a_ (hZ Y (pv 1) (pv 2) (λ_ _=>rfl)) c_)))) eQ)
  (eA (eJ (gd (a_ (hZ Y (pv 1) (pv 3) (λ_ _=>rfl)) (a_ (hZ Y (pv 1) (pv 2) (λ_ _=>rfl)) c_)))))))),?_⟩
 ac_rfl
 have gk:f_ H r (.str key) (some (kV (keyOf m key))):=by have:=f_.k (k:=Sum.inr key) hR;rw[hO.key hF hk] at this;exact this
 refine(Zr rfl ⟨p,_,_,Zr rfl ⟨rfl,d_.of hp,rfl,?_⟩⟩);refine(Zr rfl ⟨p,_,_,Zr rfl ⟨rfl,d_.of hp,rfl,?_⟩⟩);refine(Zr rfl ⟨rfl,Zr rfl (fW (λc=>?_) (λc=>?_))⟩)
 . have c':by_="":=by
    have:=of_decide_eq_true c;injection this
   refine(Zr rfl (Zr rfl ⟨r,Zr rfl ⟨gk,iN,λt ht=>?_⟩⟩));have:=q t ht;unfold rankOf at this;rw[if_pos c'] at this;exact this
 . have c':¬by_="":=λz=>c (decide_eq_true (show V.str by_=V.str "" by rw[z]));have ab:fs.pl by_:=aa.resolve_left c';have gb:f_ H r (.str by_) (some (kV (keyOf m by_))):=by have:=f_.k (k:=Sum.inr by_) hR;rw[hO.key hF ab] at this;exact this
   refine(Zr rfl (Zr rfl ⟨r,Zr rfl ⟨gb,Zr rfl (Zr rfl ⟨r,Zr rfl ⟨gk,gh,λt ht=>?_⟩⟩)⟩⟩));have:=q t ht;unfold rankOf at this;rw[if_neg c'] at this;exact this
noncomputable def σV (a b pk:Addr) (room:Nat) (I ps:Addr) (x y:Option V):St:=[some (.ref a),some (.ref b),some (.ref pk),some (.int room),some (.ref I),some (.ref ps),x,y]
theorem tE {α I:Type}{F:α->I->Prop}{a:α}{b:I}:∀{as:List α}{bs:List I},Paired F as bs->F a b->Paired F (as++[a]) (bs++[b])
 |_,_,.nil,h=>.cons h .nil
 |_,_,.cons x r,h=>.cons x (tE r h)
theorem qN {J:List (Key × V)}{I:List Ds}{key:Str}(h:J.map (·.1)=I.map λr=>keyOf r key)(k:Key):(gD J k).isSome=jB key I k:=by
 rw[<-oy];unfold jB;have e:∀(l:List Ds),(l.any λr=>decide (keyOf r key=k))=((l.map λr=>keyOf r key).any λx=>decide (x=k)):=λl=>by rw[Q27];rfl
 rw[e,<-h,Q27];rfl
theorem eR.fh {b P:Addr}{H₀ H H':Hp}{n:Int}{lp:Pos}{ql:Str}(x:ff b P H H')(U:H b=some (.lst [.int n]))(hT:eU P lp ql H)(I:∃o,H₀ b=some o):
 ∀{vs:List V} {rs:List Ds} {J:List (List Addr)},eR H vs rs J->(∀c∈J.flatten,H₀ c=none)->eR H' vs rs J
 |_,_,_,.nil,_=>.nil
 |_,_,_,.cons h r,Y=>.cons (h.fh x U hT I λc hc=>Y c (Q0u _ hc)) (eR.fh x U hT I r λc hc=>Y c (Q06 _ hc))
theorem eR.keep {H H':Hp}(t:Tu H H'):∀{vs:List V}{rs:List Ds}{I:List (List Addr)},eR H vs rs I->(∀c∈I.flatten,∀o,H c=some o->H' c=some o)->eR H' vs rs I
 |_,_,_,.nil,_=>.nil
 |_,_,_,.cons h r,k=>.cons (h.keep t _ λc hc=>k c (Q0u _ hc)) (eR.keep t r λc hc=>k c (Q06 _ hc))
theorem eR.mu {H:Hp}{vs:List V}{rs:List Ds}{I:List (List Addr)}(h:eR H vs rs I):∀c∈I.flatten,Mu H c:=eW.alive _ h.own
theorem A7:fv XW XJ (eS (top 42)):=fC
theorem Hc {Pt c:Addr}(N:Nat)(T:Tb mg)(ai:Dn K mg "_law_rows" gZ (top 42) aj Y)(bb:Y.code=.ref c)(bA:W.CodeHd base c Pt)(bB:BM mg base)(ak:Dn K mg "_law_next" fg (top 33) al am)(an:en P w K mg base eu (1) al am fg (ml K))(J:Dn K mg "_law_rank" ke (top 41) ao ap)(aq:en P w K mg base eu (1) ao ap ke (k8))(ac:Dn K mg "_law_value" gZ (top 43) ae af)(ag:en P w K mg base eu (2 * N+5) ae af gZ (kq K Pt N)):
 en P w K mg base eu (2 * N+6) aj Y gZ (A4 K Pt N):=by
 refine ai.F.qh bb A7 (λvs H Q E h=>?_) (λA outer s H vs Q E hr h=>?_)
 . obtain⟨a,b,ns,n,kv,key,by_,fs,room,rfl,_⟩:=h;rfl
 obtain⟨a,b,ns,n,kv,key,by_,fs,room,rfl,g,hT,hk,hW,b3,bC,hn,q⟩:=h;have nd:=A7.nd;have hu:=zJ hr;unfold KA at hk;obtain⟨pk,pb,xs,rfl,aY,bD,bE⟩:=hk;have b4:=hW;unfold Kd.W at hW;obtain⟨bF,bG,aZ,aF,be⟩:=hW
 refine⟨_,(eh (eN 4 nd (gi c_))
  (eh (eN 5 nd pZ)
  (eh (hX PassesOwn.never rfl (ky rfl T.kU (a_ (eG fA (eL an hr ak (a_ (pv 0) (a_ (pv 1) c_))) (eG iH (pv 3) b_)) c_)) (fL (i:=6) nd rfl gc) (eh (eN 7 nd (eL ag hr ac (a_ (pv 0) (a_ (pv 1) (a_ (gd (a_ eY (a_ (eI (pv 2) b_) c_))) (a_ (eG gC (pv 3) b_) c_))))))
  (eA (eO (pI (zG hu (hZ hu (pv 7) (eI (pv 2) b_) (λ_ _=>rfl)) (pv 5)) (by with_unfolding_all rfl)) (eh (m7 hu (pv 5) (hZ hu (pv 7) (eI (pv 2) b_) (λ_ _=>rfl)) g8 rfl)
  (eA (j1 (lV PySem.F.plainAttrs_list PySem.F.slot_list_append PySem.F.type_list_append lW (pv 4) (a_ (pv 7) c_))))) eQ))))
  (eA (eJ (qe (x:="_law_row") (N':=["","","_law_kind_here","","","","",""]) rfl T.oQ boot_sorted hr rfl rfl bA bB (j9.of (N:=XW) (sc:=eS (top 42)) rfl rfl rfl rfl rfl (by decide +kernel)) rfl (λ_ _ _ _ _=>rfl) (pv 4) (λ_ _ _ _ _=>(oj aq (fY.deeper (k:=1) (fY.in1 (k:=2) (fY.in1 (k:=3) (hr.mono (by omega)))) _) rfl J.m J.F.kp J.b .nil jh (a_ (pv 3) (a_ (pv 0) c_)))))))))),?_⟩
 ac_rfl
 have bH:(Kd.rows key by_ fs).cB=8 * fs.cB+1:=rfl;rw[bH] at hn;have hb:=g.at_;obtain⟨b5,hP⟩:=hT.tab;refine⟨nu,λpr aL=>?_⟩;intro ps az
 have aG:H ps=none:=by
  by_cases e:ps=pr
  . rw[e,eF] at az;cases az
  . rwa [eE e] at az
 have a1:ps≠pr:=λe=>by rw[e,eF] at az;cases az
 have s0:Same H (upd (upd H pr (.lst [])) ps (.dK [])):=(Same.new aL).trans (Same.new az);have hT0:=hT.same s0;have g0:G0 K (upd (upd H pr (.lst [])) ps (.dK [])) a b ns n:=⟨(SB.of s0).iB hb g.iB,g.len,s0 _ _ hb,g.pos⟩;refine(Zr rfl (Zr rfl ⟨a,b,ns,n,rfl,g0,by omega,λH1 s1 h1=>?_⟩));refine(Zr rfl ⟨_,Zr rfl ⟨rfl,_,Zr rfl ⟨rfl,by omega,?_⟩⟩⟩);have b6:=Q0g (nx ns (n+1)) (show((room:Int)+1)≠0 by omega);have b7:=Q0i (nx ns (n+1)) (show(0:Int)<(room:Int)+1 by omega);have a2:b≠pr:=eP hb aL;have a3:b≠ps:=eP hb aG;have js:Pt≠pr:=eP hP aL;have bI:Pt≠ps:=eP hP aG;have bJ:H1 pr=some (.lst []):=s1 pr _ (Ne.symm a2) (by rw[eE (Ne.symm a1)];exact eF);have bK:H1 ps=some (.dK []):=s1 ps _ (Ne.symm a3) eF;have bL:eU Pt gH gI H1:=hT0.sb (s0 _ _ hb) s1;have k1:ff b Pt H H1:=λc o nc e=>s1 c o (λz=>nc (.inl z)) (s0 c o e);have cnt:=λm=>nq ns fs (room / 2) m (by omega)
 refine(Zr rfl ⟨by omega,by omega,kE (n:=Int.toNat (nx ns (n+1) % ((room:Int)+1))) (λi σ H'=>∃x y vs fl sk,σ=σV a b pk room pr ps x y/\ff b Pt H H'/\H' b=some (.lst [.int (f9 (e9 ns fs (room / 2)) key i [] (n+1)).2])/\eU Pt gH gI H'/\
  H' pr=some (.lst vs)/\H' ps=some (.dK sk)/\eR H' vs (f9 (e9 ns fs (room / 2)) key i [] (n+1)).1 fl/\fl.flatten.Nodup/\(∀c∈fl.flatten,H c=none/\c≠pr/\c≠ps)/\sk.map (·.1)=((f9 (e9 ns fs (room / 2)) key i [] (n+1)).1.map λr=>keyOf r key)/\vs.length<=i) ?_ ?_ ?_⟩)
 . exact⟨_,_,[],[],[],rfl,k1,h1,bL,bJ,bK,.nil,Q0x,λc hc=>absurd hc (by simp),rfl,Q00 _⟩
 . intro i σ H' hi zq;obtain⟨x,y,vs,fl,sk,rfl,kp,aC,aA,aM,a4,aa,aP,au,aD,bM⟩:=zq;have b8:i<8:=by omega
   obtain⟨c1,c2⟩:=qp (key:=key) cnt i [] (n+1);have c3:i * fs.cB<=7 * fs.cB:=Q0w _ (by omega);have aE:Tu H H':=kp.tu hb hT;refine(Zr rfl (Zr rfl (Zr rfl ⟨pk,_,_,Zr rfl ⟨rfl,d_.of (aE _ _ aY),rfl,gh,λt ht=>?_⟩⟩)));have st:Same H' (upd H' t (.tup [.str "record",.ref pb])):=Same.new ht;have e2:((room / 2:Nat):Int)=(room:Int) / 2:=by omega
   have bN:KA (upd H' t (.tup [.str "record",.ref pb])) (.ref t) (.eX fs):=by
    unfold KA;exact⟨t,pb,xs,rfl,eF,st _ _ (aE _ _ bD),FA.mono (aE.trans (Tu.of st)) fs bE⟩
   have b9:=g.pos;refine(Zr rfl ⟨_,Zr rfl ⟨rfl,⟨by decide,by decide⟩,a,b,ns,(f9 (e9 ns fs (room / 2)) key i [] (n+1)).2,.ref t,.eX fs,room / 2,(by rw[e2];rfl),ff.g0 (kp.trans (Kp.of st)) g hT (st _ _ aC) (by omega),aA.same st,bN,(by unfold Kd.W;exact⟨bF,bG,aZ⟩),by omega,(by simp only[mu,Kd.dep] at bC ⊢;omega),(by simp only[kc,Kd.cB];omega),?_⟩⟩);intro v H2 fp fh aB bf aw bt aV;have ev:val ns (.eX fs) (room / 2) (f9 (e9 ns fs (room / 2)) key i [] (n+1)).2=(.dct (e9 ns fs (room / 2) (f9 (e9 ns fs (room / 2)) key i [] (n+1)).2).1,(e9 ns fs (room / 2) (f9 (e9 ns fs (room / 2)) key i [] (n+1)).2).2):=by simp only[val]
   rw[ev] at aB aw;have bu:=kQ ns fs aZ (room / 2) (f9 (e9 ns fs (room / 2)) key i [] (n+1)).2 (by omega);have succ:=s_ (g:=e9 ns fs (room / 2)) (key:=key) i [] (n+1);generalize f9 (e9 ns fs (room / 2)) key (i+1) [] (n+1)=ca at succ ⊢;generalize f9 (e9 ns fs (room / 2)) key i [] (n+1)=I at *;generalize e9 ns fs (room / 2) I.2=ab at *;have ar:ff b Pt H' H2:=(Kp.of st).trans fh;have bO:∃o,H b=some o:=⟨_,hb⟩;have bg:H2 pr=some (.lst vs):=ar pr _ (λz=>z.elim (Ne.symm a2) (Ne.symm js)) aM;have aQ:H2 ps=some (.dK sk):=ar ps _ (λz=>z.elim (Ne.symm a3) (Ne.symm bI)) a4;have U:eR H2 vs I.1 fl:=eR.fh ar aC aA bO aa λc hc=>(au c hc).1;have bc:=aw;unfold Own at aw;obtain⟨rr,kvs,fq,rfl,a5,cb,a6⟩:=aw;have ax:H2 pk=some (.tup [.str "rows",.str key,.str by_,.ref pb]):=ff.at (kp.trans ar) hb hT (by intro z;cases z) (by intro ps z;cases z) aY;have gk:f_ H2 rr (.str key) (some (kV (keyOf ab.1 key))):=by have:=f_.k (k:=Sum.inr key) a5;rw[a6.key bu aF] at this;exact this
   have gs:f_ H2 ps (kV (keyOf ab.1 key)) (gD sk (keyOf ab.1 key)):=f_.k aQ;have sv:=qN aD (keyOf ab.1 key);have aI:ff b Pt H H2:=kp.trans ar;refine(Zr rfl (Zr rfl ⟨pk,_,_,Zr rfl ⟨rfl,d_.of ax,rfl,rr,Zr rfl ⟨gk,Zr rfl ⟨ps,Zr rfl ⟨gs,Zr rfl ?_⟩⟩⟩⟩⟩))
   cases ec:jB key I.1 (keyOf ab.1 key) with
   |true=>
    rw[ec] at sv;rw[ec,if_pos rfl] at succ;rw[sv];subst succ;exact e_ ⟨_,_,vs,fl,sk,rfl,aI,aB,bf,bg,aQ,U,aP,au,aD,by omega⟩
   |false=>
    rw[ec] at sv;rw[ec,if_neg (by simp)] at succ;rw[sv];subst succ;refine fw ?_
    have bP:gD sk (keyOf ab.1 key)=none:=by
     cases z:gD sk (keyOf ab.1 key) with
     |none=>rfl
     |some o=>rw[z] at sv;cases sv
    have bv:sk.length<sizeLine:=by
     have e1:sk.length=(I.1.map λr=>keyOf r key).length:=by rw[<-aD,Q04]
     rw[Q04] at e1;have cd:=(A3.len U).1;exact gE (by omega)
    refine(Zr rfl (Zr rfl (Zr rfl ⟨pk,_,_,Zr rfl ⟨rfl,d_.of ax,rfl,rr,Zr rfl ⟨gk,ps,Zr rfl ⟨jy.k aQ bv,?_⟩⟩⟩⟩)));rw[oO bP];have bh:Mu H2 ps:=.inr ⟨_,aQ⟩;have bQ:Tu H2 (upd H2 ps (.dK (sk++[(keyOf ab.1 key,.bl true)]))):=Tu.wr λys z=>bh.sO ys z;have a7:upd H2 ps (.dK (sk++[(keyOf ab.1 key,.bl true)])) pr=some (.lst vs):=by rw[eE (Ne.symm a1)];exact bg
    refine(Zr rfl ⟨.inl ⟨rfl,_,eB.of a7⟩,Zr rfl ⟨pr,_,Zr rfl ⟨rfl,a7,gE (by omega),?_⟩⟩⟩);have bi:Mu (upd H2 ps (.dK (sk++[(keyOf ab.1 key,.bl true)]))) pr:=.inl ⟨_,a7⟩;have bj:Tu H2 (upd (upd H2 ps (.dK (sk++[(keyOf ab.1 key,.bl true)]))) pr (.lst (vs++[.ref rr]))):=bQ.trans (Tu.wr λys z=>bi.sO ys z)
    have aH:∀c∈fp,H c=none/\c≠pr/\c≠ps:=λc hc=>by
     have z:=aV c hc;have z':H' c=none:=st.free z;have nb:c≠b:=λe=>by rw[e,aC] at z';cases z'
     obtain⟨bm,a8⟩:=aA.tab;have nP:c≠Pt:=λe=>by rw[e,a8] at z';cases z'
     refine⟨kp.oP (λe=>e.elim nb nP) z',λe=>?_,λe=>?_⟩
     . rw[e,aM] at z';cases z'
     . rw[e,a4] at z';cases z'
    have ah:∀c,c≠pr->c≠ps->upd (upd H2 ps (.dK (sk++[(keyOf ab.1 key,.bl true)]))) pr (.lst (vs++[.ref rr])) c=H2 c:=λc n1 n2=>by rw[eE n1,eE n2]
    refine⟨_,_,vs++[.ref rr],fl++[fp],Zr rfl ⟨λc o nc e=>?_,by rw[ah b a2 a3];exact aB,(bf.wr bh).wr bi,eF,by rw[eE a1];exact eF,?_,?_,?_,?_,by rw[Q0d];show vs.length+1<=i+1;omega⟩⟩
    . rw[ah c (eP e aL) (eP e aG)];exact aI c o nc e
    . refine A3.snoc ?_ (eR.keep bj U λc hc o e=>by rw[ah c (au c hc).2.1 (au c hc).2.2];exact e);exact bc.keep bj _ λc hc o e=>by rw[ah c (aH c hc).2.1 (aH c hc).2.2];exact e
    . rw[Q1q];refine List.nodup_append.mpr ⟨aP,by simpa using bt,λc hc d hd=>?_⟩;have bR:d∈fp:=by simpa using hd
      intro e;subst e;obtain⟨o,eo⟩:=(eR.mu aa c hc).ex;have:=st.free (aV c bR);rw[eo] at this;cases this
    . intro c hc;rw[Q1q] at hc;rcases List.mem_append.mp hc with z|z
      . exact au c z
      . exact aH c (by simpa using z)
    . rw[Q0j,Q0j,aD];rfl
 . intro σ H' zq;obtain⟨x,y,vs,fl,sk,rfl,kp,aC,aA,aM,a4,aa,aP,au,aD,bM⟩:=zq;have bS:val ns (.rows key by_ fs) room n=(.lst (gm (gw key by_ (f9 (e9 ns fs (room / 2)) key (nx ns (n+1) % ((room:Int)+1)).toNat [] (n+1)).1)),(f9 (e9 ns fs (room / 2)) key (nx ns (n+1) % ((room:Int)+1)).toNat [] (n+1)).2):=by simp only[val]
   rw[bS] at q;have aJ:∀m∈(f9 (e9 ns fs (room / 2)) key (nx ns (n+1) % ((room:Int)+1)).toNat [] (n+1)).1,fJ fs m:=ni (R:=fJ fs) (λn=>kQ ns fs aZ (room / 2) n (by omega)) _ _ _ (λr hr=>absurd hr (by simp));have bT:=qm (g:=e9 ns fs (room / 2)) (key:=key) (nx ns (n+1) % ((room:Int)+1)).toNat [] (n+1) Q0x;generalize f9 (e9 ns fs (room / 2)) key (nx ns (n+1) % ((room:Int)+1)).toNat [] (n+1)=I at *;obtain⟨aW,bw⟩:=A3.len aa;refine(Zr rfl ⟨pr,vs,rfl,eB.of aM,by omega,aA,λc' H2 a9 mono=>?_⟩);have aE:Tu H H':=kp.tu hb hT
   have np:∀cc o,(∀ps,o≠ .gA ps)->H' cc=some o->H2 cc=some o:=λcc o ho e=>by
    obtain⟨bm,a8⟩:=aA.tab;exact mono cc o (gO e a8 (ho bm)) e
   have bn:Tu H' H2:=λcc ys e=>np cc _ (by intro ps z;cases z) e
   have U:eR H2 vs I.1 fl:=eR.keep bn aa λcc hc o e=>np cc o (by
    intro ps z;rcases eR.mu aa cc hc with⟨_,q⟩|⟨_,q⟩ <;> rw[e] at q <;> rw[z] at q <;> cases q) e
   have ax:H2 pk=some (.tup [.str "rows",.str key,.str by_,.ref pb]):=bn _ _ (aE _ _ aY);refine⟨λks H3=>Same H2 H3/\ks.length<=vs.length/\l6 H3 ks ((I.1.map (rankOf key by_)).take ks.length),⟨Same.refl _,Q07 _,.nil⟩,λks H3 hw=>a9.mono λcc o _ e=>hw.1 _ _ e,?_,?_⟩
   . rintro ks H3 yv ⟨s3,bU,aT⟩ hy;have bo:ks.length<vs.length:=(List.getElem?_eq_some_iff.mp hy).1;have aX:=A3.at (a0:=V.non) (b0:=Ds.nil) (c0:=[]) U ks.length bo;have ey:vs.getD ks.length .non=yv:=by rw[Q0e,hy];rfl
     rw[ey] at aX
     have bx:I.1.getD ks.length .nil∈I.1:=by
      rw[Q0e,Q03 (by omega)];exact Q0v _
     have aK:=Own.same s3 aX;unfold Own at aK;obtain⟨rr,kvs,fq,rfl,a5,_,a6⟩:=aK;refine(Zr rfl (Zr rfl ⟨pk,rr,pb,key,by_,fs,kvs,_,fq,rfl,s3 _ _ ax,a5,a6,aJ _ bx,aF,be,λt ht=>⟨s3.trans (Same.new ht),by rw[Q0d];exact bo,?_⟩⟩))
     have et:(I.1.map (rankOf key by_)).take (ks++[V.ref t]).length=(I.1.map (rankOf key by_)).take ks.length++[rankOf key by_ (I.1.getD ks.length .nil)]:=by
      rw[Q0d];show List.take (ks.length+1) _=_;rw[Q0t,Q0q,Q0e,Q03 (by omega)];rfl
     rw[et];refine tE (Paired.nX aT λk kl z=>?_) ⟨t,rfl,eF⟩;obtain⟨pp,e,hh⟩:=z;exact⟨pp,e,by rw[eE (eP hh ht)];exact hh⟩
   . rintro ks H3 ⟨s3,bU,aT⟩ bz
     have bV:(I.1.map (rankOf key by_)).take ks.length=I.1.map (rankOf key by_):=by
      rw[bz,aW,Q30 (by rw[Q04];exact Q00 _)]
     rw[bV] at aT;refine⟨_,aT,⟨if by_="" then [jS (fs.get key)] else [jS (fs.get by_),jS (fs.get key)],by split <;> simp,λkl bW=>?_⟩,λp hp hs D hD=>?_⟩
     . obtain⟨m,hm,rfl⟩:=List.mem_map.mp bW;exact qj (aJ m hm) aF be
     have ba:∀i∈p,i<vs.length:=λi hi=>by
      have:=hp.mem_iff.mp hi;simpa using this
     have bX:p.Perm (List.range I.1.length):=by rw[<-aW];exact hp
     have hz:(p.map λi=>I.1.getD i .nil)=gw key by_ I.1:=by
      refine ng (qr _ bX) ?_ bT;rw[Q20] at hs ⊢;refine List.Pairwise.imp_of_mem (λ{i j} hi hj h=>?_) hs;have bY:=ba i hi;have bZ:=ba j hj
      have ge:∀i,i<vs.length->(I.1.map (rankOf key by_)).getD i []=rankOf key by_ (I.1.getD i .nil):=λi hi=>by
       rw[Q0e,Q0e,Q0q,Q03 (by omega)];rfl
      rw[ge i bY,ge j bZ] at h;exact h
     have ay:eR H3 vs I.1 fl:=eR.keep (Tu.of s3) U λcc _ o e=>s3 cc o e;have sD:Same H3 (upd H3 D (.lst (p.map λi=>vs.getD i .non))):=Same.new hD;have aU:eR (upd H3 D (.lst (p.map λi=>vs.getD i .non))) vs I.1 fl:=eR.keep (Tu.of sD) ay λcc _ o e=>sD cc o e;have bd:=A3.pick (a0:=V.non) (b0:=Ds.nil) (c0:=[]) aU p ba;have b1:(p.map λi=>fl.getD i []).Perm fl:=qr _ (by rw[<-bw];exact hp);have av:=AD b1;have aB:H2 b=some (.lst [.int I.2]):=np b _ (by intro ps z;cases z) aC;have bp:D≠b:=λe=>by rw[e,s3 _ _ aB] at hD;cases hD
     have bq:D≠Pt:=λe=>by rw[e,s3 _ _ a9.1] at hD;cases hD
     have br:=s3.free hD
     have b2:H' D=none:=by
      cases e:H' D with
      |none=>rfl
      |some o=>rw[mono D o bq e] at br;cases br
     refine q (.ref D) _ (D::(p.map λi=>fl.getD i []).flatten) (λcc o nc e=>?_) (by rw[eE (Ne.symm bp)];exact s3 _ _ aB) (.inr ⟨c',a9.mono λcc o _ e=>sD _ _ (s3 _ _ e)⟩) ?_ ?_ ?_
     . have e1:=kp cc o nc e;exact sD _ _ (s3 _ _ (mono cc o (λz=>nc (.inr z)) e1))
     . unfold Own;exact⟨D,_,Zr rfl ⟨eF,rfl,by rw[<-hz];exact eR.own bd⟩⟩
     . refine List.nodup_cons.mpr ⟨λhm=>?_,av.nodup_iff.mpr aP⟩;obtain⟨o,eo⟩:=(eR.mu ay D (av.mem_iff.mp hm)).ex;rw[hD] at eo;cases eo
     . intro cc hc;rcases List.mem_cons.mp hc with z|z
       . rw[z];exact kp.oP (λe=>e.elim bp bq) b2
       . exact(au cc (av.mem_iff.mp z)).1
theorem Hd (k:Kd)(room:Nat):16<=mu k room:=by
 have:=k.jQ
 cases k <;> simp only[mu,Kd.dep] at * <;> omega
noncomputable def σU (a b:Addr) (I:V) (room:Nat) (J U Y x4 x5:Option V):St:=[some (.ref a),some (.ref b),some I,some (.int room),J,U,Y,x4,x5]
theorem eV.fh {b P:Addr}{H₀ H H':Hp}{v:List (Key × V)}{d:Ds}{I:List Addr}{n:Int}{U:Pos}{Y:Str}(h:eV H v d I)(x:ff b P H H')(hb:H b=some (.lst [.int n]))(hT:eU P U Y H)(J:∃o,H₀ b=some o)(fr:∀c∈I,H₀ c=none):eV H' v d I:=by
 refine h.keep (ff.tu x hb hT) d λc hc o e=>x c o (λz=>?_) e;rcases z with z|z
 . obtain⟨o',e'⟩:=J;have:=fr c hc;rw[z,e'] at this;cases this
 . obtain⟨ps,hP⟩:=hT.tab;rcases eV.alive d h c hc with⟨xs,q⟩|⟨xs,q⟩ <;> rw[z,hP] at q <;> cases q
theorem eW.fh {b P:Addr}{H₀ H H':Hp}{v:List V}{d:Ds}{I:List Addr}{n:Int}{U:Pos}{Y:Str}(h:eW H v d I)(x:ff b P H H')(hb:H b=some (.lst [.int n]))(hT:eU P U Y H)(J:∃o,H₀ b=some o)(fr:∀c∈I,H₀ c=none):eW H' v d I:=by
 refine h.keep (ff.tu x hb hT) d λc hc o e=>x c o (λz=>?_) e;rcases z with z|z
 . obtain⟨o',e'⟩:=J;have:=fr c hc;rw[z,e'] at this;cases this
 . obtain⟨ps,hP⟩:=hT.tab;rcases eW.alive d h c hc with⟨xs,q⟩|⟨xs,q⟩ <;> rw[z,hP] at q <;> cases q
theorem ff.fresh {b P c:Addr}{H H':Hp}{n:Int}{I:Pos}{J:Str}(x:ff b P H H')(U:H' b=some (.lst [.int n]))(hT:eU P I J H')(h:H' c=none):H c=none:=by
 obtain⟨ps,Y⟩:=hT.tab;exact x.oP (λe=>e.elim (λz=>by rw[z,U] at h;cases h) λz=>by rw[z,Y] at h;cases h) h
theorem A8:fv XQ XJ (eS (top 43)):=fC
theorem He {Pt:Addr}(T:Tb mg)(I:Dn K mg "_law_value" gZ (top 43) J U):en P w K mg base eu (2 * 0+5) J U gZ (kq K Pt 0):=by
 refine I.F.ok A8 λvs H Q E h=>?_;obtain⟨a,b,ns,n,kv,k,room,rfl,g,hT,hk,hW,aa,Y,_⟩:=h;refine⟨rfl,λab A outer s nd hr hu=>?_⟩;exact absurd Y (by have:=Hd k room;omega)
theorem Hf {Pt:Addr}(N:Nat)(T:Tb mg)(I:Dn K mg "_law_value" gZ (top 43) ab ac)(U:en P w K mg base eu (2 * N+5) ab ac gZ (kq K Pt N))(ap:Dn K mg "_law_rows" gZ (top 42) aq ar)(au:en P w K mg base eu (2 * N+6) aq ar gZ (A4 K Pt N))(ae:Dn K mg "_law_next" fg (top 33) av aw)(af:en P w K mg base eu (1) av aw fg (ml K))(al:Dn K mg "_law_number" fg (top 34) am an)(ao:en P w K mg base eu (2) am an fg (AO K))(ax:Dn K mg "_law_word" fg (top 35) ay az)(aA:en P w K mg base eu (2) ay az fg (AQ K)):
 en P w K mg base eu (2 * (N+1)+5) ab ac gZ (kq K Pt (N+1)):=by
 refine I.F.ok A8 λvs H Q E h=>?_;obtain⟨a,b,ns,n,kv,k,room,rfl,g,hT,hk,hW,aa,a5,hn,q⟩:=h;refine⟨rfl,λbD A outer s nd hr hu=>?_⟩
 refine⟨_,(eh (eO (eM fc (eI (pv 2) b_) eY (eK _)) (eA (eJ (eL ao hr al (a_ (pv 0) (a_ (pv 1) c_))))) eQ)
  (eh (eO (eM fc (eI (pv 2) b_) eY (eK _)) (eA (eJ (eL aA hr ax (a_ (pv 0) (a_ (pv 1) c_))))) eQ)
  (eh (eO (eM fc (eI (pv 2) b_) eY (eK _)) (eh (eN 4 nd pZ)
  (eh (hX PassesOwn.never rfl (jv (eI (pv 2) b_)) (iZ rfl (gQ (fL (i:=5) nd rfl gc) (gQ (fL (i:=6) nd rfl gc) iY))) (eA (m7 hu (pv 4) (pv 5) (eL U hr I (a_ (pv 0) (a_ (pv 1) (a_ (pv 6) (a_ (pv 3) c_))))) rfl)))
  (eA (eJ (pv 4))))) eQ)
  (eh (eO (eM fc (eI (pv 2) b_) eY (eK _)) (eA (eJ (eL au hr ap (a_ (pv 0) (a_ (pv 1) (a_ (pv 2) (a_ (pv 3) c_))))))) eQ)
  (eh (eO (eM fc (eI (pv 2) b_) eY (eK _)) (eh (eN 7 nd (eL U hr I (a_ (pv 0) (a_ (pv 1) (a_ (eI (pv 2) b_) (a_ (eG gC (pv 3) b_) c_))))))
  (eh (eN 8 nd (eG fA (eL af hr ae (a_ (pv 0) (a_ (pv 1) c_))) (eG iH (pv 3) b_)))
  (eA (eJ (gd (a_ (pv 7) (a_ (kL (g:=(gS 0)) (tt:=kK) (te:=(jg _ _ _ (gy (fT 1) (gy (fT 2) (gy (fT 3) (gy (gT _ (fT 4) (tC (.int 2))) iz)))))) (own:=["_law_k"]) rfl (i5 (N:=XQ) (sc:=eS (top 43))) (ky rfl T.kU (a_ (pv 8) c_)) (λ_ _ _ _ _=>(fL (i:=0) (show(["_law_k","_law_script","_law_at","_law_kind_here","_law_room","_law_made","_law_name","_law_inner","_law_top","_law_many"]:List Str).Nodup by decide +kernel) rfl (Or.inl rfl) (.inr rfl))) (λ_ _ _ _ _=>m8) (λ_ _ _ _ _=>(eL U hr I (a_ (pv 1) (a_ (pv 2) (a_ (pv 3) (a_ (eG gC (pv 4) b_) c_))))))) c_))))))) eQ)
  (eh (pP (eI (eI (pv 2) b_) (eG fA (eL af hr ae (a_ (pv 0) (a_ (pv 1) c_))) (fM gY (by rfl) T.gM PySem.boot_len (a_ (eI (pv 2) b_) c_)))) (iZ rfl (gQ (fL (i:=5) nd rfl gc) (gQ (fL (i:=6) nd rfl gc) iY))))
  (eA (eJ (gd (a_ (pv 5) (a_ (eL U hr I (a_ (pv 0) (a_ (pv 1) (a_ (pv 6) (a_ (pv 3) c_))))) c_))))))))))),?_⟩
 ac_rfl
 have hb:=g.at_;have bE:=g.pos;have aU:∃o,H b=some o:=⟨_,hb⟩;obtain⟨bF,hP⟩:=hT.tab;have e2:((room / 2:Nat):Int)=(room:Int) / 2:=by omega
 cases k with
 |num=>
  unfold KA at hk;obtain⟨c,rfl,hc⟩:=hk;simp only[kc,Kd.cB] at hn;refine h9 rfl hc rfl (by decide +kernel) ?_;refine(Zr rfl (Zr rfl ⟨a,b,ns,n,rfl,g,by omega,λH1 s1 h1=>?_⟩));have ev:val ns .num room n=(.int (num ns (n+1)),n+1):=by simp only[val]
  rw[ev] at q;exact q _ H1 [] (SB.fh s1) h1 (hT.sb hb s1) (by unfold Own;exact⟨rfl,rfl⟩) Q0x λc hc=>absurd hc (by simp)
 |fy=>
  unfold KA at hk;obtain⟨c,rfl,hc⟩:=hk;simp only[kc,Kd.cB] at hn;refine fU rfl hc rfl (by decide +kernel) ?_;refine h9 rfl hc rfl (by decide +kernel) ?_;refine(Zr rfl (Zr rfl ⟨a,b,ns,n,rfl,g,by omega,λH1 s1 h1=>?_⟩));have ev:val ns .fy room n=(.str (fy ns (n+1)),n+1):=by simp only[val]
  rw[ev] at q;exact q _ H1 [] (SB.fh s1) h1 (hT.sb hb s1) (by unfold Own;exact⟨rfl,rfl⟩) Q0x λc hc=>absurd hc (by simp)
 |eX fs=>
  unfold KA at hk;obtain⟨pk,pb,xs,rfl,Y,aD,aE⟩:=hk;unfold Kd.W at hW;obtain⟨a6,bg,aV⟩:=hW;refine fU rfl Y rfl (by decide +kernel) ?_;refine fU rfl Y rfl (by decide +kernel) ?_;refine h9 rfl Y rfl (by decide +kernel) ?_;intro p hp;have a7:b≠p:=eP hb hp;have bh:Pt≠p:=eP hP hp;have s0:Same H (upd H p (.dK [])):=Same.new hp;have bi:val ns (.eX fs) room n=(.dct (e9 ns fs room n).1,(e9 ns fs room n).2):=by simp only[val]
  rw[bi] at q;simp only[kc,Kd.cB] at hn
  refine(Zr rfl ⟨pk,_,_,Zr rfl ⟨rfl,d_.of (s0 _ _ Y),rfl,pb,rfl,⟨_,d_.of (s0 _ _ aD)⟩,kB (xs:=xs) (λi σ H'=>∃x2 x3 x4 x5 kvs fq,σ=σU a b (.ref pk) room (some (.ref p)) x2 x3 x4 x5/\ff b Pt H H'/\H' b=some (.lst [.int (e9 ns (fs.take i) room n).2])/\eU Pt gH gI H'/\
   H' p=some (.dK kvs)/\eV H' kvs (e9 ns (fs.take i) room n).1 fq/\fq.Nodup/\∀c∈fq,H c=none/\c≠p) ?_ ?_ ?_ ?_⟩⟩)
  . rw[Fs.take_zero];refine⟨_,_,_,_,[],[],rfl,Kp.of s0,by simp only[e9];exact s0 _ _ hb,hT.same s0,eF,?_,Q0x,λc hc=>absurd hc (by simp)⟩;simp only[e9];unfold eV;exact⟨rfl,rfl⟩
  . intro i σ H' _ zq;obtain⟨x2,x3,x4,x5,kvs,fq,rfl,kp,_⟩:=zq;exact d_.of (ff.tu kp hb hT _ _ aD)
  . intro i v σ H' hv zq;obtain⟨x2,x3,x4,x5,kvs,fq,rfl,kp,ag,ah,aJ,hO,aF,ai⟩:=zq;have a8:=ff.tu kp hb hT;obtain⟨c,u,nm,k,rfl,aj,hc,hk⟩:=FA.get fs aE hv;have cn:=nq ns (fs.take i) room n aa;have cb:=Fs.A2 aj;refine⟨c,Zr rfl ⟨d_.of (a8 _ _ hc),rfl,_,Zr rfl ⟨_,Zr rfl ⟨rfl,?_⟩⟩⟩⟩;refine(Zr rfl (Zr rfl (Zr rfl (Zr rfl ⟨a,b,ns,(e9 ns (fs.take i) room n).2,u,k,room,rfl,ff.g0 kp g hT ag cn.1,ah,KA.mono a8 k hk,Fs.j_ aV aj,aa,?_,by have:=tw k room;omega,?_⟩))))
    . have:mu k room<mu (.eX fs) room:=tf (by have:=Fs.kM aj;simp only[Kd.dep];omega) aa;omega
    intro v2 H2 fp fh aG aH aB aC ak;have a9:H2 p=some (.dK kvs):=fh p _ (λz=>z.elim (Ne.symm a7) (Ne.symm bh)) aJ;have bj:=eV.fh hO fh ag ah aU λc hc=>(ai c hc).1;have bm:nm ∉ (e9 ns (fs.take i) room n).1.names:=by rw[qL];exact Fs.G_ a6 aj
    have bn:kvs.length<sizeLine:=by
     rw[eV.len hO,qL];have:(fs.take i).names.length<=fs.names.length:=by rw[Fs.tD,Q0n];omega
     exact gE (by omega)
    refine(Zr rfl (Zr rfl ⟨p,Zr rfl ⟨jy.k (k:=Sum.inr nm) a9 bn,?_⟩⟩));rw[oO (eV.AB hO bm)];have ba:Mu H2 p:=.inr ⟨_,a9⟩;have bb:Tu H2 (upd H2 p (.dK (kvs++[(Sum.inr nm,v2)]))):=Tu.wr λys z=>ba.sO ys z
    have aP:∀c∈fp,H c=none/\c≠p:=λc hc=>by
     have z:=ak c hc;exact⟨ff.fresh kp ag ah z,λe=>by rw[e,aJ] at z;cases z⟩
    have sn:=AY ns nm k room (fs.take i) n;rw[Fs.take_succ aj,sn];refine⟨_,_,_,_,_,fq++fp,rfl,λc o nc e=>?_,by rw[eE a7];exact aG,aH.wr ba,eF,?_,?_,?_⟩
    . rw[eE (eP e hp)];exact fh c o nc (kp c o nc e)
    . exact eV.snoc (aB.keep bb _ λc hc o e=>by rw[eE (aP c hc).2];exact e) _ (bj.keep bb _ λc hc o e=>by rw[eE (ai c hc).2];exact e)
    . refine List.nodup_append.mpr ⟨aF,aC,λc hc d hd=>?_⟩;intro e;subst e;obtain⟨o,eo⟩:=(eV.alive _ hO c hc).ex;rw[ak c hd] at eo;cases eo
    . intro c hc;rcases List.mem_append.mp hc with z|z
      . exact ai c z
      . exact aP c z
  . intro σ H' zq;obtain⟨x2,x3,x4,x5,kvs,fq,rfl,kp,ag,ah,aJ,hO,aF,ai⟩:=zq;rw[FA.len fs aE,Fs.take_all] at ag hO;refine(Zr rfl (q (.ref p) H' (p::fq) kp ag ah ?_ ?_ ?_))
    . unfold Own;exact⟨p,kvs,fq,rfl,aJ,rfl,hO⟩
    . exact List.nodup_cons.mpr ⟨λhm=>(ai p hm).2 rfl,aF⟩
    . intro c hc;rcases List.mem_cons.mp hc with z|z
      . rw[z];exact hp
      . exact(ai c z).1
 |rows key by_ fs=>
  have aW:=hk;unfold KA at hk;obtain⟨pk,pb,xs,rfl,Y,aD,aE⟩:=hk;simp only[kc] at hn;refine fU rfl Y rfl (by decide +kernel) ?_;refine fU rfl Y rfl (by decide +kernel) ?_;refine fU rfl Y rfl (by decide +kernel) ?_;refine h9 rfl Y rfl (by decide +kernel) ?_;exact(Zr rfl (Zr rfl (Zr rfl (Zr rfl ⟨a,b,ns,n,_,key,by_,fs,room,rfl,g,hT,aW,hW,aa,a5,hn,q⟩))))
 |tree k=>
  have aW:=hk;unfold KA at hk;obtain⟨pk,u,rfl,Y,bo⟩:=hk;unfold Kd.W at hW;refine fU rfl Y rfl (by decide +kernel) ?_;refine fU rfl Y rfl (by decide +kernel) ?_;refine fU rfl Y rfl (by decide +kernel) ?_;refine fU rfl Y rfl (by decide +kernel) ?_;refine h9 rfl Y rfl (by decide +kernel) ?_;have ev:=G6 ns k room n aa;rw[ev] at q;simp only[kc,Kd.cB] at hn;have bG:k.cB+1<=(k.cB+1) * gr room:=Q31 _ (tm room).1
  have m1:mu k (room / 2)<=N:=by
   have:mu k (room / 2)<mu (.tree k) room:=tf (by simp only[Kd.dep];omega) (by omega);omega
  refine(Zr rfl (Zr rfl (Zr rfl ⟨pk,_,_,Zr rfl ⟨rfl,d_.of Y,rfl,Zr rfl ⟨_,Zr rfl ⟨rfl,⟨by decide,by decide⟩,a,b,ns,n,u,k,room / 2,(by rw[e2];rfl),g,hT,bo,hW,by omega,m1,by have:=tw k (room / 2);have:k.cB+1<=(k.cB+1) * gr room:=Q31 _ (tm room).1;omega,?_⟩⟩⟩⟩)));intro vt Ht aK aX aL bc bp bq aY;have ct:=kT ns k (room / 2) n (by omega);generalize bH:val ns k (room / 2) n=J at *;refine(Zr rfl (Zr rfl ⟨a,b,ns,J.2,rfl,ff.g0 aX g hT aL ct.1,by omega,λH1 s1 h1=>?_⟩));have g1:G0 K H1 a b ns (J.2+1):=(ff.g0 aX g hT aL ct.1).go s1 h1 (by omega);have aZ:=bc.sb aL s1;have k1:ff b Pt H H1:=aX.trans (SB.fh s1);have aQ:Own H1 vt J.1 aK:=bp.fh (SB.fh s1) aL bc aU aY;refine(Zr rfl ⟨_,Zr rfl ⟨rfl,_,Zr rfl ⟨rfl,by omega,?_⟩⟩⟩);have br:=Q0g (nx ns (J.2+1)) (show((room:Int)+1)≠0 by omega);have bt:=Q0i (nx ns (J.2+1)) (show(0:Int)<(room:Int)+1 by omega);have bu:=λm=>G9 ns k (room / 2) m (by omega);have be:=λi=>sN (g:=val ns (.tree k) (room / 2)) (N:=(k.cB+1) * gr (room / 2)) bu i (J.2+1)
  refine(Zr rfl (Zr rfl (Zr rfl ⟨by omega,by omega,λi m ys H'=>m=(nx ns (J.2+1) % ((room:Int)+1)).toNat - i/\i<=(nx ns (J.2+1) % ((room:Int)+1)).toNat/\ys.length=i/\∃fq,ff b Pt H1 H'/\H' b=some (.lst [.int (times (val ns (.tree k) (room / 2)) i (J.2+1)).2])/\eU Pt gH gI H'/\
   eW H' ys (times (val ns (.tree k) (room / 2)) i (J.2+1)).1 fq/\fq.Nodup/\∀c∈fq,H1 c=none,⟨(nx ns (J.2+1) % ((room:Int)+1)).toNat,rfl,Q07 _,rfl,[],Kp.refl _ _,h1,aZ,?_,Q0x,λc hc=>absurd hc (by simp)⟩,?_⟩)))
  . simp only[times];unfold eW;exact⟨rfl,rfl⟩
  intro i m ys H' zq;obtain⟨rfl,bC,bv,fq,kp,ag,ah,hO,aF,ai⟩:=zq;by_cases hi:i<(nx ns (J.2+1) % ((room:Int)+1)).toNat
  . refine .inr ⟨hi,gE (by omega),λx bw y=>?_⟩;obtain⟨rfl,rfl⟩:=y;refine⟨rfl,yes (fw ?_)⟩;have bx:1<=room:=by omega
    have bI:=be i
    have bz:(times (val ns (.tree k) (room / 2)) i (J.2+1)).2+((k.cB+1) * gr (room / 2):Nat)<=1000000000000:=by
     have a1:=Q3 (k.cB+1) (G8 bx aa);have a2:(k.cB+1) * (1+room * gr (room / 2))=(k.cB+1)+room * ((k.cB+1) * gr (room / 2)):=by rw[Nat.mul_add,Nat.mul_one,Q2v]
     have a3:(i+1) * ((k.cB+1) * gr (room / 2))<=room * ((k.cB+1) * gr (room / 2)):=Q0w _ (by omega);have a4:(i+1) * ((k.cB+1) * gr (room / 2))=i * ((k.cB+1) * gr (room / 2))+(k.cB+1) * gr (room / 2):=Q1f _ _;omega
    have kA:ff b Pt H bw:=k1.trans kp;refine(Zr rfl (Zr rfl (Zr rfl (Zr rfl ⟨_,Zr rfl ⟨rfl,⟨by decide,by decide⟩,a,b,ns,(times (val ns (.tree k) (room / 2)) i (J.2+1)).2,.ref pk,.tree k,room / 2,(by rw[e2];rfl),ff.g0 kA g hT ag (by omega),ah,KA.mono (ff.tu kA hb hT) _ aW,(by unfold Kd.W;exact hW),by omega,(by simp only[mu] at a5 ⊢;omega),bz,?_⟩⟩))));intro v2 H2 fp fh aG aH aB aC ak;have sn:=AZ (val ns (.tree k) (room / 2)) i (J.2+1);refine⟨(nx ns (J.2+1) % ((room:Int)+1)).toNat - (i+1),by omega,rfl,hi,by rw[Q0d,bv];rfl,fq++fp,kp.trans fh,by rw[sn];exact aG,aH,?_,?_,?_⟩
    . rw[sn];exact eW.snoc aB _ (eW.fh hO fh ag ah ⟨_,h1⟩ ai)
    . refine List.nodup_append.mpr ⟨aF,aC,λc hc d hd=>?_⟩;intro e;subst e;obtain⟨o,eo⟩:=(eW.alive _ hO c hc).ex;rw[ak c hd] at eo;cases eo
    . intro c hc;rcases List.mem_append.mp hc with z|z
      . exact ai c z
      . exact ff.fresh kp ag ah (ak c z)
  . have ei:i=(nx ns (J.2+1) % ((room:Int)+1)).toNat:=by omega
    subst ei;refine .inl ⟨Q00 _,λpl aM=>⟨gh,λt ht=>?_⟩⟩;have sl:Same H' (upd H' pl (.lst ys)):=Same.new aM;have st:Same (upd H' pl (.lst ys)) (upd (upd H' pl (.lst ys)) t (.tup [vt,.ref pl])):=Same.new ht;have sa:=sl.trans st;have aT:Own H' vt J.1 aK:=aQ.fh kp h1 aZ aU aY;have kA:ff b Pt H H':=k1.trans kp;refine q (.ref t) _ (aK++(pl::fq)) (kA.trans (Kp.of sa)) (sa _ _ ag) (ah.same sa) ?_ ?_ ?_
    . unfold Own;refine⟨t,Zr rfl ⟨eF,?_⟩⟩;unfold eW;refine⟨vt,[.ref pl],aK,pl::fq,rfl,rfl,Own.same sa aT,?_⟩;unfold eW;refine⟨.ref pl,[],pl::fq,[],rfl,by simp,?_,by unfold eW;exact⟨rfl,rfl⟩⟩;unfold Own;exact⟨pl,ys,fq,rfl,st _ _ eF,rfl,eW.same sa hO⟩
    . refine List.nodup_append.mpr ⟨bq,List.nodup_cons.mpr ⟨λhm=>?_,aF⟩,λc hc d hd=>?_⟩
      . obtain⟨o,eo⟩:=(eW.alive _ hO pl hm).ex;rw[aM] at eo;cases eo
      . intro e;subst e;rcases List.mem_cons.mp hd with z|z
        . obtain⟨o,eo⟩:=(Own.alive _ aT c hc).ex;rw[z,aM] at eo;cases eo
        . obtain⟨o,eo⟩:=(Own.alive _ aQ c hc).ex;rw[ai c z] at eo;cases eo
    . intro c hc;rcases List.mem_append.mp hc with z|z
      . exact aY c z
      . rcases List.mem_cons.mp z with y|y
        . rw[y];exact ff.fresh kA ag ah aM
        . exact ff.fresh k1 h1 aZ (ai c y)
 |gj fs=>
  unfold KA at hk;obtain⟨pk,pb,xs,rfl,Y,aD,aE⟩:=hk;unfold Kd.W at hW;obtain⟨a6,bg,bJ,aV⟩:=hW;refine fU rfl Y rfl (by decide +kernel) ?_;refine fU rfl Y rfl (by decide +kernel) ?_;refine fU rfl Y rfl (by decide +kernel) ?_;refine fU rfl Y rfl (by decide +kernel) ?_;refine fU rfl Y rfl (by decide +kernel) ?_;simp only[kc,Kd.cB] at hn;refine(Zr rfl ⟨pk,_,_,Zr rfl ⟨rfl,d_.of Y,rfl,Zr rfl (Zr rfl ⟨a,b,ns,n,rfl,g,by omega,λH1 s1 h1=>?_⟩)⟩⟩);have aI:=s1.tu hb;have bd:(xs.length:Int)=(fs.names.length:Int):=by rw[FA.len fs aE]
  have br:=Q0g (nx ns (n+1)) (show((fs.names.length:Int))≠0 by omega);have bt:=Q0i (nx ns (n+1)) (show(0:Int)<(fs.names.length:Int) by omega);obtain⟨nm,k,aj⟩:=Fs.sF (fs:=fs) (i:=(nx ns (n+1) % (fs.names.length:Int)).toNat) (by omega);obtain⟨c,u,bA,hc,hk⟩:=FA.at aE aj
  have bB:gv xs (nx ns (n+1) % ((xs.length:Nat):Int))=some (.ref c):=by
   have e:nx ns (n+1) % ((xs.length:Nat):Int)=(((nx ns (n+1) % (fs.names.length:Int)).toNat:Nat):Int):=by rw[bd];omega
   rw[e];exact gz bA
  refine(Zr rfl ⟨pk,_,_,Zr rfl ⟨rfl,d_.of (aI _ _ Y),rfl,pb,Zr rfl ⟨.inr (d_.of (aI _ _ aD)),_,Zr rfl ⟨rfl,by rw[bd];omega,pb,_,_,Zr rfl ⟨rfl,d_.of (aI _ _ aD),bB,?_⟩⟩⟩⟩⟩);refine⟨c,Zr rfl ⟨d_.of (aI _ _ hc),rfl,_,Zr rfl ⟨_,Zr rfl ⟨rfl,?_⟩⟩⟩⟩
  have ev:val ns (.gj fs) room n=(pairD (.str nm) (val ns k room (n+1)).1,(val ns k room (n+1)).2):=by
   show g7 ns fs (nx ns (n+1) % (fs.names.length:Int)).toNat room (n+1)=_;exact A0 ns fs _ room (n+1) nm k aj
  rw[ev] at q;have cb:=Fs.A1 aj;refine(Zr rfl (Zr rfl (Zr rfl (Zr rfl (Zr rfl ⟨a,b,ns,n+1,u,k,room,rfl,g.go s1 h1 (by omega),hT.sb hb s1,KA.mono aI k hk,Fs.j_ aV aj,aa,?_,by have:=tw k room;omega,?_⟩)))))
  . have:mu k room<mu (.gj fs) room:=tf (by have:=Fs.kM aj;simp only[Kd.dep];omega) aa;omega
  intro v2 H2 fp fh aG aH aB aC ak;have bf:ff b Pt H H2:=(SB.fh s1).trans fh;refine⟨gh,λt ht=>?_⟩;have st:Same H2 (upd H2 t (.tup [.str nm,v2])):=Same.new ht;refine q (.ref t) _ fp (bf.trans (Kp.of st)) (st _ _ aG) (aH.same st) ?_ aC λc hc=>ff.fresh (SB.fh s1) h1 (hT.sb hb s1) (ak c hc);unfold Own;refine⟨t,Zr rfl ⟨eF,?_⟩⟩;unfold eW;refine⟨.str nm,[v2],[],fp,rfl,rfl,by unfold Own;exact⟨rfl,rfl⟩,?_⟩;unfold eW;exact⟨v2,[],fp,[],rfl,by simp,Own.same st aB,by unfold eW;exact⟨rfl,rfl⟩⟩
theorem tF {Pt c:Addr}{af:Addr}{ag:FuncData}(T:Tb mg)(J:Dn K mg "_law_value" gZ (top 43) ac ae)(Y:Dn K mg "_law_rows" gZ (top 42) al ah)(ai:ah.code=.ref c)(aq:W.CodeHd base c Pt)(ar:BM mg base)(I:Dn K mg "_law_next" fg (top 33) am an)(U:Dn K mg "_law_number" fg (top 34) aj ak)(aa:Dn K mg "_law_word" fg (top 35) ao ap)(ab:Dn K mg "_law_rank" ke (top 41) af ag):∀N:Nat,en P w K mg base eu (2 * N+5) ac ae gZ (kq K Pt N)
 |0=>He T J
 |N+1=>by
  have ih:=tF T J Y ai aq ar I U aa ab N;have Nx:=mw (P:=P) (w:=w) (base:=base) T I;have R:=Hc N T Y ai aq ar I Nx ab (A5 T ab) J ih;exact Hf N T J ih Y R I Nx U (GP T U I Nx) aa (GS T aa I Nx)
mutual
def D.Sm:D->Prop
 | .int _=>True
 | .str _=>True
 | .non=>True
 | .boo _=>True
 | .tup xs=>xs.len<=100/\xs.Sm
 | .lst xs=>xs.len<=100/\xs.Sm
 | .dct m=>m.len<=100/\m.Sm
def Ds.Sm:Ds->Prop
 | .nil=>True
 | .cons _ d r=>d.Sm/\r.Sm
end
theorem Ds.tG:∀{xs:Ds}{i:Nat}{d:D},xs.Sm->xs.at i=some d->d.Sm
 | .nil,_,_,_,h=>by cases h
 | .cons _ d r,0,_,w,h=>by unfold Ds.Sm at w;cases h;exact w.1
 | .cons _ d r,i+1,_,w,h=>by unfold Ds.Sm at w;exact Ds.tG (xs:=r) (i:=i) w.2 h
theorem Ds.tH:∀{xs:Ds}{x:Str}{d:D},xs.Sm->xs.get x=some d->d.Sm
 | .nil,_,_,_,h=>by cases h
 | .cons y e r,x,d,w,h=>by
   unfold Ds.Sm at w;have h:(if x=y then some e else r.get x)=some d:=h;by_cases c:x=y
   . rw[if_pos c] at h;cases h;exact w.1
   . rw[if_neg c] at h;exact Ds.tH w.2 h
theorem nB:∀(m:Ds),m.names.length=m.len
 | .nil=>rfl
 | .cons _ _ r=>by show r.names.length+1=r.len+1;rw[nB r]
theorem qO:∀l:List Ds,(gm l).len=l.length
 |[]=>rfl
 |m::r=>by show(gm r).len+1=r.length+1;rw[qO r]
theorem tJ:∀{l:List Ds},(∀m∈l,(D.dct m).Sm)->(gm l).Sm
 |[],_=>by unfold gm Ds.Sm;trivial
 |m::r,h=>by
  unfold gm Ds.Sm;exact⟨h m Q05,tJ λx I=>h x (Q0b _ I)⟩
theorem tK:∀{l:List Ds},(gm l).Sm->∀m∈l,(D.dct m).Sm
 |[],_,m,I=>absurd I (by simp)
 |x::r,h,m,I=>by
  unfold gm Ds.Sm at h;rcases List.mem_cons.mp I with e|e
  . rw[e];exact h.1
  . exact tK h.2 m e
theorem tL:∀{l:List Ds},∀m∈l,m.dep+1<=(gm l).dep
 |[],m,I=>absurd I (by simp)
 |x::r,m,I=>by
  simp only[gm,Ds.dep,D.dep];rcases List.mem_cons.mp I with e|e
  . rw[e];omega
  . have:=tL (l:=r) m e;omega
theorem A9 (g:Int->D × Int):∀(m:Nat) (n:Int),(times g m n).1.len=m
 |0,_=>rfl
 |m+1,n=>by show(times g m (g n).2).1.len+1=m+1;rw[A9 g m]
theorem A_ {g:Int->D × Int}(I:∀n,(g n).1.Sm):∀(m:Nat) (n:Int),(times g m n).1.Sm
 |0,_=>by unfold times Ds.Sm;trivial
 |m+1,n=>by
  unfold times Ds.Sm;exact⟨I n,A_ I m _⟩
theorem Ba {a b:D}(h1:a.Sm)(h2:b.Sm):(pairD a b).Sm:=by
 unfold D.Sm;exact⟨by show 2<=100;decide,by unfold Ds.Sm;exact⟨h1,by unfold Ds.Sm;exact⟨h2,by unfold Ds.Sm;trivial⟩⟩⟩
theorem Bb {ns:List Int}{f:Nat->Int->D × Int}(I:∀room n,room<8->(f room n).1.Sm):∀(fu room:Nat) (n:Int),room<8->(gF ns f fu room n).1.Sm
 |0,_,_,_=>by unfold gF D.Sm;trivial
 |fu+1,room,n,h=>by
  unfold gF;refine Ba (I _ _ (by omega)) ?_;unfold D.Sm;refine⟨?_,A_ (λn=>Bb I fu (room / 2) n (by omega)) _ _⟩;rw[A9];have:=mod_le (a:=nx ns ((f (room / 2) n).2+1)) h;omega
theorem tM {g:Int->Ds × Int}{key:Str}:∀(m:Nat) (I:List Ds) (n:Int),(f9 g key m I n).1.length<=I.length+m
 |0,I,n=>by simp[f9]
 |m+1,I,n=>by
  unfold f9;split
  . have:=tM (g:=g) (key:=key) m I (g n).2;omega
  . have:=tM (g:=g) (key:=key) m (I++[(g n).1]) (g n).2;rw[Q0d] at this;have e:[(g n).1].length=1:=rfl;omega
mutual
theorem tN (ns:List Int):∀(k:Kd),k.W->∀(room:Nat) (n:Int),room<8->(val ns k room n).1.Sm
 | .num,_,_,_,_=>by unfold val D.Sm;trivial
 | .fy,_,_,_,_=>by unfold val D.Sm;trivial
 | .eX fs,w,room,n,h=>by
   unfold Kd.W at w;unfold val;exact qP ns fs w.2.2 room n h w.2.1
 | .rows key by_ fs,w,room,n,h=>by
   unfold Kd.W at w;unfold val D.Sm;refine⟨?_,tJ λm I=>?_⟩
   . rw[qO,(iM key by_ _).length_eq];have:=tM (g:=e9 ns fs (room / 2)) (key:=key) (nx ns (n+1) % ((room:Int)+1)).toNat [] (n+1);have e:=mod_le (a:=nx ns (n+1)) h;have U:([]:List Ds).length=0:=rfl;omega
   . exact ni (R:=λm=>(D.dct m).Sm) (λn=>qP ns fs w.2.2.1 (room / 2) n (by omega) w.2.1) _ _ _ (λr J=>absurd J (by simp)) m ((iM key by_ _).mem_iff.mp I)
 | .tree k,w,room,n,h=>by
   unfold Kd.W at w;unfold val;exact Bb (λroom n h=>tN ns k w room n h) 4 room n h
 | .gj fs,w,room,n,h=>by
   unfold Kd.W at w;unfold val;exact Bc ns fs w.2.2.2 _ room _ h
theorem qP (ns:List Int):∀(fs:Fs),fs.W->∀(room:Nat) (n:Int),room<8->fs.names.length<=12->(D.dct (e9 ns fs room n).1).Sm
 | .nil,_,_,_,_,_=>by
   unfold e9 D.Sm;exact⟨by show 0<=100;omega,by unfold Ds.Sm;trivial⟩
 | .cons x k r,w,room,n,h,hl=>by
   unfold Fs.W at w;have hl:r.names.length+1<=12:=hl;have a:=tN ns k w.1 room n h;have b:=qP ns r w.2.2 room (val ns k room n).2 h (by omega);unfold D.Sm at b;unfold e9 D.Sm;refine⟨?_,by unfold Ds.Sm;exact⟨a,b.2⟩⟩;show(e9 ns r room (val ns k room n).2).1.len+1<=100;rw[<-nB,qL];omega
theorem Bc (ns:List Int):∀(fs:Fs),fs.W->∀(i room:Nat) (n:Int),room<8->(g7 ns fs i room n).1.Sm
 | .nil,_,_,_,_,_=>by unfold g7 D.Sm;trivial
 | .cons x k r,w,0,room,n,h=>by
   unfold Fs.W at w;unfold g7;exact Ba (by unfold D.Sm;trivial) (tN ns k w.1 room n h)
 | .cons x k r,w,i+1,room,n,h=>by
   unfold Fs.W at w;unfold g7;exact Bc ns r w.2.2 i room n h
end
theorem ir.at {P:D->Prop}:∀{xs:Ds}{i:Nat}{d:D},ir P xs->xs.at i=some d->Tree P d
 | .nil,_,_,_,h=>by cases h
 | .cons _ d r,0,_,w,h=>by unfold ir at w;cases h;exact w.1
 | .cons _ d r,i+1,_,w,h=>by unfold ir at w;exact ir.at (xs:=r) (i:=i) w.2 h
theorem Own.pair {H:Hp}{v:V}{x y:Str}{a b:D}{I:List Addr}(h:Own H v (.tup (.cons x a (.cons y b .nil))) I):∃c v1 v2 f1 f2,v=.ref c/\H c=some (.tup [v1,v2])/\I=f1++f2/\Own H v1 a f1/\Own H v2 b f2:=by
 unfold Own at h;obtain⟨c,vs,rfl,hc,h⟩:=h;unfold eW at h;obtain⟨v1,q,f1,f2,rfl,rfl,J,h⟩:=h;unfold eW at h;obtain⟨v2,Y,g,f3,rfl,rfl,U,h⟩:=h;unfold eW at h;obtain⟨rfl,rfl⟩:=h;exact⟨c,v1,v2,f1,g,rfl,hc,by simp,J,U⟩
theorem Bd:∀{l:List Ds}{i:Nat}{d:D},(gm l).at i=some d->∃m∈l,d=.dct m
 |[],_,_,h=>by cases h
 |m::r,0,_,h=>by cases h;exact⟨m,Q05,rfl⟩
 |m::r,i+1,d,h=>by
  obtain⟨I,h1,h2⟩:=Bd (l:=r) (i:=i) h;exact⟨I,Q0b _ h1,h2⟩
noncomputable def iV:List Str->Kd->Option Kd
 |[],k=>some k
 |x::r,.eX fs=>(fs.get x).bind (iV r)
 |_::_,_=>none
noncomputable def ib:List Str->D->Option D
 |[],d=>some d
 |x::r,.dct m=>(m.get x).bind (ib r)
 |_::_,_=>none
theorem qQ {x:Str}{r:List Str}{k J:Kd}(h:iV (x::r) k=some J):∃fs I,k=.eX fs/\fs.get x=some I/\iV r I=some J:=by
 cases k with
 |eX fs=>
  have h:(fs.get x).bind (iV r)=some J:=h
  cases e:fs.get x with
  |none=>rw[e] at h;cases h
  |some I=>rw[e] at h;exact⟨fs,I,rfl,e,h⟩
 |_=>cases h
theorem Be {x:Str}{r:List Str}{d e:D}(h:ib (x::r) d=some e):∃m d',d=.dct m/\m.get x=some d'/\ib r d'=some e:=by
 cases d with
 |dct m=>
  have h:(m.get x).bind (ib r)=some e:=h
  cases c:m.get x with
  |none=>rw[c] at h;cases h
  |some d'=>rw[c] at h;exact⟨m,d',rfl,c,h⟩
 |_=>cases h
theorem qR:∀{ps:List Str}{k I:Kd}{d:D},eT k d->iV ps k=some I->∃e,ib ps d=some e/\eT I e
 |[],k,I,d,f,h=>by cases h;exact⟨d,rfl,f⟩
 |x::r,k,I,d,f,h=>by
  obtain⟨fs,k',rfl,h1,h2⟩:=qQ h;unfold eT at f;obtain⟨m,rfl,f⟩:=f;obtain⟨d',J,U⟩:=f.get h1;obtain⟨e,Y,e2⟩:=qR U h2;refine⟨e,?_,e2⟩;show(m.get x).bind (ib r)=some e;rw[J];exact Y
theorem Bf (ns:List Int):∀(fs:Fs) {x:Str}{k:Kd}(room:Nat) (n:Int),fs.get x=some k->∃n',(e9 ns fs room n).1.get x=some (val ns k room n').1
 | .nil,_,_,_,_,h=>by cases h
 | .cons y q r,x,k,room,n,h=>by
   have h:(if x=y then some q else r.get x)=some k:=h;have I:e9 ns (.cons y q r) room n=(.cons y (val ns q room n).1 (e9 ns r room (val ns q room n).2).1,(e9 ns r room (val ns q room n).2).2):=by simp only[e9]
   rw[I];by_cases e:x=y
   . rw[if_pos e] at h
     cases h;exact⟨n,by show(if x=y then some _ else _)=_;rw[if_pos e]⟩
   . rw[if_neg e] at h;obtain⟨n',g⟩:=Bf ns r room (val ns q room n).2 h;exact⟨n',by show(if x=y then some _ else _)=_;rw[if_neg e];exact g⟩
theorem Bg (ns:List Int):∀{ps:List Str}{k I:Kd}(room:Nat) (n:Int),iV ps k=some I->∃n',ib ps (val ns k room n).1=some (val ns I room n').1
 |[],k,I,room,n,h=>by cases h;exact⟨n,rfl⟩
 |x::r,k,I,room,n,h=>by
  obtain⟨fs,Y,rfl,h1,h2⟩:=qQ h;obtain⟨J,g⟩:=Bf ns fs room n h1;obtain⟨n',g'⟩:=Bg ns room J h2;refine⟨n',?_⟩;have U:(val ns (.eX fs) room n).1=.dct (e9 ns fs room n).1:=by simp only[val]
  rw[U];show((e9 ns fs room n).1.get x).bind (ib r)=_;rw[g];exact g'
inductive Lk where
 |mx (z:Int)
 |my (z:Int)
 |mz (z:Str)
 |mC (z:Str)
 |is (x:Str)
 |some_
noncomputable def Lk.tup (I:Addr):Lk->List V
 | .mx z=>[.str "less",.ref I,.int z]
 | .my z=>[.str "same",.ref I,.int z]
 | .mz z=>[.str "less",.ref I,.str z]
 | .mC z=>[.str "same",.ref I,.str z]
 | .is x=>[.str "is",.ref I,.str x]
 | .some_=>[.str "some",.ref I]
def Lk.ok:Lk->Kd->Prop
 | .mx _,k=>k=.num
 | .my _,k=>k=.num
 | .mz _,k=>k=.fy
 | .mC _,k=>k=.fy
 | .is x,k=>∃fs,k=.gj fs/\(fs.get x).isSome=true
 | .some_,k=>(∃key by_ fs,k=.rows key by_ fs)\/∃q,k=.tree q
noncomputable def Lk.b:Lk->D->Bool
 | .mx y,.int z=>decide (z<y)
 | .my y,.int z=>decide (V.int z=V.int y)
 | .mz y,.str z=>decide (z.cps.toList<y.cps.toList)
 | .mC y,.str z=>decide (V.str z=V.str y)
 | .is x,.tup (.cons _ (.str y) _)=>decide (V.str y=V.str x)
 | .some_,.lst xs=>decide ((0:Int)<(xs.len:Int))
 | .some_,.tup (.cons _ _ (.cons _ (.lst xs) _))=>decide ((0:Int)<(xs.len:Int))
 |_,_=>false
def qS (d:D):Prop:=∀s,d=.str s->s.length<=100
inductive Lo where
 |leaf (ps:List Str) (lk:Lk)
 |not (x:Lo)
 |and (x y:Lo)
 |or (x y:Lo)
def fo (H:Hp):V->Lo->Prop
 |v,.leaf ps U=>∃l J,v=.ref l/\H l=some (.tup (Lk.tup J U))/\H J=some (.tup (ps.map V.str))
 |v,.not x=>∃l u,v=.ref l/\H l=some (.tup [.str "not",u])/\fo H u x
 |v,.and x y=>∃l u I,v=.ref l/\H l=some (.tup [.str "and",u,I])/\fo H u x/\fo H I y
 |v,.or x y=>∃l u I,v=.ref l/\H l=some (.tup [.str "or",u,I])/\fo H u x/\fo H I y
def Lo.ok (k:Kd):Lo->Prop
 | .leaf ps J=>∃I,iV ps k=some I/\J.ok I
 | .not x=>x.ok k
 | .and x y=>x.ok k/\y.ok k
 | .or x y=>x.ok k/\y.ok k
noncomputable def Lo.b (d:D):Lo->Bool
 | .leaf ps I=>match ib ps d with
   |some e=>I.b e
   |none=>false
 | .not x=> !x.b d
 | .and x y=>x.b d && y.b d
 | .or x y=>x.b d || y.b d
noncomputable def Lo.dp:Lo->Nat
 | .leaf _ _=>0
 | .not x=>x.dp+1
 | .and x y=>max x.dp y.dp+1
 | .or x y=>max x.dp y.dp+1
theorem fo.mono {H H':Hp}(t:Tu H H'):∀{v:V}(L:Lo),fo H v L->fo H' v L
 |v,.leaf ps Y,h=>by
  unfold fo at h ⊢;obtain⟨l,U,e,h1,h2⟩:=h;exact⟨l,U,e,t _ _ h1,t _ _ h2⟩
 |v,.not x,h=>by
  unfold fo at h ⊢;obtain⟨l,u,e,h1,h2⟩:=h;exact⟨l,u,e,t _ _ h1,fo.mono t x h2⟩
 |v,.and x y,h=>by
  unfold fo at h ⊢;obtain⟨l,u,I,e,h1,h2,J⟩:=h;exact⟨l,u,I,e,t _ _ h1,fo.mono t x h2,fo.mono t y J⟩
 |v,.or x y,h=>by
  unfold fo at h ⊢;obtain⟨l,u,I,e,h1,h2,J⟩:=h;exact⟨l,u,I,e,t _ _ h1,fo.mono t x h2,fo.mono t y J⟩
mutual
noncomputable def Kd.lf:Kd->Nat
 | .eX fs=>fs.lf
 |_=>1
noncomputable def Fs.lf:Fs->Nat
 | .nil=>0
 | .cons _ k r=>k.lf+r.lf
end
mutual
theorem Kd.o3:∀(k:Kd) (d:Nat),k.W->k.dep<=d+1->k.lf<=12 ^ d
 | .num,d,_,_=>by show 1<=12 ^ d;exact Q1h _ _ (by decide)
 | .fy,d,_,_=>by show 1<=12 ^ d;exact Q1h _ _ (by decide)
 | .rows _ _ _,d,_,_=>by show 1<=12 ^ d;exact Q1h _ _ (by decide)
 | .tree _,d,_,_=>by show 1<=12 ^ d;exact Q1h _ _ (by decide)
 | .gj _,d,_,_=>by show 1<=12 ^ d;exact Q1h _ _ (by decide)
 | .eX fs,0,_,h=>by
   simp only[Kd.dep] at h
   cases fs with
   |nil=>simp[Kd.lf,Fs.lf]
   |cons x k r=>have:=k.jQ;simp only[Fs.dep] at h;omega
 | .eX fs,d+1,w,h=>by
   unfold Kd.W at w;simp only[Kd.dep] at h;have h1:=Fs.o3 fs d w.2.2 (by omega);have e:fs.names.length * 12 ^ d<=12 * 12 ^ d:=Q0w _ w.2.1;show fs.lf<=12 ^ (d+1);rw[Q25,Nat.mul_comm];omega
theorem Fs.o3:∀(fs:Fs) (d:Nat),fs.W->fs.dep<=d+1->fs.lf<=fs.names.length * 12 ^ d
 | .nil,d,_,_=>by simp[Fs.lf,Fs.names]
 | .cons x k r,d,w,h=>by
   unfold Fs.W at w;simp only[Fs.dep] at h;have h1:=Kd.o3 k d w.1 (by omega);have h2:=Fs.o3 r d w.2.2 (by omega)
   have e:(Fs.cons x k r).names.length * 12 ^ d=r.names.length * 12 ^ d+12 ^ d:=by
    show(r.names.length+1) * 12 ^ d=_;rw[Nat.add_mul];simp
   rw[e];show k.lf+r.lf<=_;omega
end
noncomputable def Fs.i9:Fs->Nat->Nat
 | .nil,_=>0
 | .cons _ _ _,0=>0
 | .cons _ k r,i+1=>k.lf+r.i9 i
theorem Fs.Bh:∀{fs:Fs}{i:Nat}{x:Str}{k:Kd},fs.at i=some (x,k)->fs.i9 (i+1)=fs.i9 i+k.lf
 | .nil,_,_,_,h=>by cases h
 | .cons y q r,0,x,k,h=>by
   have e:some (y,q)=some (x,k):=h
   cases e;show q.lf+r.i9 0=0+q.lf
   cases r <;> simp[Fs.i9]
 | .cons y q r,i+1,x,k,h=>by
   have:=Fs.Bh (fs:=r) (i:=i) h;show q.lf+r.i9 (i+1)=q.lf+r.i9 i+k.lf;omega
theorem Fs.Bi:∀(fs:Fs) (i:Nat),fs.i9 i<=fs.lf
 | .nil,_=>Q00 _
 | .cons _ _ _,0=>Q07 _
 | .cons _ k r,i+1=>by
   have:=Fs.Bi r i;show k.lf+r.i9 i<=k.lf+r.lf;omega
theorem Fs.Bj:∀fs:Fs,fs.i9 fs.names.length=fs.lf
 | .nil=>rfl
 | .cons x k r=>by
   show k.lf+r.i9 r.names.length=k.lf+r.lf;rw[Fs.Bj r]
theorem Fs.Bk {x:Str}{k:Kd}(hp:jR k):∀{fs:Fs},fs.get x=some k->1<=fs.lf
 | .nil,h=>by cases h
 | .cons y q r,h=>by
   have h:(if x=y then some q else r.get x)=some k:=h;show 1<=q.lf+r.lf;by_cases e:x=y
   . rw[if_pos e] at h
     cases h
     have:1<=k.lf:=by
      cases k with
      |num=>exact Q00 1
      |fy=>exact Q00 1
      |_=>exact hp.elim
     omega
   . rw[if_neg e] at h;have:=Fs.Bk hp h;omega
end Pb
namespace L2
open Spec PyProof.Rows
theorem Bl {X:Cx}:gn X (compareOp .Lt) (λx y H Q=>(∃i j,x=.int i/\y=.int j/\Q (.bl (decide (i<j))) H)\/∃i j,x=.str i/\y=.str j/\Q (.bl (decide (i.cps.toList<j.cps.toList))) H):=by
 intro pins s σ H x y v u Q I J U h;rcases h with h|h
 . exact lK pins s σ H x y v u Q I J U h
 . exact Eh pins s σ H x y v u Q I J U h
end L2
namespace Pb
open L2
def o4:Sp:=λvs H Q _=>∃J v ps d Y e,vs=[.ref J,v]/\H J=some (.tup (ps.map V.str))/\Own H v d Y/\ib ps d=some e/\∀U I,Own H U e I->Q U H
def Bm:Sp:=λvs H Q _=>∃l v U I J e Y,vs=[.ref l,v]/\H l=some (.tup (Lk.tup U I))/\I.ok J/\Own H v e Y/\eT J e/\Q (.bl (I.b e)) H
variable {P:Program}{w:World}{K:W.Frag}{mg:Str->Option Value}{base:Heap}
theorem Hg:fv ["_law_path","_law_value_here","_law_name"] Xi (eS (top 46)):=fC
theorem Bo (T:Tb mg)(I:Dn K mg "_law_along" me (top 46) J U):en P w K mg base eu (1) J U me (o4):=by
 refine I.F.ok Hg λvs H Q E h=>?_;obtain⟨pp,v,ps,d,fp,e,rfl,ab,hO,hA,q⟩:=h;refine⟨rfl,λaf A outer s nd hr hu=>?_⟩
 refine⟨_,(eh (hX PassesOwn.never rfl (jv (pv 0)) (fL (i:=2) nd rfl gc) (eA (eN 1 nd (hZ hu (pv 1) (pv 2) (λ_ _=>rfl)))))
  (eA (eJ (pv 1)))),?_⟩
 ac_rfl
 refine(Zr rfl ⟨pp,rfl,⟨_,d_.of ab⟩,kB (xs:=ps.map V.str) (λi σ H'=>H'=H/\∃z v' d' f',σ=[some (.ref pp),some v',z]/\Own H v' d' f'/\ib (ps.drop i) d'=some e) ⟨rfl,_,_,_,Zr rfl ⟨hO,hA⟩⟩ ?_ ?_ ?_⟩)
 . rintro i σ H' _ ⟨rfl,_⟩;exact d_.of ab
 . intro i x σ H' hx zq;obtain⟨rfl,z,v',d',f',rfl,aa,Y⟩:=zq;rw[Q0q] at hx;obtain⟨y,hy,rfl⟩:=Option.map_eq_some_iff.mp hx;obtain⟨hi,rfl⟩:=List.getElem?_eq_some_iff.mp hy;rw[Q28 hi] at Y;obtain⟨m,d2,rfl,h1,h2⟩:=Be Y;unfold Own at aa;obtain⟨rr,kvs,fq,rfl,ac,rfl,ae⟩:=aa;obtain⟨v2,f2,g1,g2,_⟩:=eV.val m ae h1
   have gk:f_ H' rr (.str ps[i]) (some v2):=by
    have:=f_.k (k:=Sum.inr ps[i]) ac;rw[g1] at this;exact this
   exact(Zr rfl (Zr rfl ⟨rr,Zr rfl ⟨gk,rfl,_,_,_,Zr rfl ⟨g2,h2⟩⟩⟩))
 . intro σ H' zq;obtain⟨rfl,z,v',d',f',rfl,aa,Y⟩:=zq;rw[Q04,Q29] at Y
   cases Y;exact(Zr rfl (q _ _ aa))
theorem Hh:fv ["path","value","there","name"] ["path","value"] (eS (top 28)):=fC
theorem Hi (T:Tb mg)(I:Dn K mg "value_along" oS (top 28) J U):en P w K mg base eu (1) J U oS (o4):=by
 refine I.F.ok Hh λvs H Q E h=>?_;obtain⟨pp,v,ps,d,fp,e,rfl,ab,hO,hA,q⟩:=h;refine⟨rfl,λaf A outer s nd hr hu=>?_⟩
 refine⟨_,(eh (eN 2 nd (pv 1))
  (eh (hX PassesOwn.never rfl (jv (pv 0)) (fL (i:=3) nd rfl gc) (eA (eN 2 nd (hZ hu (pv 2) (pv 3) (λ_ _=>rfl)))))
  (eA (eJ (pv 2))))),?_⟩
 ac_rfl
 refine(Zr rfl ?_);refine(Zr rfl ⟨pp,rfl,⟨_,d_.of ab⟩,kB (xs:=ps.map V.str) (λi σ H'=>H'=H/\∃y z v' d' f',σ=[some (.ref pp),y,some v',z]/\Own H v' d' f'/\ib (ps.drop i) d'=some e) ⟨rfl,_,_,_,_,Zr rfl ⟨hO,hA⟩⟩ ?_ ?_ ?_⟩)
 . rintro i σ H' _ ⟨rfl,_⟩;exact d_.of ab
 . intro i x σ H' hx zq;obtain⟨rfl,y0,z,v',d',f',rfl,aa,Y⟩:=zq;rw[Q0q] at hx;obtain⟨y,hy,rfl⟩:=Option.map_eq_some_iff.mp hx;obtain⟨hi,rfl⟩:=List.getElem?_eq_some_iff.mp hy;rw[Q28 hi] at Y;obtain⟨m,d2,rfl,h1,h2⟩:=Be Y;unfold Own at aa;obtain⟨rr,kvs,fq,rfl,ac,rfl,ae⟩:=aa;obtain⟨v2,f2,g1,g2,_⟩:=eV.val m ae h1
   have gk:f_ H' rr (.str ps[i]) (some v2):=by
    have:=f_.k (k:=Sum.inr ps[i]) ac;rw[g1] at this;exact this
   exact(Zr rfl (Zr rfl ⟨rr,Zr rfl ⟨gk,rfl,_,_,_,_,Zr rfl ⟨g2,h2⟩⟩⟩))
 . intro σ H' zq;obtain⟨rfl,y0,z,v',d',f',rfl,aa,Y⟩:=zq;rw[Q04,Q29] at Y
   cases Y;exact(Zr rfl (q _ _ aa))
theorem Hj:fv ["look","there","form","arms_or_rows"] Xh (eS (top 29)):=fC
theorem Hk (T:Tb mg)(I:Dn K mg "holds_of" jC (top 29) J U):en P w K mg base eu (1) J U jC (Bm):=by
 refine I.F.ok Hj λvs H Q E h=>?_;obtain⟨l,v,pp,lk,kl,e,fp,rfl,hl,aa,Y,hF,q⟩:=h;refine⟨rfl,λae A outer s nd hr hu=>?_⟩
 refine⟨_,(eh (eN 2 nd (eI (pv 0) b_))
  (eh (eO (eM fc (pv 2) eY (eK _)) (eA (eJ (gU Bl (pv 1) (eI (pv 0) b_) (eK _)))) eQ)
  (eh (eO (eM fc (pv 2) eY (eK _)) (eA (eJ (gU fc (pv 1) (eI (pv 0) b_) (eK _)))) eQ)
  (eh (eO (eM fc (pv 2) eY (eK _)) (eA (eJ (gU fc (eI (pv 1) b_) (eI (pv 0) b_) (eK _)))) eQ)
  (eh (eN 3 nd (mQ (gx (fM il (by rfl) T.iu boot_isinstance (a_ (pv 1) (a_ (ik (v:=.ty "list") rfl T.ma boot_list rfl) c_)))) (pv 1) (eI (pv 1) b_)))
  (eA (eJ (gU jL (fM gY (by rfl) T.gM PySem.boot_len (a_ (pv 3) c_)) b_ (eK _))))))))),?_⟩
 ac_rfl
 have lt:∀{a b:Str},(if decide (V.str a=V.str b)=true then True else False)=if a=b then True else False:=λ{a b}=>by simp
 cases lk with
 |mx y=>
  cases aa;unfold eT at hF;obtain⟨z,rfl⟩:=hF;unfold Own at Y;obtain⟨rfl,_⟩:=Y;refine(Zr rfl ⟨l,_,_,Zr rfl ⟨rfl,d_.of hl,rfl,?_⟩⟩);refine ip rfl (by decide +kernel) ?_;exact(Zr rfl (Zr rfl ⟨l,_,_,Zr rfl ⟨rfl,d_.of hl,rfl,.inl ⟨_,Zr rfl ⟨rfl,q⟩⟩⟩⟩))
 |mz y=>
  cases aa;unfold eT at hF;obtain⟨z,rfl⟩:=hF;unfold Own at Y;obtain⟨rfl,_⟩:=Y;refine(Zr rfl ⟨l,_,_,Zr rfl ⟨rfl,d_.of hl,rfl,?_⟩⟩);refine ip rfl (by decide +kernel) ?_;exact(Zr rfl (Zr rfl ⟨l,_,_,Zr rfl ⟨rfl,d_.of hl,rfl,.inr ⟨_,Zr rfl ⟨rfl,q⟩⟩⟩⟩))
 |my y=>
  cases aa;unfold eT at hF;obtain⟨z,rfl⟩:=hF;unfold Own at Y;obtain⟨rfl,_⟩:=Y;refine(Zr rfl ⟨l,_,_,Zr rfl ⟨rfl,d_.of hl,rfl,?_⟩⟩);refine gf rfl (by decide +kernel) ?_;refine ip rfl (by decide +kernel) ?_;exact(Zr rfl (Zr rfl ⟨l,_,_,Zr rfl ⟨rfl,d_.of hl,rfl,rfl,q⟩⟩))
 |mC y=>
  cases aa;unfold eT at hF;obtain⟨z,rfl⟩:=hF;unfold Own at Y;obtain⟨rfl,_⟩:=Y;refine(Zr rfl ⟨l,_,_,Zr rfl ⟨rfl,d_.of hl,rfl,?_⟩⟩);refine gf rfl (by decide +kernel) ?_;refine ip rfl (by decide +kernel) ?_;exact(Zr rfl (Zr rfl ⟨l,_,_,Zr rfl ⟨rfl,d_.of hl,rfl,rfl,q⟩⟩))
 |is x=>
  obtain⟨fs,rfl,_⟩:=aa;unfold eT at hF;obtain⟨y,u,rfl,_⟩:=hF;unfold pairD Own at Y;obtain⟨t,vs,rfl,ht,hL⟩:=Y;unfold eW at hL;obtain⟨v1,r1,f1,f2,rfl,_,g1,g2⟩:=hL;unfold Own at g1;obtain⟨rfl,_⟩:=g1;refine(Zr rfl ⟨l,_,_,Zr rfl ⟨rfl,d_.of hl,rfl,?_⟩⟩);refine gf rfl (by decide +kernel) ?_;refine gf rfl (by decide +kernel) ?_;refine ip rfl (by decide +kernel) ?_;exact(Zr rfl ⟨t,_,_,Zr rfl ⟨rfl,d_.of ht,gz (j:=0) rfl,Zr rfl ⟨l,_,_,Zr rfl ⟨rfl,d_.of hl,rfl,rfl,q⟩⟩⟩⟩)
 |some_=>
  refine(Zr rfl ⟨l,_,_,Zr rfl ⟨rfl,d_.of hl,rfl,?_⟩⟩);refine gf rfl (by decide +kernel) ?_;refine gf rfl (by decide +kernel) ?_;refine gf rfl (by decide +kernel) ?_;rcases aa with⟨key,by_,fs,rfl⟩|⟨qq,rfl⟩
  . unfold eT at hF;obtain⟨rs,rfl,_⟩:=hF;unfold Own at Y;obtain⟨t,vs,fq,rfl,ht,_,hL⟩:=Y;have ab:=eW.len _ hL;refine(Zr rfl ⟨_,_,_,true,rfl,.lst ht,rfl,true,rfl,fw (Zr rfl ?_)⟩);refine(Zr rfl ⟨t,Zr rfl ⟨.inl (eB.of ht),_,Zr rfl ⟨rfl,?_⟩⟩⟩);rw[ab];exact q
  . unfold eT at hF;obtain⟨x1,x2,t0,as,rfl,_,_⟩:=hF.shape;unfold Own at Y;obtain⟨t,vs,rfl,ht,hL⟩:=Y;unfold eW at hL;obtain⟨v1,r1,f1,f2,rfl,_,g1,g2⟩:=hL;unfold eW at g2;obtain⟨v2,r2,f3,f4,rfl,_,g3,g4⟩:=g2;unfold Own at g3;obtain⟨t2,af,fq,rfl,jD,_,ac⟩:=g3;have ab:=eW.len _ ac;refine(Zr rfl ⟨_,_,_,false,rfl,.tup ht,rfl,false,rfl,e_ (Zr rfl ⟨t,_,_,Zr rfl ⟨rfl,d_.of ht,gz (j:=1) rfl,?_⟩⟩)⟩);refine(Zr rfl ⟨t2,Zr rfl ⟨.inl (eB.of jD),_,Zr rfl ⟨rfl,?_⟩⟩⟩);rw[ab];exact q
theorem Lk.tO (I:Addr)(J:Lk):(Lk.tup I J)[1]? =some (.ref I):=by cases J <;> rfl
theorem Lk.tQ (J:Addr)(I:Lk):∃nm,(Lk.tup J I)[0]? =some (.str nm)/\decide (V.str nm=V.str "not")=false/\decide (V.str nm=V.str "and")=false/\decide (V.str nm=V.str "or")=false:=by
 cases I <;> exact(Zr rfl ⟨by decide +kernel,by decide +kernel,by decide +kernel⟩)
def jU (n:Nat):Sp:=λvs H Q _=>∃lv v L k d I,vs=[lv,v]/\fo H lv L/\L.ok k/\Own H v d I/\eT k d/\L.dp<n/\Q (.bl (L.b d)) H
theorem qT:∀vs H Q E,¬jU 0 vs H Q E:=λvs H Q E h=>by
 obtain⟨_,_,L,_,_,_,_,_,_,_,_,hd,_⟩:=h;omega
theorem Bp {ps:List Str}{I:Lk}{d e:D}(h:ib ps d=some e):Lo.b d (.leaf ps I)=I.b e:=by
 show(match ib ps d with|some e=>I.b e|none=>false)=_;rw[h]
theorem Hl:fv ["look","value","form"] ["look","value"] (eS (top 27)):=fC
theorem Hm (n:Nat)(T:Tb mg)(I:Dn K mg "holds" kf (top 27) ac ae)(J:en P w K mg base eu (n+2) ac ae kf (jU n))(U:Dn K mg "value_along" oS (top 28) Y aa)(ab:en P w K mg base eu (1) Y aa oS (o4))(af:Dn K mg "holds_of" jC (top 29) ag ah)(ai:en P w K mg base eu (1) ag ah jC (Bm)):en P w K mg base eu ((n+1)+2) ac ae kf (jU (n+1)):=by
 refine I.F.ok Hl λvs H Q E h=>?_;obtain⟨lv,v,L,k,d,fp,rfl,hL,aj,hO,hF,al,q⟩:=h;refine⟨rfl,λau A outer s nd hr hu=>?_⟩
 refine⟨_,(eh (eN 2 nd (eI (pv 0) b_))
  (eh (eO (eM fc (pv 2) eY (eK _)) (eA (eJ (rz (eL J hr I (a_ (eI (pv 0) b_) (a_ (pv 1) c_)))))) eQ)
  (eh (eO (eM fc (pv 2) eY (eK _)) (eA (eJ (ju (eL J hr I (a_ (eI (pv 0) b_) (a_ (pv 1) c_))) (iO (eL J hr I (a_ (eI (pv 0) b_) (a_ (pv 1) c_))))))) eQ)
  (eh (eO (eM fc (pv 2) eY (eK _)) (eA (eJ (pK (eL J hr I (a_ (eI (pv 0) b_) (a_ (pv 1) c_))) (iO (eL J hr I (a_ (eI (pv 0) b_) (a_ (pv 1) c_))))))) eQ)
  (eA (eJ (eL ai hr af (a_ (pv 0) (a_ (eL ab hr U (a_ (eI (pv 0) b_) (a_ (pv 1) c_))) c_))))))))),?_⟩
 ac_rfl
 cases L with
 |leaf ps lk=>
  unfold fo at hL;obtain⟨l,pp,rfl,hl,am⟩:=hL;obtain⟨kl,an,ao⟩:=aj;obtain⟨e,hA,ap⟩:=qR hF an;rw[Bp hA] at q;obtain⟨nm,n0,n1,n2,n3⟩:=Lk.tQ pp lk;refine(Zr rfl ⟨l,_,_,Zr rfl ⟨rfl,d_.of hl,gz (j:=0) n0,?_⟩⟩);refine gf rfl n1 ?_;refine gf rfl n2 ?_;refine gf rfl n3 ?_;exact(Zr rfl (Zr rfl ⟨l,_,_,Zr rfl ⟨rfl,d_.of hl,gz (j:=1) (Lk.tO pp lk),Zr rfl ⟨pp,v,ps,d,fp,e,rfl,am,hO,hA,λv' aq ar=>⟨l,v',pp,lk,kl,e,aq,rfl,hl,ao,ar,ap,q⟩⟩⟩⟩))
 |not x=>
  unfold fo at hL;obtain⟨l,u,rfl,hl,hx⟩:=hL;simp only[Lo.dp] at al;refine(Zr rfl ⟨l,_,_,Zr rfl ⟨rfl,d_.of hl,rfl,?_⟩⟩);refine ip rfl (by decide +kernel) ?_;exact(Zr rfl ⟨l,_,_,Zr rfl ⟨rfl,d_.of hl,rfl,Zr rfl ⟨u,v,x,k,d,fp,rfl,hx,aj,hO,hF,by omega,Zr rfl q⟩⟩⟩)
 |and x y=>
  unfold fo at hL;obtain⟨l,u,u',rfl,hl,hx,hy⟩:=hL;simp only[Lo.dp] at al;refine(Zr rfl ⟨l,_,_,Zr rfl ⟨rfl,d_.of hl,rfl,?_⟩⟩);refine gf rfl (by decide +kernel) ?_;refine ip rfl (by decide +kernel) ?_;refine(Zr rfl ⟨l,_,_,Zr rfl ⟨rfl,d_.of hl,rfl,Zr rfl ⟨u,v,x,k,d,fp,rfl,hx,aj.1,hO,hF,by omega,Zr rfl ?_⟩⟩⟩);have q:Q (.bl (x.b d && y.b d)) H:=q
  cases ak:x.b d with
  |true=>
   rw[ak] at q;exact fw (Zr rfl ⟨l,_,_,Zr rfl ⟨rfl,d_.of hl,rfl,Zr rfl ⟨u',v,y,k,d,fp,rfl,hy,aj.2,hO,hF,by omega,q⟩⟩⟩)
  |false=>
   rw[ak] at q;exact e_ q
 |or x y=>
  unfold fo at hL;obtain⟨l,u,u',rfl,hl,hx,hy⟩:=hL;simp only[Lo.dp] at al;refine(Zr rfl ⟨l,_,_,Zr rfl ⟨rfl,d_.of hl,rfl,?_⟩⟩);refine gf rfl (by decide +kernel) ?_;refine gf rfl (by decide +kernel) ?_;refine ip rfl (by decide +kernel) ?_;refine(Zr rfl ⟨l,_,_,Zr rfl ⟨rfl,d_.of hl,rfl,Zr rfl ⟨u,v,x,k,d,fp,rfl,hx,aj.1,hO,hF,by omega,Zr rfl ?_⟩⟩⟩);have q:Q (.bl (x.b d || y.b d)) H:=q
  cases ak:x.b d with
  |true=>
   rw[ak] at q;exact fw q
  |false=>
   rw[ak] at q;exact e_ (Zr rfl ⟨l,_,_,Zr rfl ⟨rfl,d_.of hl,rfl,Zr rfl ⟨u',v,y,k,d,fp,rfl,hy,aj.2,hO,hF,by omega,q⟩⟩⟩)
theorem Bq (T:Tb mg)(U:Dn K mg "holds" kf (top 27) Y aa)(I:Dn K mg "value_along" oS (top 28) ab ac)(J:Dn K mg "holds_of" jC (top 29) ae af):∀n:Nat,en P w K mg base eu (n+2) Y aa kf (jU n)
 |0=>⟨λvs H Q E h=>absurd h (qT vs H Q E),λA outer s H args us vs Q E _ _ _ _ h=>absurd h (qT vs H Q E)⟩
 |n+1=>Hm n T U (Bq T U I J n) I (Hi T I) J (Hk T J)
theorem Hn:fv ["_law_look_here","_law_value_here","_law_there"] Xd (eS (top 51)):=fC
theorem Ho (n:Nat)(T:Tb mg)(I:Dn K mg "_law_true" mf (top 51) U Y)(J:en P w K mg base eu (n+2) U Y mf (jU n))(aa:Dn K mg "_law_along" me (top 46) ab ac)(ae:en P w K mg base eu (1) ab ac me (o4)):en P w K mg base eu ((n+1)+2) U Y mf (jU (n+1)):=by
 refine I.F.ok Hn λvs H Q E h=>?_;obtain⟨lv,v,L,k,d,fp,rfl,hL,af,ag,ah,al,q⟩:=h;refine⟨rfl,λap A outer s nd hr hu=>?_⟩
 refine⟨_,(eh (eO (eM fc (eI (pv 0) b_) eY (eK _)) (eA (eJ (rz (eL J hr I (a_ (eI (pv 0) b_) (a_ (pv 1) c_)))))) eQ)
  (eh (eO (eM fc (eI (pv 0) b_) eY (eK _)) (eA (eJ (ju (eL J hr I (a_ (eI (pv 0) b_) (a_ (pv 1) c_))) (iO (eL J hr I (a_ (eI (pv 0) b_) (a_ (pv 1) c_))))))) eQ)
  (eh (eO (eM fc (eI (pv 0) b_) eY (eK _)) (eA (eJ (pK (eL J hr I (a_ (eI (pv 0) b_) (a_ (pv 1) c_))) (iO (eL J hr I (a_ (eI (pv 0) b_) (a_ (pv 1) c_))))))) eQ)
  (eh (eN 2 nd (eL ae hr aa (a_ (eI (pv 0) b_) (a_ (pv 1) c_))))
  (eh (eO (eM fc (eI (pv 0) b_) eY (eK _)) (eA (eJ (gU Bl (pv 2) (eI (pv 0) b_) (eK _)))) eQ)
  (eh (eO (eM fc (eI (pv 0) b_) eY (eK _)) (eA (eJ (gU fc (pv 2) (eI (pv 0) b_) (eK _)))) eQ)
  (eh (eO (eM fc (eI (pv 0) b_) eY (eK _)) (eA (eJ (gU fc (eI (pv 2) b_) (eI (pv 0) b_) (eK _)))) eQ)
  (eh (eO (gx (fM il (by rfl) T.iu boot_isinstance (a_ (pv 2) (a_ (ik (v:=.ty "tuple") rfl T.oR boot_tuple rfl) c_)))) (eA (eJ (gU jL (fM gY (by rfl) T.gM PySem.boot_len (a_ (eI (pv 2) b_) c_)) b_ (eK _)))) eQ)
  (eA (eJ (gU jL (fM gY (by rfl) T.gM PySem.boot_len (a_ (pv 2) c_)) b_ (eK _)))))))))))),?_⟩
 ac_rfl
 cases L with
 |leaf ps lk=>
  unfold fo at hL;obtain⟨l,pp,rfl,hl,am⟩:=hL;obtain⟨kl,an,ai⟩:=af;obtain⟨e,hA,hF⟩:=qR ah an;rw[Bp hA] at q;obtain⟨nm,n0,n1,n2,n3⟩:=Lk.tQ pp lk;refine fU rfl hl n0 n1 ?_;refine fU rfl hl n0 n2 ?_;refine fU rfl hl n0 n3 ?_;refine(Zr rfl ⟨l,_,_,Zr rfl ⟨rfl,d_.of hl,gz (j:=1) (Lk.tO pp lk),Zr rfl ⟨pp,v,ps,d,fp,e,rfl,am,ag,hA,λv' aq hO=>?_⟩⟩⟩)
  cases lk with
  |mx y=>
   cases ai;unfold eT at hF;obtain⟨z,rfl⟩:=hF;unfold Own at hO;obtain⟨rfl,_⟩:=hO;refine h9 rfl hl rfl (by decide +kernel) ?_;exact(Zr rfl (Zr rfl ⟨l,_,_,Zr rfl ⟨rfl,d_.of hl,rfl,.inl ⟨_,Zr rfl ⟨rfl,q⟩⟩⟩⟩))
  |mz y=>
   cases ai;unfold eT at hF;obtain⟨z,rfl⟩:=hF;unfold Own at hO;obtain⟨rfl,_⟩:=hO;refine h9 rfl hl rfl (by decide +kernel) ?_;exact(Zr rfl (Zr rfl ⟨l,_,_,Zr rfl ⟨rfl,d_.of hl,rfl,.inr ⟨_,Zr rfl ⟨rfl,q⟩⟩⟩⟩))
  |my y=>
   cases ai;unfold eT at hF;obtain⟨z,rfl⟩:=hF;unfold Own at hO;obtain⟨rfl,_⟩:=hO;refine fU rfl hl rfl (by decide +kernel) ?_;refine h9 rfl hl rfl (by decide +kernel) ?_;exact(Zr rfl (Zr rfl ⟨l,_,_,Zr rfl ⟨rfl,d_.of hl,rfl,rfl,q⟩⟩))
  |mC y=>
   cases ai;unfold eT at hF;obtain⟨z,rfl⟩:=hF;unfold Own at hO;obtain⟨rfl,_⟩:=hO;refine fU rfl hl rfl (by decide +kernel) ?_;refine h9 rfl hl rfl (by decide +kernel) ?_;exact(Zr rfl (Zr rfl ⟨l,_,_,Zr rfl ⟨rfl,d_.of hl,rfl,rfl,q⟩⟩))
  |is x=>
   obtain⟨fs,rfl,_⟩:=ai;unfold eT at hF;obtain⟨y,u,rfl,_⟩:=hF;unfold pairD Own at hO;obtain⟨t,vs,rfl,ht,hL⟩:=hO;unfold eW at hL;obtain⟨v1,r1,f1,f2,rfl,_,g1,g2⟩:=hL;unfold Own at g1;obtain⟨rfl,_⟩:=g1;refine fU rfl hl rfl (by decide +kernel) ?_;refine fU rfl hl rfl (by decide +kernel) ?_;refine h9 rfl hl rfl (by decide +kernel) ?_;exact(Zr rfl ⟨t,_,_,Zr rfl ⟨rfl,d_.of ht,gz (j:=0) rfl,Zr rfl ⟨l,_,_,Zr rfl ⟨rfl,d_.of hl,rfl,rfl,q⟩⟩⟩⟩)
  |some_=>
   refine fU rfl hl rfl (by decide +kernel) ?_;refine fU rfl hl rfl (by decide +kernel) ?_;refine fU rfl hl rfl (by decide +kernel) ?_;rcases ai with⟨key,by_,fs,rfl⟩|⟨qq,rfl⟩
   . unfold eT at hF;obtain⟨rs,rfl,_⟩:=hF;unfold Own at hO;obtain⟨t,vs,fq,rfl,ht,_,hL⟩:=hO;have ak:=eW.len _ hL;refine(Zr rfl ⟨_,_,_,false,rfl,.lst ht,rfl,false,rfl,e_ ?_⟩);refine(Zr rfl ⟨t,Zr rfl ⟨.inl (eB.of ht),_,Zr rfl ⟨rfl,?_⟩⟩⟩);rw[ak];exact q
   . unfold eT at hF;obtain⟨x1,x2,t0,as,rfl,_,_⟩:=hF.shape;unfold Own at hO;obtain⟨t,vs,rfl,ht,hL⟩:=hO;unfold eW at hL;obtain⟨v1,r1,f1,f2,rfl,_,g1,g2⟩:=hL;unfold eW at g2;obtain⟨v2,r2,f3,f4,rfl,_,g3,g4⟩:=g2;unfold Own at g3;obtain⟨t2,ar,fq,rfl,jD,_,ao⟩:=g3;have ak:=eW.len _ ao;refine(Zr rfl ⟨_,_,_,true,rfl,.tup ht,rfl,true,rfl,fw ?_⟩);refine(Zr rfl ⟨t,_,_,Zr rfl ⟨rfl,d_.of ht,gz (j:=1) rfl,t2,Zr rfl ⟨.inl (eB.of jD),_,Zr rfl ⟨rfl,?_⟩⟩⟩⟩);rw[ak];exact q
 |not x=>
  unfold fo at hL;obtain⟨l,u,rfl,hl,hx⟩:=hL;simp only[Lo.dp] at al;refine h9 rfl hl rfl (by decide +kernel) ?_;exact(Zr rfl ⟨l,_,_,Zr rfl ⟨rfl,d_.of hl,rfl,Zr rfl ⟨u,v,x,k,d,fp,rfl,hx,af,ag,ah,by omega,Zr rfl q⟩⟩⟩)
 |and x y=>
  unfold fo at hL;obtain⟨l,u,u',rfl,hl,hx,hy⟩:=hL;simp only[Lo.dp] at al;refine fU rfl hl rfl (by decide +kernel) ?_;refine h9 rfl hl rfl (by decide +kernel) ?_;refine(Zr rfl ⟨l,_,_,Zr rfl ⟨rfl,d_.of hl,rfl,Zr rfl ⟨u,v,x,k,d,fp,rfl,hx,af.1,ag,ah,by omega,Zr rfl ?_⟩⟩⟩);have q:Q (.bl (x.b d && y.b d)) H:=q
  cases aj:x.b d with
  |true=>
   rw[aj] at q;exact fw (Zr rfl ⟨l,_,_,Zr rfl ⟨rfl,d_.of hl,rfl,Zr rfl ⟨u',v,y,k,d,fp,rfl,hy,af.2,ag,ah,by omega,q⟩⟩⟩)
  |false=>
   rw[aj] at q;exact e_ q
 |or x y=>
  unfold fo at hL;obtain⟨l,u,u',rfl,hl,hx,hy⟩:=hL;simp only[Lo.dp] at al;refine fU rfl hl rfl (by decide +kernel) ?_;refine fU rfl hl rfl (by decide +kernel) ?_;refine h9 rfl hl rfl (by decide +kernel) ?_;refine(Zr rfl ⟨l,_,_,Zr rfl ⟨rfl,d_.of hl,rfl,Zr rfl ⟨u,v,x,k,d,fp,rfl,hx,af.1,ag,ah,by omega,Zr rfl ?_⟩⟩⟩);have q:Q (.bl (x.b d || y.b d)) H:=q
  cases aj:x.b d with
  |true=>
   rw[aj] at q;exact fw q
  |false=>
   rw[aj] at q;exact e_ (Zr rfl ⟨l,_,_,Zr rfl ⟨rfl,d_.of hl,rfl,Zr rfl ⟨u',v,y,k,d,fp,rfl,hy,af.2,ag,ah,by omega,q⟩⟩⟩)
theorem Br (T:Tb mg)(J:Dn K mg "_law_true" mf (top 51) U Y)(I:Dn K mg "_law_along" me (top 46) aa ab):∀n:Nat,en P w K mg base eu (n+2) U Y mf (jU n)
 |0=>⟨λvs H Q E h=>absurd h (qT vs H Q E),λA outer s H args us vs Q E _ _ _ _ h=>absurd h (qT vs H Q E)⟩
 |n+1=>Ho n T J (Br T J I n) I (Bo T I)
theorem Hq {α:Type}{l:List α}(h:l≠[]):∃c,gv l (-1)=some c:=by
 have hl:0<l.length:=List.length_pos_iff.mpr h;unfold gv jx;rw[if_neg (by omega),if_pos (by omega)];have e:((-1:Int)+(l.length:Int)).toNat=l.length - 1:=by omega
 refine⟨l[l.length - 1]'(by omega),?_⟩;show l[((-1:Int)+(l.length:Int)).toNat]? =_;rw[e];exact Q03 (by omega)
def Bs (K:W.Frag) (Pt:Addr):Sp:=λvs H Q _=>∃a b ns n I k v e,vs=[.ref a,.ref b,I,v]/\G0 K H a b ns n/\eU Pt gH gI H/\KA H I k/\jR k/\Own H v e []/\eT k e/\qS e/\n+2<=1000000000000/\
 ∀J U (n':Int) H',ff b Pt H H'->H' b=some (.lst [.int n'])->n<=n'->n'<=n+2->eU Pt gH gI H'->Own H' J U []->eT k U->Q J H'
def Bt (K:W.Frag) (Pt:Addr):Sp:=λvs H Q _=>∃a b ns n pl J U I v ps d Y e,vs=[.ref a,.ref b,.ref pl,v]/\G0 K H a b ns n/\eU Pt gH gI H/\H pl=some (.tup [.ref J,U])/\H J=some (.tup (ps.map V.str))/\KA H U I/\I.W/\(∀fs,I≠ .eX fs)/\Own H v d Y/\(∀c∈Y,c≠b)/\ib ps d=some e/\eT I e/\qS e/\n+3<=1000000000000/\
 ∀l lk (n':Int) H',ff b Pt H H'->H' b=some (.lst [.int n'])->n<=n'->n'<=n+3->eU Pt gH gI H'->H' l=some (.tup (Lk.tup J lk))->lk.ok I->Q (.ref l) H'
theorem Hr:fv ["_law_script","_law_at","_law_kind_here","_law_there","_law_m"] XT (eS (top 48)):=fC
theorem Hs {Pt:Addr}(T:Tb mg)(I:Dn K mg "_law_thing" qx (top 48) J U)(ae:Dn K mg "_law_next" fg (top 33) af ag)(ah:en P w K mg base eu (1) af ag fg (i8 K))(Y:Dn K mg "_law_value" gZ (top 43) aa ab)(ac:en P w K mg base eu (2 * 20+5) aa ab gZ (kq K Pt 20)):en P w K mg base eu (46) J U qx (Bs K Pt):=by
 refine I.F.ok Hr λvs H Q E h=>?_;obtain⟨a,b,ns,n,kv,k,v,e,rfl,g,hT,hk,hp,hO,hF,hS,hn,q⟩:=h;refine⟨rfl,λay A outer s nd hr hu=>?_⟩
 refine⟨_,(eh (eN 4 nd (eL ah hr ae (a_ (pv 0) (a_ (pv 1) c_))))
  (eh (eO (eM fc (eG fA (pv 4) b_) b_ (eK _)) (eA (eJ (eL ac hr Y (a_ (pv 0) (a_ (pv 1) (a_ (pv 2) (a_ b_ c_))))))) eQ)
  (eh (eO (eM fc (eI (pv 2) b_) eY (eK _)) (eA (eJ (eG jK (eG iH (pv 3) (eG fA (eG gC (pv 4) b_) b_)) b_))) eQ)
  (eh (eO (PW.pt (g9 (eM fc (eG fA (eG gC (pv 4) b_) b_) b_ (eK _)) (hU (eM jL (fM zw (by rfl) T.gM PySem.boot_len (a_ (pv 3) c_)) b_ (eK _))))) (eA (eJ (pv 3))) eQ)
  (eh (eO (eM fc (eG fA (eG gC (pv 4) b_) b_) b_ (eK _)) (eA (eJ (eG lM (pv 3) eY))) eQ)
  (eh (eO (PW.pt (g9 (eM fc (eG fA (eG gC (pv 4) b_) b_) b_ (eK _)) (hU (eM fc (pv 3) eY (eK _))))) (eA (eJ (ot p6 (pv 3) oo (oq (pR pU b_))))) eQ)
  (eA (eJ (eG lM (ot p6 (pv 3) oo (oq (pR pU b_))) (gG (gi (a_ eY (a_ eY c_))) (mW za (by rfl) T.qw boot_int (a_ (gU fc (kI mZ (pv 3) (pR pU b_) (λ_ _=>rfl)) eY (eK _)) c_)))))))))))),?_⟩
 ac_rfl
 refine(Zr rfl (Zr rfl ⟨a,b,ns,n,rfl,g,by omega,λr H1 r0 r1 s1 h1=>?_⟩));have hb:=g.at_;have g1:=g.go s1 h1 (by omega);have am:=hT.sb hb s1;have ak:=KA.mono (s1.tu hb) k hk;have hW:k.W:=by cases k <;> first|exact hp.elim|(unfold Kd.W;trivial)
 have ao:mu k 0<=20:=by cases k <;> first|exact hp.elim|(simp only[mu,Kd.dep];omega)
 have az:kc k 0=1:=by cases k <;> first|exact hp.elim|simp only[kc,Kd.cB]
 refine(Zr rfl ⟨_,Zr rfl ⟨rfl,(by show(0:Int)<_;decide),rfl,Zr rfl (fW (λc=>?_) (λc=>?_))⟩⟩)
 . refine(Zr rfl (Zr rfl (Zr rfl ⟨a,b,ns,n+1,kv,k,0,rfl,g1,am,ak,hW,by decide,ao,by omega,λv' H2 fp fh ap aq aj aA aB=>?_⟩)));have hc:=kT ns k 0 (n+1) (by decide);have aC:k.cB=1:=by cases k <;> first|exact hp.elim|simp only[Kd.cB]
   have ar:fp=[]:=by
    have hf:=l_ ns k hW 0 (n+1) (by decide)
    cases k with
    |num=>unfold eT at hf;obtain⟨z,e'⟩:=hf;rw[e'] at aj;unfold Own at aj;exact aj.2
    |fy=>unfold eT at hf;obtain⟨z,e'⟩:=hf;rw[e'] at aj;unfold Own at aj;exact aj.2
    |_=>exact hp.elim
   subst ar;exact q v' _ _ H2 ((SB.fh s1).trans fh) ap (by omega) (by omega) aq aj (l_ ns k hW 0 (n+1) (by decide))
 . have fin:∀(v':V) (e':D),Own H1 v' e' []->eT k e'->Q v' H1:=λv' e' ho hf=>q v' e' (n+1) H1 (SB.fh s1) h1 (by omega) (by omega) am ho hf
   cases k with
   |num=>
    unfold KA at ak;obtain⟨cc,rfl,an⟩:=ak;unfold eT at hF;obtain⟨z,rfl⟩:=hF;unfold Own at hO;obtain⟨rfl,_⟩:=hO;refine h9 rfl an rfl (by decide +kernel) ?_;refine(Zr rfl (Zr rfl ⟨_,Zr rfl ⟨rfl,⟨by decide,by decide⟩,_,Zr rfl ⟨rfl,(by show(0:Int)<_;decide),_,Zr rfl ⟨rfl,_,Zr rfl ⟨rfl,?_⟩⟩⟩⟩⟩));exact fin _ (.int _) (by unfold Own;exact⟨rfl,rfl⟩) (by unfold eT;exact⟨_,rfl⟩)
   |fy=>
    unfold KA at ak;obtain⟨cc,rfl,an⟩:=ak;unfold eT at hF;obtain⟨z,rfl⟩:=hF;unfold Own at hO;obtain⟨rfl,_⟩:=hO;have hz:z.length<=100:=hS z rfl;have al:z.length<=sizeLine:=Q0k (gE (by omega));have ai:∀s:Str,Q (.str s) H1:=λs=>fin _ (.str s) (by unfold Own;exact⟨rfl,rfl⟩) (by unfold eT;exact⟨_,rfl⟩);refine fU rfl an rfl (by decide +kernel) ?_;refine(Zr rfl ⟨_,Zr rfl ⟨rfl,⟨by decide,by decide⟩,_,Zr rfl ⟨rfl,(by show(0:Int)<_;decide),rfl,Zr rfl (fW (λc1=>?_) (λc1=>?_))⟩⟩⟩)
    . exact(Zr rfl (ai _))
    refine(Zr rfl (Zr rfl ⟨al,_,Zr rfl ⟨rfl,Zr rfl (fW (λc2=>?_) (λc2=>?_))⟩⟩))
    . exact(Zr rfl (ai _))
    refine(Zr rfl ⟨_,Zr rfl ⟨rfl,⟨by decide,by decide⟩,_,Zr rfl ⟨rfl,(by show(0:Int)<_;decide),rfl,Zr rfl (fW (λc3=>?_) (λc3=>?_))⟩⟩⟩)
    . exact(Zr rfl ⟨_,Zr rfl ⟨rfl,Q0k (gE (by show z.length+1<=1000;omega)),ai _⟩⟩)
    refine(Zr rfl ⟨_,Zr rfl ⟨rfl,⟨by decide,by decide⟩,_,Zr rfl ⟨rfl,(by show(0:Int)<_;decide),rfl,Zr rfl (fW (λc4=>?_) (λc4=>?_))⟩⟩⟩)
    . exact(Zr rfl (Zr rfl (Zr rfl (Zr rfl ⟨al,ai _⟩))))
    refine(Zr rfl ⟨rfl,Zr rfl (fW (λc5=>?_) (λc5=>?_))⟩)
    . exact(Zr rfl (Zr rfl (Zr rfl (Zr rfl ⟨al,ai _⟩))))
    have au:z.cps.toList≠[]:=λw=>c5 (decide_eq_true (by
     have:z="":=by
      have e1:z.cps=#[]:=by rw[<-Array.toList_eq_nil_iff];exact w
      cases z;cases e1;rfl
     rw[this]))
    obtain⟨ch,av⟩:=Hq au
    have aw:∀bb:Bool,∃s:Str,gv [V.str "a",V.str "B"] (if bb then 1 else 0)=some (.str s)/\s.length=1:=λbb=>by
     cases bb
     . exact⟨"a",rfl,rfl⟩
     . exact⟨"B",rfl,rfl⟩
    obtain⟨s,hs,ax⟩:=aw (decide (V.str ⟨#[ch]⟩=V.str "a"));refine(Zr rfl (Zr rfl (Zr rfl (Zr rfl ⟨al,gh,λp hp=>?_⟩))));have st:Same H1 (upd H1 p (.lst [.str "a",.str "B"])):=Same.new hp;refine(Zr rfl (Zr rfl ⟨_,_,ch,rfl,rfl,al,av,rfl,.inr (Zr rfl ⟨p,_,_,Zr rfl ⟨rfl,eB.of eF,hs,_,Zr rfl ⟨rfl,?_,?_⟩⟩⟩)⟩))
    . have:=Txt.slice_le z none (some (-1));exact Q0k (gE (by rw[ax];omega))
    . exact q _ (.str _) (n+1) _ ((SB.fh s1).trans (Kp.of st)) (st _ _ h1) (by omega) (by omega) (am.same st) (by unfold Own;exact⟨rfl,rfl⟩) (by unfold eT;exact⟨_,rfl⟩)
   |_=>exact hp.elim
theorem Hu:fv ["_law_script","_law_at","_law_place","_law_value_here","_law_path","_law_kind_here","_law_m","_law_thing_here"] XR (eS (top 49)):=fC
theorem Hv {Pt:Addr}(T:Tb mg)(Y:Dn K mg "_law_simple" qy (top 49) aa ab)(al:Dn K mg "_law_next" fg (top 33) am an)(ao:en P w K mg base eu (1) am an fg (i8 K))(ac:Dn K mg "_law_thing" qx (top 48) ae af)(ag:en P w K mg base eu (46) ae af qx (Bs K Pt))(ah:Dn K mg "_law_along" me (top 46) ai aj)(ak:en P w K mg base eu (1) ai aj me (o4)):en P w K mg base eu (47) aa ab qy (Bt K Pt):=by
 refine Y.F.ok Hu λvs H Q E h=>?_;obtain⟨a,b,ns,n,pl,pp,kv,kl,v,ps,d,fp,e,rfl,g,hT,aH,aI,hk,hW,aJ,hO,aK,hA,hF,hS,hn,q⟩:=h;refine⟨rfl,λaT A outer s nd hr hu=>?_⟩
 refine⟨_,(eh (pP (pv 2) (iZ rfl (gQ (fL (i:=4) nd rfl gc) (gQ (fL (i:=5) nd rfl gc) iY))))
  (eh (eN 6 nd (eL ao hr al (a_ (pv 0) (a_ (pv 1) c_))))
  (eh (eO (eM fc (eI (pv 5) b_) eY (eK _)) (eA (eJ (gd (a_ eY (a_ (pv 4) (a_ (eI (eI (eI (pv 5) b_) (eG fA (pv 6) (fM gY (by rfl) T.gM PySem.boot_len (a_ (eI (pv 5) b_) c_)))) b_) c_)))))) eQ)
  (eh (eO (PW.pt (g9 (eM fc (eI (pv 5) b_) eY (eK _)) (hU (eM fc (eI (pv 5) b_) eY (eK _))))) (eA (eJ (gd (a_ eY (a_ (pv 4) c_))))) eQ)
  (eh (eN 7 nd (eL ag hr ac (a_ (pv 0) (a_ (pv 1) (a_ (pv 5) (a_ (eL ak hr ah (a_ (pv 4) (a_ (pv 3) c_))) c_))))))
  (eA (eJ (gd (a_ (gG (gi (a_ eY (a_ eY c_))) (eG fA (pv 6) b_)) (a_ (pv 4) (a_ (pv 7) c_))))))))))),?_⟩
 ac_rfl
 have hb:=g.at_;refine(Zr rfl ⟨pl,Zr rfl ⟨d_.of aH,rfl,_,Zr rfl ⟨_,Zr rfl ⟨rfl,?_⟩⟩⟩⟩);refine(Zr rfl (Zr rfl ⟨a,b,ns,n,rfl,g,by omega,λr H1 r0 r1 s1 h1=>?_⟩));have g1:=g.go s1 h1 (by omega);have aw:=hT.sb hb s1;have ay:=s1.tu hb;have U:=KA.mono ay kl hk;have aC:Own H1 v d fp:=hO.keep ay d λc hc o e=>s1 c o (aK c hc) e;have ax:=ay _ _ aI
 have some_:∀t,H1 t=none->(Lk.some_).ok kl->Q (.ref t) (upd H1 t (.tup [.str "some",.ref pp])):=λt ht aL=>by
  have st:Same H1 (upd H1 t (.tup [.str "some",.ref pp])):=Same.new ht;exact q t .some_ (n+1) _ ((SB.fh s1).trans (Kp.of st)) (st _ _ h1) (by omega) (by omega) (aw.same st) eF aL
 cases kl with
 |eX fs=>exact absurd rfl (aJ fs)
 |gj fs=>
  unfold KA at U;obtain⟨pk,pb,xs,rfl,I,az,aA⟩:=U;unfold Kd.W at hW;obtain⟨aM,aU,aV,aW⟩:=hW;refine h9 rfl I rfl (by decide +kernel) ?_;have aD:(xs.length:Int)=(fs.names.length:Int):=by rw[FA.len fs aA]
  have aE:=Q0g r (show((fs.names.length:Int))≠0 by omega);have aF:=Q0i r (show(0:Int)<(fs.names.length:Int) by omega);obtain⟨nm,k,aG⟩:=Fs.sF (fs:=fs) (i:=(r % (fs.names.length:Int)).toNat) (by omega);obtain⟨c,u,aP,hc,aX⟩:=FA.at aA aG
  have J:gv xs (r % ((xs.length:Nat):Int))=some (.ref c):=by
   have e:r % ((xs.length:Nat):Int)=(((r % (fs.names.length:Int)).toNat:Nat):Int):=by rw[aD];omega
   rw[e];exact gz aP
  refine(Zr rfl (Zr rfl ⟨pk,_,_,Zr rfl ⟨rfl,d_.of I,rfl,Zr rfl (Zr rfl ⟨pk,_,_,Zr rfl ⟨rfl,d_.of I,rfl,pb,Zr rfl ⟨.inr (d_.of az),_,Zr rfl ⟨rfl,by rw[aD];omega,pb,_,_,Zr rfl ⟨rfl,d_.of az,J,c,_,_,Zr rfl ⟨rfl,d_.of hc,rfl,kW,λt ht=>?_⟩⟩⟩⟩⟩⟩)⟩⟩));have st:Same H1 (upd H1 t (.tup [.str "is",.ref pp,.str nm])):=Same.new ht;exact q t (.is nm) (n+1) _ ((SB.fh s1).trans (Kp.of st)) (st _ _ h1) (by omega) (by omega) (aw.same st) eF ⟨fs,rfl,by rw[Fs.l8 aM aG];rfl⟩
 |rows key by_ fs=>
  unfold KA at U;obtain⟨pk,pb,xs,rfl,I,az,aA⟩:=U;refine fU rfl I rfl (by decide +kernel) ?_;refine(Zr rfl ⟨pk,_,_,Zr rfl ⟨rfl,d_.of I,rfl,rfl,Zr rfl ?_⟩⟩);rw[show decide (V.str "rows"=V.str "rows")=true by decide +kernel];exact fw (Zr rfl ⟨gh,λt ht=>some_ t ht (.inl ⟨_,_,_,rfl⟩)⟩)
 |tree k=>
  unfold KA at U;obtain⟨pk,u,rfl,I,aY⟩:=U;refine fU rfl I rfl (by decide +kernel) ?_;refine(Zr rfl ⟨pk,_,_,Zr rfl ⟨rfl,d_.of I,rfl,rfl,Zr rfl ?_⟩⟩);rw[show decide (V.str "tree"=V.str "rows")=false by decide +kernel];refine e_ (Zr rfl ⟨pk,_,_,Zr rfl ⟨rfl,d_.of I,rfl,rfl,Zr rfl ?_⟩⟩);rw[show decide (V.str "tree"=V.str "tree")=true by decide +kernel];exact fw (Zr rfl ⟨gh,λt ht=>some_ t ht (.inr ⟨_,rfl⟩)⟩)
 |num=>
  have av:=U;unfold KA at U;obtain⟨pk,rfl,I⟩:=U;refine fU rfl I rfl (by decide +kernel) ?_;refine(Zr rfl ⟨pk,_,_,Zr rfl ⟨rfl,d_.of I,rfl,rfl,Zr rfl ?_⟩⟩);rw[show decide (V.str "number"=V.str "rows")=false by decide +kernel];refine e_ (Zr rfl ⟨pk,_,_,Zr rfl ⟨rfl,d_.of I,rfl,rfl,Zr rfl ?_⟩⟩);rw[show decide (V.str "number"=V.str "tree")=false by decide +kernel];refine e_ ?_;refine(Zr rfl (Zr rfl (Zr rfl (Zr rfl (Zr rfl ⟨pp,v,ps,d,fp,e,rfl,ax,aC,hA,λv1 aQ ap=>?_⟩)))))
  have aB:Own H1 v1 e []:=by
   unfold eT at hF;obtain⟨z,rfl⟩:=hF;unfold Own at ap ⊢;exact⟨ap.1,rfl⟩
  refine⟨a,b,ns,n+1,.ref pk,.num,v1,e,rfl,g1,aw,av,trivial,aB,hF,hS,by omega,λv' e' n' H2 fh aq w1 w2 ar au jV=>?_⟩;unfold eT at jV;obtain⟨z,rfl⟩:=jV;unfold Own at au;obtain⟨rfl,_⟩:=au;refine⟨gh,λp hp=>?_⟩;have sp:Same H2 (upd H2 p (.lst [.str "less",.str "same"])):=Same.new hp;have aE:=Q0g r (show(2:Int)≠0 by decide);have aF:=Q0i r (show(0:Int)<2 by decide)
  have J:gv [V.str "less",V.str "same"] (r % 2)=some (.str "less")\/gv [V.str "less",V.str "same"] (r % 2)=some (.str "same"):=by
   have:r % 2=0\/r % 2=1:=by omega
   rcases this with e|e <;> rw[e]
   . exact .inl rfl
   . exact .inr rfl
  rcases J with J|J
  . refine(Zr rfl ⟨_,Zr rfl ⟨rfl,(by show(0:Int)<_;decide),p,_,_,Zr rfl ⟨rfl,eB.of eF,J,Zr rfl (Zr rfl ⟨kW,λt ht=>?_⟩)⟩⟩⟩);have st:=sp.trans (Same.new (o:=.tup [.str "less",.ref pp,.int z]) ht);exact q t (.mx z) n' _ (((SB.fh s1).trans fh).trans (Kp.of st)) (st _ _ aq) (by omega) (by omega) (ar.same st) eF rfl
  . refine(Zr rfl ⟨_,Zr rfl ⟨rfl,(by show(0:Int)<_;decide),p,_,_,Zr rfl ⟨rfl,eB.of eF,J,Zr rfl (Zr rfl ⟨kW,λt ht=>?_⟩)⟩⟩⟩);have st:=sp.trans (Same.new (o:=.tup [.str "same",.ref pp,.int z]) ht);exact q t (.my z) n' _ (((SB.fh s1).trans fh).trans (Kp.of st)) (st _ _ aq) (by omega) (by omega) (ar.same st) eF rfl
 |fy=>
  have av:=U;unfold KA at U;obtain⟨pk,rfl,I⟩:=U;refine fU rfl I rfl (by decide +kernel) ?_;refine(Zr rfl ⟨pk,_,_,Zr rfl ⟨rfl,d_.of I,rfl,rfl,Zr rfl ?_⟩⟩);rw[show decide (V.str "word"=V.str "rows")=false by decide +kernel];refine e_ (Zr rfl ⟨pk,_,_,Zr rfl ⟨rfl,d_.of I,rfl,rfl,Zr rfl ?_⟩⟩);rw[show decide (V.str "word"=V.str "tree")=false by decide +kernel];refine e_ ?_;refine(Zr rfl (Zr rfl (Zr rfl (Zr rfl (Zr rfl ⟨pp,v,ps,d,fp,e,rfl,ax,aC,hA,λv1 aQ ap=>?_⟩)))))
  have aB:Own H1 v1 e []:=by
   unfold eT at hF;obtain⟨z,rfl⟩:=hF;unfold Own at ap ⊢;exact⟨ap.1,rfl⟩
  refine⟨a,b,ns,n+1,.ref pk,.fy,v1,e,rfl,g1,aw,av,trivial,aB,hF,hS,by omega,λv' e' n' H2 fh aq w1 w2 ar au jV=>?_⟩;unfold eT at jV;obtain⟨z,rfl⟩:=jV;unfold Own at au;obtain⟨rfl,_⟩:=au;refine⟨gh,λp hp=>?_⟩;have sp:Same H2 (upd H2 p (.lst [.str "less",.str "same"])):=Same.new hp;have aE:=Q0g r (show(2:Int)≠0 by decide);have aF:=Q0i r (show(0:Int)<2 by decide)
  have J:gv [V.str "less",V.str "same"] (r % 2)=some (.str "less")\/gv [V.str "less",V.str "same"] (r % 2)=some (.str "same"):=by
   have:r % 2=0\/r % 2=1:=by omega
   rcases this with e|e <;> rw[e]
   . exact .inl rfl
   . exact .inr rfl
  rcases J with J|J
  . refine(Zr rfl ⟨_,Zr rfl ⟨rfl,(by show(0:Int)<_;decide),p,_,_,Zr rfl ⟨rfl,eB.of eF,J,Zr rfl (Zr rfl ⟨kW,λt ht=>?_⟩)⟩⟩⟩);have st:=sp.trans (Same.new (o:=.tup [.str "less",.ref pp,.str z]) ht);exact q t (.mz z) n' _ (((SB.fh s1).trans fh).trans (Kp.of st)) (st _ _ aq) (by omega) (by omega) (ar.same st) eF rfl
  . refine(Zr rfl ⟨_,Zr rfl ⟨rfl,(by show(0:Int)<_;decide),p,_,_,Zr rfl ⟨rfl,eB.of eF,J,Zr rfl (Zr rfl ⟨kW,λt ht=>?_⟩)⟩⟩⟩);have st:=sp.trans (Same.new (o:=.tup [.str "same",.ref pp,.str z]) ht);exact q t (.mC z) n' _ (((SB.fh s1).trans fh).trans (Kp.of st)) (st _ _ aq) (by omega) (by omega) (ar.same st) eF rfl
end Pb
namespace L2
open Spec PyProof.Rows
theorem Hw {prog:Program}{w:World}{A:Around}{E:Value->Shared->Prop}{s:Shared}{t b:Addr}{vs ws:List Value}{Q:Value->Shared->Prop}(ht:IsTup s.heap t vs.toArray)(hb:IsTup s.heap b ws.toArray)(hv:vs=[])(h0:Q (.ref b) s):wpAny (model prog w) A (binaryOp .Add (.ref t) (.ref b)) Q E s:=by
 obtain⟨⟨cls,dd,data,sl⟩,ho,hc,n,hd⟩:=id ht;obtain⟨⟨ab,Y,data2,aa⟩,I,J,n2,U⟩:=id hb;simp only at hc hd J U;subst hc hd J U
 exact concat_meets ⟨_,ho,rfl⟩ ⟨_,I,rfl⟩ noFill_tuple_add seq_tuple_add PySem.F.slot_tuple_add PySem.F.entry_tuple_add (PySem.F.args_tuple_add_2 _ _)
  (tuple_addW0 t b vs.toArray ws.toArray n n2 dd Y sl aa (by simp[hv])) ⟨ho,I,h0⟩
def Hx (K:W.Frag):R2:=λx y H Q=>∃a b xs ys,x=.ref a/\y=.ref b/\d_ K H a xs/\d_ K H b ys/\ys≠[]/\xs.length+ys.length<=sizeLine/\
 (xs=[]->Q (.ref b) H)/\(xs≠[]->∀p,H p=none->Q (.ref p) (upd H p (.tup (xs++ys))))
theorem Hy {X:Cx}:gn X (binaryOp .Add) (Hx X.K):=by
 intro pins s σ H x y v u Q I U Y h;obtain⟨a,b,xs,ys,rfl,rfl,ha,hb,hy,hz,q1,q2⟩:=h;by_cases J:xs=[]
 . cases U
   cases Y;obtain⟨ab,r1,p1,_⟩:=I.tuple ha;obtain⟨aa,r2,p2,_⟩:=I.tuple hb;exact Hw p1 p2 (r1.pX.mpr J) ⟨.ref b,H,I,rfl,q1 J⟩
 . exact EM pins s σ H _ _ v u Q I U Y ⟨a,b,xs,ys,rfl,rfl,ha,hb,J,hz,λz=>absurd z hy,λ_=>q2 J⟩
end L2
namespace Pb
open L2
noncomputable def cl:Nat->Nat
 |0=>1
 |d+1=>2 * cl d+1
def o5 (K:W.Frag) (d:Nat):Sp:=λvs H Q _=>∃a b ns n pl fZ k,vs=[.ref a,.ref b,.ref pl,.int d]/\G0 K H a b ns n/\H pl=some (.lst fZ)/\pl≠b/\1<=fZ.length/\fZ.length<=10/\(∀u∈fZ,∃L:Lo,fo H u L/\L.ok k/\L.dp<=0)/\n+cl d<=1000000000000/\
 ∀(v:V) (L:Lo) (n':Int) (H':Hp),SB b H H'->H' b=some (.lst [.int n'])->n<=n'->n'<=n+cl d->fo H' v L->L.ok k->L.dp<=d->Q v H'
def jm (H:Hp) (k:Kd) (gq:List Str) (v:V):Prop:=∃t U Y ps J I,v=.ref t/\H t=some (.tup [.ref U,Y])/\H U=some (.tup (ps.map V.str))/\KA H Y J/\J.W/\(∀fs,J≠ .eX fs)/\ps=gq++I/\iV I k=some J
theorem jm.mono {H H':Hp}{k:Kd}{gq:List Str}{v:V}(t:Tu H H')(h:jm H k gq v):jm H' k gq v:=by
 obtain⟨U,Y,kv,ps,J,I,e,h1,h2,h3,h4⟩:=h;exact⟨U,Y,kv,ps,J,I,e,t _ _ h1,t _ _ h2,KA.mono t J h3,h4⟩
def o6 (n:Nat):Sp:=λvs H Q _=>∃J U gq k,vs=[J,.ref U]/\KA H J k/\k.W/\k.dep<=n/\n<=5/\gq.length+n<=10/\H U=some (.tup (gq.map V.str))/\
 ∀(l:Addr) (I:List V) (H':Hp),Same H H'->H l=none->H' l=some (.lst I)->I.length=k.lf->(∀v∈I,jm H' k gq v)->Q (.ref l) H'
variable {P:Program}{w:World}{K:W.Frag}{mg:Str->Option Value}{base:Heap}
theorem Bu:fv ["_law_script","_law_at","_law_leaves","_law_deep","_law_m","_law_one"] XY (eS (top 50)):=fC
theorem Hz (T:Tb mg)(I:Dn K mg "_law_look" kg (top 50) J U)(Y:Dn K mg "_law_next" fg (top 33) aa ab)(ac:en P w K mg base eu (1) aa ab fg (i8 K)):en P w K mg base eu (0+2) J U kg (o5 K 0):=by
 refine I.F.ok Bu λvs H Q E h=>?_;obtain⟨a,b,ns,n,pl,fZ,k,rfl,g,ag,af,ak,al,ah,hn,q⟩:=h;refine⟨rfl,λam A outer s nd hr hu=>?_⟩;have ai:(cl 0:Int)=1:=rfl;rw[ai] at hn q
 refine⟨_,(eh (eN 4 nd (eL ac hr Y (a_ (pv 0) (a_ (pv 1) c_))))
  (eh (eO (PW.pt (g9 (eM fc (pv 3) b_ (eK _)) (hU (eM fc (eG fA (pv 4) b_) b_ (eK _))))) (eA (eJ (gG (pv 2) (eG fA (eG gC (pv 4) b_) (fM gY (by rfl) T.gM PySem.boot_len (a_ (pv 2) c_)))))) eQ)
  (eh (eN 5 nd zQ)
  (eh (eO (eM fc (eG fA (pv 4) b_) b_ (eK _)) (eA (eJ (gd (a_ eY (a_ (pv 5) c_))))) eQ)
  (eA (eJ (gd (a_ (gG (gi (a_ eY (a_ eY c_))) (eG fA (eG gC (pv 4) b_) b_)) (a_ (pv 5) (a_ zQ c_)))))))))),?_⟩
 ac_rfl
 refine(Zr rfl (Zr rfl ⟨a,b,ns,n,rfl,g,by omega,λr H1 r0 r1 s1 h1=>?_⟩));refine(Zr rfl ⟨rfl,Zr rfl ?_⟩);rw[decide_eq_true (show V.int ((0:Nat):Int)=V.int 0 from rfl)];refine fw ?_;have ae:=s1 pl _ af ag;have w0:=Q0g (r / 5) (show((fZ.length:Nat):Int)≠0 by omega);have w1:=Q0i (r / 5) (show(0:Int)<((fZ.length:Nat):Int) by omega);obtain⟨j,hj⟩:∃j:Nat,r / 5 % ((fZ.length:Nat):Int)=(j:Int):=⟨(r / 5 % ((fZ.length:Nat):Int)).toNat,by omega⟩;have aj:j<fZ.length:=by omega
 refine(Zr rfl (Zr rfl ⟨_,Zr rfl ⟨rfl,⟨by decide,by decide⟩,Zr rfl ⟨pl,Zr rfl ⟨.inl (eB.of ae),_,Zr rfl ⟨rfl,(by show(0:Int)<_;omega),pl,_,_,fZ[j],rfl,rfl,eB.of ae,(by rw[hj];exact gz (Q03 aj)),?_⟩⟩⟩⟩⟩));obtain⟨L,g1,g2,g3⟩:=ah fZ[j] (Q0v _);exact q _ L (n+1) H1 s1 h1 (by omega) (by omega) (fo.mono (s1.tu g.at_) L g1) g2 g3
theorem HA (d:Nat)(T:Tb mg)(I:Dn K mg "_law_look" kg (top 50) J U)(Y:en P w K mg base eu (d+2) J U kg (o5 K d))(aa:Dn K mg "_law_next" fg (top 33) ab ac)(ae:en P w K mg base eu (1) ab ac fg (i8 K)):en P w K mg base eu ((d+1)+2) J U kg (o5 K (d+1)):=by
 refine I.F.ok Bu λvs H Q E h=>?_;obtain⟨a,b,ns,n,pl,fZ,k,rfl,g,au,af,aj,ak,an,hn,q⟩:=h;refine⟨rfl,λaA A outer s nd hr hu=>?_⟩
 have av:(cl (d+1):Int)=2 * cl d+1:=by
  have:cl (d+1)=2 * cl d+1:=rfl;omega
 rw[av] at hn q
 refine⟨_,(eh (eN 4 nd (eL ae hr aa (a_ (pv 0) (a_ (pv 1) c_))))
  (eh (eO (PW.pt (g9 (eM fc (pv 3) b_ (eK _)) (hU (eM fc (eG fA (pv 4) b_) b_ (eK _))))) (eA (eJ (gG (pv 2) (eG fA (eG gC (pv 4) b_) (fM gY (by rfl) T.gM PySem.boot_len (a_ (pv 2) c_)))))) eQ)
  (eh (eN 5 nd (eL Y hr I (a_ (pv 0) (a_ (pv 1) (a_ (pv 2) (a_ (eG jK (pv 3) b_) c_))))))
  (eh (eO (eM fc (eG fA (pv 4) b_) b_ (eK _)) (eA (eJ (gd (a_ eY (a_ (pv 5) c_))))) eQ)
  (eA (eJ (gd (a_ (gG (gi (a_ eY (a_ eY c_))) (eG fA (eG gC (pv 4) b_) b_)) (a_ (pv 5) (a_ (eL Y hr I (a_ (pv 0) (a_ (pv 1) (a_ (pv 2) (a_ (eG jK (pv 3) b_) c_))))) c_)))))))))),?_⟩
 ac_rfl
 refine(Zr rfl (Zr rfl ⟨a,b,ns,n,rfl,g,by omega,λr H1 r0 r1 s1 h1=>?_⟩));have g1:=g.go s1 h1 (by omega);have ai:=s1 pl _ af au;have aw:=s1.tu g.at_;have e2:(((d+1:Nat):Int)) - 1=(d:Int):=by omega
 refine(Zr rfl ⟨rfl,Zr rfl ?_⟩);rw[decide_eq_false (show ¬V.int (((d+1:Nat):Int))=V.int 0 from λz=>by injection z with z;omega)];refine e_ ?_;refine(Zr rfl ⟨_,Zr rfl ⟨rfl,(by show(0:Int)<_;decide),rfl,Zr rfl (fW (λc=>?_) (λc=>?_))⟩⟩)
 . have w0:=Q0g (r / 5) (show((fZ.length:Nat):Int)≠0 by omega);have w1:=Q0i (r / 5) (show(0:Int)<((fZ.length:Nat):Int) by omega);obtain⟨j,hj⟩:∃j:Nat,r / 5 % ((fZ.length:Nat):Int)=(j:Int):=⟨(r / 5 % ((fZ.length:Nat):Int)).toNat,by omega⟩;have ax:j<fZ.length:=by omega
   refine(Zr rfl (Zr rfl ⟨_,Zr rfl ⟨rfl,⟨by decide,by decide⟩,Zr rfl ⟨pl,Zr rfl ⟨.inl (eB.of ai),_,Zr rfl ⟨rfl,(by show(0:Int)<_;omega),pl,_,_,fZ[j],rfl,rfl,eB.of ai,(by rw[hj];exact gz (Q03 ax)),?_⟩⟩⟩⟩⟩));obtain⟨L,g1,g2,g3⟩:=an fZ[j] (Q0v _);exact q _ L (n+1) H1 s1 h1 (by omega) (by omega) (fo.mono (s1.tu g.at_) L g1) g2 (by omega)
 have ao:∀u∈fZ,∃L:Lo,fo H1 u L/\L.ok k/\L.dp<=0:=λu hu=>by
  obtain⟨L,x1,x2⟩:=an u hu;exact⟨L,fo.mono aw L x1,x2⟩
 refine(Zr rfl (Zr rfl (Zr rfl (Zr rfl ⟨_,Zr rfl ⟨rfl,a,b,ns,n+1,pl,fZ,k,(by show [V.ref a,V.ref b,V.ref pl,V.int (((d+1:Nat):Int) - 1)]=_;rw[e2]),g1,ai,af,aj,ak,ao,by omega,λv L n2 H2 s2 h2 u1 u2 hL al aB=>?_⟩⟩))));have g2:=g1.go s2 h2 u1;have ap:=s2 pl _ af ai;have ay:=s2.tu h1;refine(Zr rfl ⟨_,Zr rfl ⟨rfl,(by show(0:Int)<_;decide),rfl,Zr rfl (fW (λc1=>?_) (λc1=>?_))⟩⟩)
 . refine(Zr rfl ⟨gh,λt ht=>?_⟩);have st:Same H2 (upd H2 t (.tup [.str "not",v])):=Same.new ht;refine q _ (.not L) n2 _ (s1.trans (s2.trans (SB.of st))) (st _ _ h2) (by omega) (by omega) ?_ al (by simp only[Lo.dp];omega);unfold fo;exact⟨t,v,rfl,eF,fo.mono (Tu.of st) L hL⟩
 have az:∀u∈fZ,∃L:Lo,fo H2 u L/\L.ok k/\L.dp<=0:=λu hu=>by
  obtain⟨L,x1,x2⟩:=ao u hu;exact⟨L,fo.mono ay L x1,x2⟩
 have aC:=Q0g (r / 5) (show(2:Int)≠0 by decide);have aD:=Q0i (r / 5) (show(0:Int)<2 by decide);refine⟨gh,λp hp=>?_⟩;have sp:Same H2 (upd H2 p (.lst [.str "and",.str "or"])):=Same.new hp
 have ag:gv [V.str "and",V.str "or"] (r / 5 % 2)=some (.str "and")\/gv [V.str "and",V.str "or"] (r / 5 % 2)=some (.str "or"):=by
  have:r / 5 % 2=0\/r / 5 % 2=1:=by omega
  rcases this with e|e <;> rw[e]
  . exact .inl rfl
  . exact .inr rfl
 have aq:∀u∈fZ,∃L:Lo,fo (upd H2 p (.lst [.str "and",.str "or"])) u L/\L.ok k/\L.dp<=0:=λu hu=>by
  obtain⟨L,x1,x2⟩:=az u hu;exact⟨L,fo.mono (Tu.of sp) L x1,x2⟩
 have g3:G0 K (upd H2 p (.lst [.str "and",.str "or"])) a b ns n2:=g2.go (SB.of sp) (sp _ _ h2) (by omega);rcases ag with ag|ag
 . refine(Zr rfl ⟨_,Zr rfl ⟨rfl,⟨by decide,by decide⟩,_,Zr rfl ⟨rfl,(by show(0:Int)<_;decide),p,_,_,Zr rfl ⟨rfl,eB.of eF,ag,Zr rfl (Zr rfl (Zr rfl (Zr rfl (Zr rfl ⟨_,Zr rfl ⟨rfl,a,b,ns,n2,pl,fZ,k,(by show [V.ref a,V.ref b,V.ref pl,V.int (((d+1:Nat):Int) - 1)]=_;rw[e2]),g3,sp _ _ ap,af,aj,ak,aq,by omega,λv' L' n3 H3 s3 h3 u3 u4 am ah ar=>⟨kW,λt ht=>?_⟩⟩⟩))))⟩⟩⟩⟩);have st:Same H3 (upd H3 t (.tup [.str "and",v,v'])):=Same.new ht;refine q _ (.and L L') n3 _ (s1.trans (s2.trans ((SB.of sp).trans (s3.trans (SB.of st))))) (st _ _ h3) (by omega) (by omega) ?_ ⟨al,ah⟩ (by simp only[Lo.dp];omega);unfold fo;exact⟨t,v,v',rfl,eF,fo.mono ((Tu.of sp).trans ((s3.tu (sp _ _ h2)).trans (Tu.of st))) L hL,fo.mono (Tu.of st) L' am⟩
 . refine(Zr rfl ⟨_,Zr rfl ⟨rfl,⟨by decide,by decide⟩,_,Zr rfl ⟨rfl,(by show(0:Int)<_;decide),p,_,_,Zr rfl ⟨rfl,eB.of eF,ag,Zr rfl (Zr rfl (Zr rfl (Zr rfl (Zr rfl ⟨_,Zr rfl ⟨rfl,a,b,ns,n2,pl,fZ,k,(by show [V.ref a,V.ref b,V.ref pl,V.int (((d+1:Nat):Int) - 1)]=_;rw[e2]),g3,sp _ _ ap,af,aj,ak,aq,by omega,λv' L' n3 H3 s3 h3 u3 u4 am ah ar=>⟨kW,λt ht=>?_⟩⟩⟩))))⟩⟩⟩⟩);have st:Same H3 (upd H3 t (.tup [.str "or",v,v'])):=Same.new ht;refine q _ (.or L L') n3 _ (s1.trans (s2.trans ((SB.of sp).trans (s3.trans (SB.of st))))) (st _ _ h3) (by omega) (by omega) ?_ ⟨al,ah⟩ (by simp only[Lo.dp];omega);unfold fo;exact⟨t,v,v',rfl,eF,fo.mono ((Tu.of sp).trans ((s3.tu (sp _ _ h2)).trans (Tu.of st))) L hL,fo.mono (Tu.of st) L' am⟩
theorem Bv (T:Tb mg)(J:Dn K mg "_law_look" kg (top 50) U Y)(I:Dn K mg "_law_next" fg (top 33) aa ab):∀d:Nat,en P w K mg base eu (d+2) U Y kg (o5 K d)
 |0=>Hz T J I (nz (mw T I))
 |d+1=>HA d T J (Bv T J I d) I (nz (mw T I))
theorem HC:fv ["_law_kind_here","_law_path","_law_found","_law_name","_law_inner"] Xk (eS (top 47)):=fC
theorem HD (n:Nat)(T:Tb mg)(J:Dn K mg "_law_places" mi (top 47) U Y)(ab:en P w K mg base eu (n+1) U Y mi (o6 n)):en P w K mg base eu ((n+1)+1) U Y mi (o6 (n+1)):=by
 refine J.F.ok HC λvs H Q E h=>?_;obtain⟨kv,p0,gq,k,rfl,hk,hW,aA,aG,aH,ap,q⟩:=h;refine⟨rfl,λaI A outer s nd hr hu=>?_⟩
 refine⟨_,(eh (eO (eM jw (eI (pv 0) b_) eY (eK _)) (eA (eJ (gi (a_ (gd (a_ (pv 1) (a_ (pv 0) c_))) c_)))) eQ)
  (eh (eN 2 nd (gi c_))
  (eh (hX PassesOwn.never rfl (jv (eI (pv 0) b_)) (iZ rfl (gQ (fL (i:=3) nd rfl gc) (gQ (fL (i:=4) nd rfl gc) iY))) (eA (eN 2 nd (eG jN (pv 2) (eL ab hr J (a_ (pv 4) (a_ (eG Hy (pv 1) (gd (a_ (pv 3) c_))) c_)))))))
  (eA (eJ (pv 2)))))),?_⟩
 ac_rfl
 have one:∀(c:Addr) (xs:List V) (nm:Str),kv=.ref c->H c=some (.tup xs)->xs[0]? =some (.str nm)->nm≠"record"->(∀fs,k≠ .eX fs)->k.lf=1->∀t,H t=none->∀l,upd H t (.tup [.ref p0,kv]) l=none->Q (.ref l) (upd (upd H t (.tup [.ref p0,kv])) l (.lst [.ref t])):=λc xs nm e hc h0 aJ aB aq t ht l hl=>by
  have s1:Same H (upd H t (.tup [.ref p0,kv])):=Same.new ht;have s2:=s1.trans (Same.new (o:=.lst [.ref t]) hl);refine q l [.ref t] _ s2 (s1.free hl) eF (by rw[aq];rfl) λv hv=>?_;rw[List.mem_singleton.mp hv];exact⟨t,p0,kv,gq,k,[],rfl,Same.new hl _ _ eF,s2 _ _ ap,KA.mono (Tu.of s2) k hk,hW,aB,by simp,rfl⟩
 cases k with
 |eX fs=>
  have aK:=hk;unfold KA at hk;obtain⟨c,b,xs,rfl,hc,hb,ar⟩:=hk;have au:=hW;unfold Kd.W at au;obtain⟨aC,aL,av⟩:=au;simp only[Kd.dep] at aA
  have aq:fs.lf<=248832:=Q0f (Kd.o3 (.eX fs) n hW (by simp only[Kd.dep];omega)) (by
   have:(12:Nat) ^ n<=12 ^ 5:=Nat.pow_le_pow_right (by decide) (by omega);omega)
  refine(Zr rfl ⟨c,_,_,Zr rfl ⟨rfl,d_.of hc,rfl,rfl,Zr rfl ?_⟩⟩);rw[show decide (V.str "record"=V.str "record")=true by decide +kernel];refine e_ ?_;refine⟨nu,λl0 aw=>?_⟩;have s0:Same H (upd H l0 (.lst [])):=Same.new aw;refine(Zr rfl ⟨c,_,_,Zr rfl ⟨rfl,d_.of (s0 _ _ hc),rfl,b,rfl,⟨_,d_.of (s0 _ _ hb)⟩,kB (xs:=xs) (λi σ H'=>∃(x y:Option V) (l:Addr) (aa:List V),σ=[some (.ref c),some (.ref p0),some (.ref l),x,y]/\Same H H'/\H l=none/\H' l=some (.lst aa)/\aa.length=fs.i9 i/\∀v∈aa,jm H' (.eX fs) gq v) ?_ ?_ ?_ ?_⟩⟩)
  . exact⟨_,_,l0,[],rfl,s0,aw,eF,(by cases fs <;> rfl),λv hv=>absurd hv (by simp)⟩
  . intro i σ H' _ zq;obtain⟨x,y,l,aa,rfl,s1,_⟩:=zq;exact d_.of (s1 _ _ hb)
  . intro i v σ H' hv zq;obtain⟨x,y,l,aa,rfl,s1,hl,am,aj,an⟩:=zq;obtain⟨e,u,nm,k',rfl,ah,he,ax⟩:=FA.get fs ar hv;have az:=Fs.l8 aC ah;have aM:=Fs.Bh ah;have aP:=Fs.Bi fs (i+1);refine⟨e,Zr rfl ⟨d_.of (s1 _ _ he),rfl,_,Zr rfl ⟨_,Zr rfl ⟨rfl,?_⟩⟩⟩⟩;refine(Zr rfl (Zr rfl (Zr rfl (Zr rfl ⟨iN,λt1 aD=>?_⟩))));have s2:Same H' (upd H' t1 (.tup [.str nm])):=Same.new aD;have ak:k'.dep<=n:=by have:=Fs.kM ah;omega
    have al:(gq++[nm]).length+n<=10:=by rw[Q0d];show gq.length+1+n<=10;omega
    have fin:∀(H2:Hp),Same H' H2->∀(l2:Addr) (I:List V) (H3:Hp),Same H2 H3->H2 l2=none->H3 l2=some (.lst I)->I.length=k'.lf->(∀v∈I,jm H3 k' (gq++[nm]) v)->H3 l=some (.lst aa)/\aa.length+I.length<=sizeLine/\∀l3,H3 l3=none->(Same H (upd H3 l3 (.lst (aa++I)))/\H l3=none/\upd H3 l3 (.lst (aa++I)) l3=some (.lst (aa++I))/\(aa++I).length=fs.i9 (i+1)/\∀v∈aa++I,jm (upd H3 l3 (.lst (aa++I))) (.eX fs) gq v):=λH2 s3 l2 I H3 s4 ai ac ae af=>by
     have sA:=s3.trans s4;refine⟨sA _ _ am,Q0f (by omega) (show 248832<=sizeLine by decide),λl3 ag=>?_⟩;have s5:Same H3 (upd H3 l3 (.lst (aa++I))):=Same.new ag;refine⟨s1.trans (sA.trans s5),s1.free (sA.free ag),eF,by rw[Q0d];omega,λv hv=>?_⟩;rcases List.mem_append.mp hv with z|z
     . exact jm.mono (Tu.of (sA.trans s5)) (an v z)
     . obtain⟨t,pp,aE,ps,kl,ay,e1,e2,e3,e4,e5,e6,e7,e8⟩:=jm.mono (Tu.of s5) (af v z);refine⟨t,pp,aE,ps,kl,nm::ay,e1,e2,e3,e4,e5,e6,by rw[e7,Q17];rfl,?_⟩;show(fs.get nm).bind (iV ay)=some kl;rw[az];exact e8
    refine⟨p0,t1,_,Zr rfl ⟨rfl,d_.of (s2 _ _ (s1 _ _ ap)),d_.of eF,by simp,?_,λhz=>?_,λhz p2 aF=>?_⟩⟩
    . exact Q0k (gE (by rw[Q04];show gq.length+1<=1000;omega))
    . have ez:gq=[]:=List.map_eq_nil_iff.mp hz;have ao:upd H' t1 (.tup [.str nm]) t1=some (.tup ((gq++[nm]).map V.str)):=by rw[ez];exact eF
      refine⟨u,t1,gq++[nm],k',rfl,KA.mono (Tu.of (s1.trans s2)) k' ax,Fs.j_ av ah,ak,by omega,al,ao,λl2 I H3 s4 ai ac ae af=>?_⟩;obtain⟨f1,f2,f3⟩:=fin _ s2 l2 I H3 s4 ai ac ae af;refine⟨l,l2,_,Zr rfl ⟨rfl,f1,ac,f2,λl3 ag=>?_⟩⟩;obtain⟨x1,x2,x3,x4,x5⟩:=f3 l3 ag;exact⟨_,_,l3,Zr rfl ⟨x1,x2,x3,x4,x5⟩⟩
    . have s3:Same H' (upd (upd H' t1 (.tup [.str nm])) p2 (.tup (gq.map V.str++[.str nm]))):=s2.trans (Same.new aF);have ao:upd (upd H' t1 (.tup [.str nm])) p2 (.tup (gq.map V.str++[.str nm])) p2=some (.tup ((gq++[nm]).map V.str)):=by rw[Q0j];exact eF
      refine⟨u,p2,gq++[nm],k',rfl,KA.mono (Tu.of (s1.trans s3)) k' ax,Fs.j_ av ah,ak,by omega,al,ao,λl2 I H3 s4 ai ac ae af=>?_⟩;obtain⟨f1,f2,f3⟩:=fin _ s3 l2 I H3 s4 ai ac ae af;refine⟨l,l2,_,Zr rfl ⟨rfl,f1,ac,f2,λl3 ag=>?_⟩⟩;obtain⟨x1,x2,x3,x4,x5⟩:=f3 l3 ag;exact⟨_,_,l3,Zr rfl ⟨x1,x2,x3,x4,x5⟩⟩
  . intro σ H' zq;obtain⟨x,y,l,aa,rfl,s1,hl,am,aj,an⟩:=zq;exact(Zr rfl (q l aa H' s1 hl am (aj.trans (by rw[FA.len fs ar];exact Fs.Bj fs)) an))
 |num=>
  unfold KA at hk;obtain⟨c,rfl,hc⟩:=hk;refine(Zr rfl ⟨c,_,_,Zr rfl ⟨rfl,d_.of hc,rfl,rfl,Zr rfl ?_⟩⟩);rw[show decide (V.str "number"=V.str "record")=false by decide +kernel];exact fw (Zr rfl (Zr rfl ⟨gh,λt ht=>⟨iN,λl hl=>one c _ _ rfl hc rfl (by decide +kernel) (λfs z=>by cases z) rfl t ht l hl⟩⟩))
 |fy=>
  unfold KA at hk;obtain⟨c,rfl,hc⟩:=hk;refine(Zr rfl ⟨c,_,_,Zr rfl ⟨rfl,d_.of hc,rfl,rfl,Zr rfl ?_⟩⟩);rw[show decide (V.str "word"=V.str "record")=false by decide +kernel];exact fw (Zr rfl (Zr rfl ⟨gh,λt ht=>⟨iN,λl hl=>one c _ _ rfl hc rfl (by decide +kernel) (λfs z=>by cases z) rfl t ht l hl⟩⟩))
 |rows key by_ fs=>
  unfold KA at hk;obtain⟨c,b,xs,rfl,hc,_⟩:=hk;refine(Zr rfl ⟨c,_,_,Zr rfl ⟨rfl,d_.of hc,rfl,rfl,Zr rfl ?_⟩⟩);rw[show decide (V.str "rows"=V.str "record")=false by decide +kernel];exact fw (Zr rfl (Zr rfl ⟨gh,λt ht=>⟨iN,λl hl=>one c _ _ rfl hc rfl (by decide +kernel) (λfs z=>by cases z) rfl t ht l hl⟩⟩))
 |tree k=>
  unfold KA at hk;obtain⟨c,b,rfl,hc,_⟩:=hk;refine(Zr rfl ⟨c,_,_,Zr rfl ⟨rfl,d_.of hc,rfl,rfl,Zr rfl ?_⟩⟩);rw[show decide (V.str "tree"=V.str "record")=false by decide +kernel];exact fw (Zr rfl (Zr rfl ⟨gh,λt ht=>⟨iN,λl hl=>one c _ _ rfl hc rfl (by decide +kernel) (λfs z=>by cases z) rfl t ht l hl⟩⟩))
 |gj fs=>
  unfold KA at hk;obtain⟨c,b,xs,rfl,hc,_⟩:=hk;refine(Zr rfl ⟨c,_,_,Zr rfl ⟨rfl,d_.of hc,rfl,rfl,Zr rfl ?_⟩⟩);rw[show decide (V.str "either"=V.str "record")=false by decide +kernel];exact fw (Zr rfl (Zr rfl ⟨gh,λt ht=>⟨iN,λl hl=>one c _ _ rfl hc rfl (by decide +kernel) (λfs z=>by cases z) rfl t ht l hl⟩⟩))
theorem Bw (T:Tb mg)(I:Dn K mg "_law_places" mi (top 47) J U):∀n:Nat,en P w K mg base eu (n+1) J U mi (o6 n)
 |0=>by
  have Y:∀vs H Q E,¬o6 0 vs H Q E:=λvs H Q E h=>by
   obtain⟨_,_,_,k,_,_,_,hd,_⟩:=h;have:=k.jQ;omega
  exact⟨λvs H Q E h=>absurd h (Y vs H Q E),λA outer s H args us vs Q E _ _ _ _ h=>absurd h (Y vs H Q E)⟩
 |n+1=>HD n T I (Bw T I n)
noncomputable def Ds.upd:Ds->Str->D->Ds
 | .nil,_,_=>.nil
 | .cons y d r,x,e=>.cons y (if y=x then e else d) (r.upd x e)
inductive ie:Nat->Kd->D->List Key->Prop
 |num {n:Nat} {d:D} (h:∀z,d≠ .int z):ie (n+1) .num d []
 |fy {n:Nat} {d:D} (h:∀x,d≠ .str x):ie (n+1) .fy d []
 |Bx {n:Nat} {fs:Fs} {d:D} (h:∀m,d=.dct m->m.names.length≠fs.names.length\/∃x∈fs.names,x ∉ m.names):ie (n+1) (.eX fs) d []
 |By {n:Nat} {fs:Fs} {m:Ds} {i:Nat} {x:Str} {k:Kd} {d:D} {p:List Key} (h1:m.names=fs.names) (ha:fs.at i=some (x,k))
   (hj:∀j y q,j<i->fs.at j=some (y,q)->∃e,m.get y=some e/\eT q e/\e.dep<=n/\e.Sm) (hg:m.get x=some d) (hm:ie n k d p):ie (n+1) (.eX fs) (.dct m) (Sum.inr x::p)
 |rows0 {n:Nat} {key by_:Str} {fs:Fs} {d:D} (h:∀xs,d≠ .lst xs):ie (n+1) (.rows key by_ fs) d []
 |Bz {n:Nat} {key by_:Str} {fs:Fs} {xs:Ds} {i:Nat} {e:D} {p:List Key} {rs:List Ds} (hl:xs.len<=100) (hi:i<=rs.length) (hat:∀j,j<i->xs.at j=some (.dct (rs.getD j .nil)))
   (hf:∀m∈rs,fJ fs m/\m.dep<=n/\m.Sm) (hs:rs.Pairwise (jj key by_)) (hk:(rs.map λm=>keyOf m key).Nodup) (he:xs.at i=some e) (hm:ie (n+1) (.eX fs) e p):ie (n+1) (.rows key by_ fs) (.lst xs) (Sum.inl (i:Int)::p)
 |BA {n:Nat} {key by_:Str} {fs:Fs} {xs:Ds} {i:Nat} {rs:List Ds} (hl:xs.len<=100) (h0:0<i) (hi:i<rs.length) (hat:∀j,j<=i->xs.at j=some (.dct (rs.getD j .nil)))
   (hf:∀m∈rs,fJ fs m/\m.dep<=n/\m.Sm) (hs:(rs.take i).Pairwise (jj key by_)) (hk:((rs.take i).map λm=>keyOf m key).Nodup) (hno:¬jj key by_ (rs.getD (i - 1) .nil) (rs.getD i .nil)):ie (n+1) (.rows key by_ fs) (.lst xs) [Sum.inl (i:Int)]
 |BB {n:Nat} {k:Kd} {d:D} (h:∀xs as,d=.tup xs->xs.len=2->xs.at 1≠some (.lst as)):ie (n+1) (.tree k) d []
 |BC {n:Nat} {k:Kd} {t:D} {as:Ds} {p:List Key} (hm:ie n k t p):ie (n+1) (.tree k) (pairD t (.lst as)) (Sum.inr "knot"::p)
 |BD {n:Nat} {k:Kd} {t e:D} {as:Ds} {i:Nat} {p:List Key} (ht:eT k t/\t.dep<=n/\t.Sm) (hl:as.len<=100) (hj:∀j a,j<i->as.at j=some a->Tree (eT k) a/\a.dep<=n/\a.Sm) (he:as.at i=some e) (hm:ie n (.tree k) e p):
   ie (n+1) (.tree k) (pairD t (.lst as)) (Sum.inl (i:Int)::p)
 |BE {n:Nat} {fs:Fs} {d:D} (h:∀xs,d=.tup xs->xs.len=2->(∃x,xs.at 0=some (.str x)/\x ∉ fs.names)\/(∃z,xs.at 0=some (.int z))\/∃l,xs.at 0=some (.lst l)):ie (n+1) (.gj fs) d []
 |BF {n:Nat} {fs:Fs} {x:Str} {k:Kd} {v:D} {p:List Key} (hg:fs.get x=some k) (hm:ie n k v p):ie (n+1) (.gj fs) (pairD (.str x) v) (Sum.inr x::p)
theorem Ds.tR:∀(m:Ds) (x:Str) (e:D),(m.upd x e).names=m.names
 | .nil,_,_=>rfl
 | .cons y d r,x,e=>by
   show y::(r.upd x e).names=_;rw[Ds.tR r x e];rfl
theorem Ds.BG {x z:Str}(h:z≠x)(e:D):∀(m:Ds),(m.upd x e).get z=m.get z
 | .nil=>rfl
 | .cons y d r=>by
   show(if z=y then some (if y=x then e else d) else(r.upd x e).get z)=(if z=y then some d else r.get z);by_cases c:z=y
   . rw[if_pos c,if_pos c,if_neg (λq=>h (c.trans q))]
   . rw[if_neg c,if_neg c,Ds.BG h e r]
theorem Ds.tT {x:Str}(e:D):∀{m:Ds},x∈m.names->(m.upd x e).get x=some e
 | .nil,h=>by simp[Ds.names] at h
 | .cons y d r,h=>by
   show(if x=y then some (if y=x then e else d) else(r.upd x e).get x)=some e;by_cases c:x=y
   . rw[if_pos c,if_pos c.symm]
   . rw[if_neg c];rcases List.mem_cons.mp (show x∈y::r.names from h) with q|q
     . exact absurd q c
     . exact Ds.tT e q
theorem Ds.mD:∀{xs:Ds}{i:Nat}{d:D},xs.at i=some d->i<xs.len
 | .nil,_,_,h=>by cases h
 | .cons x d r,0,_,_=>by show 0<r.len+1;omega
 | .cons x d r,i+1,_,h=>by
   have:=Ds.mD (xs:=r) (i:=i) h;show i+1<r.len+1;omega
theorem tU:∀{fs:Fs}{x:Str}{v:D},jA fs x v->∃k,fs.get x=some k/\eT k v
 | .nil,_,_,h=>by unfold jA at h;exact h.elim
 | .cons y k r,x,v,h=>by
   unfold jA at h;rcases h with⟨e,f⟩|⟨e,h⟩
   . exact⟨k,by show(if x=y then some k else r.get x)=_;rw[if_pos e],f⟩
   . obtain⟨I,J,U⟩:=tU h;exact⟨I,by show(if x=y then some k else r.get x)=_;rw[if_neg e];exact J,U⟩
theorem Fs.o7:∀{fs:Fs}{x:Str}{k:Kd},fs.W->fs.get x=some k->k.W
 | .nil,_,_,_,h=>by cases h
 | .cons y q r,x,k,w,h=>by
   unfold Fs.W at w;have h:(if x=y then some q else r.get x)=some k:=h;by_cases e:x=y
   . rw[if_pos e] at h;cases h;exact w.1
   . rw[if_neg e] at h;exact Fs.o7 w.2.2 h
theorem BH:∀{rs:List Ds}{i:Nat},i<rs.length->(gm rs).at i=some (.dct (rs.getD i .nil))
 |[],_,h=>by simp at h
 |m::r,0,_=>rfl
 |m::r,i+1,h=>by
  show(gm r).at i=_;rw[BH (by simpa using h)];rfl
theorem ir.all {P:D->Prop}{xs:Ds}(h:ir P xs){i:Nat}{d:D}(e:xs.at i=some d):Tree P d:=ir.at h e
theorem Ds.BI (x:Str)(e:D):∀m:Ds,(m.upd x e).dep<=max m.dep e.dep
 | .nil=>Q07 _
 | .cons y d r=>by
   have:=Ds.BI x e r;show max (if y=x then e else d).dep (r.upd x e).dep<=max (max d.dep r.dep) e.dep;split <;> omega
theorem Fs.tV:∀{fs:Fs}{x:Str}{k:Kd},fs.get x=some k->x∈fs.names
 | .cons y q r,x,k,h=>by
   unfold Fs.get at h;by_cases e:x=y
   . rw[e];exact Q05
   . rw[if_neg e] at h;exact Q0b _ (Fs.tV h)
noncomputable def kD:Key->D
 | .inl z=>.int z
 | .inr s=>.str s
def i_:Option Kd->Key->Prop
 |some .num,.inl _=>True
 |some .fy,.inr _=>True
 |_,_=>False
theorem i_.fit {o:Option Kd}{p:Key}(h:i_ o p):∃k,o=some k/\jR k/\eT k (kD p):=by
 unfold i_ at h;split at h
 . exact⟨.num,rfl,trivial,by unfold eT kD;exact⟨_,rfl⟩⟩
 . exact⟨.fy,rfl,trivial,by unfold eT kD;exact⟨_,rfl⟩⟩
 . exact h.elim
theorem i_.of {fs:Fs}{m:Ds}{x:Str}(f:fJ fs m)(h:fs.pl x):i_ (fs.get x) (keyOf m x):=by
 obtain⟨_,⟨z,_,e,k⟩|⟨s,_,e,k⟩⟩:=f.plain h
 . rw[e,k];exact trivial
 . rw[e,k];exact trivial
theorem HE (p:Key):(kD p).dep=1:=by cases p <;> rfl
theorem HF (p:Key):(kD p).Sm:=by cases p <;> (unfold kD D.Sm;trivial)
theorem HG {m:Ds}{x:Str}{p:Key}(h:x∈m.names):keyOf (m.upd x (kD p)) x=p:=by
 unfold keyOf;rw[Ds.tT _ h]
 cases p <;> rfl
theorem Ds.tW {x:Str}{e:D}:∀{m:Ds},x ∉ m.names->m.upd x e=m
 | .nil,_=>rfl
 | .cons y d r,h=>by
   show Ds.cons y (if y=x then e else d) (r.upd x e)=_;rw[if_neg (λz=>h (by rw[z];exact Q05)),Ds.tW (m:=r) λz=>h (Q0b _ z)]
theorem fJ.upd {x:Str}{k:Kd}{e:D}(J:eT k e):∀{fs:Fs}{m:Ds},fs.names.Nodup->fs.get x=some k->fJ fs m->fJ fs (m.upd x e)
 | .nil,_,_,h,_=>by cases h
 | .cons y q r,m,I,h,f=>by
   unfold fJ at f;obtain⟨d,m,rfl,f1,f2⟩:=f;have I:(y::r.names).Nodup:=I;obtain⟨U,Y⟩:=List.nodup_cons.mp I;unfold Fs.get at h;show fJ _ (.cons y (if y=x then e else d) (m.upd x e));unfold fJ;by_cases ex:x=y
   . rw[if_pos ex] at h
     cases h;subst ex;rw[if_pos rfl,Ds.tW (by rw[f2.names];exact U)];exact⟨_,Zr rfl ⟨J,f2⟩⟩
   . rw[if_neg ex] at h;rw[if_neg (λz=>ex z.symm)];exact⟨_,Zr rfl ⟨f1,fJ.upd J Y h f2⟩⟩
theorem Ds.HH (x:Str)(e:D)(m:Ds):(m.upd x e).len=m.len:=by rw[<-nB,Ds.tR,nB]
theorem Ds.BJ {x:Str}{e:D}(I:e.Sm):∀{m:Ds},m.Sm->(m.upd x e).Sm
 | .nil,h=>h
 | .cons y d r,h=>by
   unfold Ds.Sm at h;show Ds.Sm (.cons y (if y=x then e else d) (r.upd x e));unfold Ds.Sm;refine⟨?_,Ds.BJ I h.2⟩;split
   . exact I
   . exact h.1
def kr (fs:Fs) (m:Ds):Prop:=fJ fs m/\m.dep<=fs.dB+1/\(D.dct m).Sm
theorem kr.upd {fs:Fs}{m:Ds}{x:Str}{p:Key}(I:fs.names.Nodup)(h:kr fs m)(hp:i_ (fs.get x) p):kr fs (m.upd x (kD p)):=by
 obtain⟨k,e,_,J⟩:=hp.fit;refine⟨h.1.upd J I e,?_,?_⟩
 . have:=Ds.BI x (kD p) m;have a:=h.2.1;rw[HE] at this;omega
 . have s:=h.2.2;unfold D.Sm at s ⊢;exact⟨by rw[Ds.HH];exact s.1,Ds.BJ (HF p) s.2⟩
noncomputable def mE (ns:List Int) (key by_:Str) (fs:Fs) (room:Nat) (q:List Ds × Int) (p:Key):List Ds × Int:=
 if 0<nx ns (q.2+1) % 3 then
  (q.1++[(if by_≠""/\q.1≠[]/\nx ns (q.2+1) / 3 % 2=0 then(e9 ns fs room (q.2+1)).1.upd by_ (kD (keyOf (q.1.getLastD .nil) by_)) else(e9 ns fs room (q.2+1)).1).upd key (kD p)],(e9 ns fs room (q.2+1)).2)
 else(q.1,q.2+1)
noncomputable def g_ (ns:List Int) (key by_:Str) (fs:Fs) (room:Nat) (ps:List Key) (n:Int):List Ds × Int:=ps.foldl (mE ns key by_ fs room) ([],n)
theorem BK {ns:List Int}{key by_:Str}{fs:Fs}{room:Nat}{ps:List Key}{p:Key}{n:Int}:g_ ns key by_ fs room (ps++[p]) n=mE ns key by_ fs room (g_ ns key by_ fs room ps n) p:=by
 unfold g_;rw[List.foldl_append];rfl
theorem BL {ns:List Int}{key by_:Str}{fs:Fs}{room:Nat}{ps:List Key}{p:Key}{n:Int}{i:Nat}(h:ps[i]? =some p):g_ ns key by_ fs room (ps.take (i+1)) n=mE ns key by_ fs room (g_ ns key by_ fs room (ps.take i) n) p:=by
 rw[Q0t,h];exact BK
structure nE (fs:Fs) (key:Str) (room:Nat) (ps:List Key) (n:Int) (q:List Ds × Int):Prop where
 ok:∀m∈q.1,kr fs m
 keys:(q.1.map λm=>keyOf m key).Sublist ps
 lo:n<=q.2
 hi:q.2<=n+ps.length * ((fs.cB:Int)+1)
theorem tX {α:Type}{l:List α}{d:α}(h:l≠[]):l.getLastD d∈l:=by
 cases l with
 |nil=>exact absurd rfl h
 |cons a r=>exact List.mem_of_getLast? (by rw[List.getLast?_eq_some_getLast (List.cons_ne_nil a r)];rw[List.getLastD_cons,<-List.getLast_eq_getLastD])
theorem nE.step {ns:List Int}{key by_:Str}{fs:Fs}{room:Nat}{ps:List Key}{n:Int}{q:List Ds × Int}{p:Key}(h:nE fs key room ps n q)(hW:(Kd.rows key by_ fs).W)(Y:room<8)(hp:i_ (fs.get key) p):nE fs key room (ps++[p]) n (mE ns key by_ fs room q p):=by
 unfold Kd.W at hW;obtain⟨I,aa,J,U,ab⟩:=hW;have c:=nq ns fs room (q.2+1) Y
 have e:((ps++[p]).length:Int) * ((fs.cB:Int)+1)=ps.length * ((fs.cB:Int)+1)+(fs.cB+1):=by
  rw[Q0d];show((ps.length+1:Nat):Int) * _=_;rw[Q1o,Q1p];simp
 have lo:=h.lo;have hi:=h.hi;unfold mE;split
 . have v0:kr fs (e9 ns fs room (q.2+1)).1:=⟨kQ ns fs J room _ Y,Nat.le_succ_of_le (qo ns fs room _),qP ns fs J room _ Y aa⟩;generalize e9 ns fs room (q.2+1)=v at *
   have v1:kr fs (if by_≠""/\q.1≠[]/\nx ns (q.2+1) / 3 % 2=0 then v.1.upd by_ (kD (keyOf (q.1.getLastD .nil) by_)) else v.1):=by
    split
    . rename_i hc;exact v0.upd I (i_.of (h.ok _ (tX hc.2.1)).1 (ab.resolve_left hc.1))
    . exact v0
   generalize (if by_≠""/\q.1≠[]/\nx ns (q.2+1) / 3 % 2=0 then v.1.upd by_ (kD (keyOf (q.1.getLastD .nil) by_)) else v.1)=m1 at *
   have hm:key∈m1.names:=by
    rw[v1.1.names];obtain⟨k,e,_⟩:=U;exact Fs.tV e
   refine⟨λm ac=>?_,?_,by show n<=v.2;omega,by show v.2<=_;rw[e];omega⟩
   . rcases List.mem_append.mp ac with z|z
     . exact h.ok m z
     . rw[List.mem_singleton.mp z];exact v1.upd I hp
   . show((q.1++[m1.upd key (kD p)]).map λm=>keyOf m key).Sublist _;rw[Q0j];refine List.Sublist.append h.keys ?_;show [keyOf (m1.upd key (kD p)) key].Sublist [p];rw[HG hm];exact List.Sublist.refl _
 . exact⟨h.ok,h.keys.trans (List.sublist_append_left _ _),by show n<=q.2+1;omega,by show q.2+1<=_;rw[e];omega⟩
theorem tY {ns:List Int}{key by_:Str}{fs:Fs}{room:Nat}{ps:List Key}{n:Int}(I:(Kd.rows key by_ fs).W)(J:room<8)(hp:∀p∈ps,i_ (fs.get key) p):∀i,nE fs key room (ps.take i) n (g_ ns key by_ fs room (ps.take i) n)
 |0=>by
  rw[Q2a];exact { ok:=(λm h=>by cases h),keys:=List.Sublist.refl _,lo:=Q13 n,hi:=by show n<=n+((0:Nat):Int) * _;simp }
 |i+1=>by
  have U:=tY I J hp (n:=n) (ns:=ns) i
  cases e:ps[i]? with
  |none=>
   have:ps.take (i+1)=ps.take i:=by rw[Q0t,e];exact Q18 _
   rw[this];exact U
  |some p=>
   have Y:ps.take (i+1)=ps.take i++[p]:=by rw[Q0t,e];rfl
   rw[Y,BK];exact U.step I J (hp p (Q0m e))
abbrev jW (Pt:Addr) (H H':Hp):Prop:=Kp (λc=>c=Pt) H H'
theorem tZ {K:W.Frag}{P:Addr}{lp:Pos}{ql:Str}{j:Nat}{σ:L2.St}{Q:VK}{H:Hp}{pr pk pb:Addr}{vs:List V}{ms:List Ds}{fl:List (List Addr)}{key by_:Str}{fs:Fs}(hr:eB K H pr vs)(J:eR H vs ms fl)(hl:vs.length<64)(hT:eU P lp ql H)(aw:σ[j]? =some (some (.ref pk)))
 (ax:H pk=some (.tup [.str "rows",.str key,.str by_,.ref pb])) (Y:∀m∈ms,fJ fs m) (ae:fs.pl key) (ak:by_=""\/fs.pl by_) (ay:(ms.map λm=>keyOf m key).Nodup)
 (q:∀D al am H',jW P H H'->eU P lp ql H'->H D=none->H' D=some (.lst al)->eR H' al (gw key by_ ms) am->am.Perm fl->Q (.ref D) H'):
 qd K P lp ql (jg k8 [] E0 (gy (fT (j+1)) (gy (fT 0) iz))) σ Q (.ref pr) H:=by
 obtain⟨af,aq⟩:=A3.len J;refine⟨pr,vs,rfl,hr,hl,hT,λc' H2 ah mono=>?_⟩
 have np:∀I o,(∀ps,o≠ .gA ps)->H I=some o->H2 I=some o:=λI o ho e=>by
  obtain⟨az,aA⟩:=hT.tab;exact mono I o (gO e aA (ho az)) e
 have an:Tu H H2:=λI ys e=>np I _ (by intro ps z;cases z) e
 have U:eR H2 vs ms fl:=eR.keep an J λI hc o e=>np I o (by
  intro ps z;rcases eR.mu J I hc with⟨_,q⟩|⟨_,q⟩ <;> rw[e] at q <;> rw[z] at q <;> cases q) e
 have ar:H2 pk=some (.tup [.str "rows",.str key,.str by_,.ref pb]):=an _ _ ax;refine⟨λks H3=>Same H2 H3/\ks.length<=vs.length/\l6 H3 ks ((ms.map (rankOf key by_)).take ks.length),⟨Same.refl _,Q07 _,.nil⟩,λks H3 hw=>ah.mono λI o _ e=>hw.1 _ _ e,?_,?_⟩
 . rintro ks H3 yv ⟨s3,aB,ab⟩ hy;have ao:ks.length<vs.length:=(List.getElem?_eq_some_iff.mp hy).1;have ag:=A3.at (a0:=V.non) (b0:=Ds.nil) (c0:=[]) U ks.length ao;have ey:vs.getD ks.length .non=yv:=by rw[Q0e,hy];rfl
   rw[ey] at ag
   have au:ms.getD ks.length .nil∈ms:=by
    rw[Q0e,Q03 (by omega)];exact Q0v _
   have aa:=Own.same s3 ag;unfold Own at aa;obtain⟨rr,kvs,fq,rfl,aC,_,aD⟩:=aa;refine⟨_,aw,Zr rfl ⟨pk,rr,pb,key,by_,fs,kvs,_,fq,rfl,s3 _ _ ar,aC,aD,Y _ au,ae,ak,λt ht=>⟨s3.trans (Same.new ht),by rw[Q0d];exact ao,?_⟩⟩⟩
   have et:(ms.map (rankOf key by_)).take (ks++[V.ref t]).length=(ms.map (rankOf key by_)).take ks.length++[rankOf key by_ (ms.getD ks.length .nil)]:=by
    rw[Q0d];show List.take (ks.length+1) _=_;rw[Q0t,Q0q,Q0e,Q03 (by omega)];rfl
   rw[et];refine tE (Paired.nX ab λk kl z=>?_) ⟨t,rfl,eF⟩;obtain⟨pp,e,hh⟩:=z;exact⟨pp,e,by rw[eE (eP hh ht)];exact hh⟩
 . rintro ks H3 ⟨s3,aB,ab⟩ av
   have aE:(ms.map (rankOf key by_)).take ks.length=ms.map (rankOf key by_):=by
    rw[av,af,Q30 (by rw[Q04];exact Q00 _)]
   rw[aE] at ab;refine⟨_,ab,⟨if by_="" then [jS (fs.get key)] else [jS (fs.get by_),jS (fs.get key)],by split <;> simp,λkl aF=>?_⟩,λp hp hs D hD=>?_⟩
   . obtain⟨m,hm,rfl⟩:=List.mem_map.mp aF;exact qj (Y m hm) ae ak
   have ai:∀i∈p,i<vs.length:=λi hi=>by
    have:=hp.mem_iff.mp hi;simpa using this
   have aG:p.Perm (List.range ms.length):=by rw[<-af];exact hp
   have hz:(p.map λi=>ms.getD i .nil)=gw key by_ ms:=by
    refine ng (qr _ aG) ?_ ay;rw[Q20] at hs ⊢;refine List.Pairwise.imp_of_mem (λ{i j} hi hj h=>?_) hs;have aH:=ai i hi;have aI:=ai j hj
    have ge:∀i,i<vs.length->(ms.map (rankOf key by_)).getD i []=rankOf key by_ (ms.getD i .nil):=λi hi=>by
     rw[Q0e,Q0e,Q0q,Q03 (by omega)];rfl
    rw[ge i aH,ge j aI] at h;exact h
   have sD:Same H3 (upd H3 D (.lst (p.map λi=>vs.getD i .non))):=Same.new hD;have ac:eR (upd H3 D (.lst (p.map λi=>vs.getD i .non))) vs ms fl:=eR.keep (Tu.of (s3.trans sD)) U λI _ o e=>sD _ _ (s3 I o e);have aj:=A3.pick (a0:=V.non) (b0:=Ds.nil) (c0:=[]) ac p ai;have aJ:(p.map λi=>fl.getD i []).Perm fl:=qr _ (by rw[<-aq];exact hp);have aK:D≠P:=λe=>by rw[e,s3 _ _ ah.1] at hD;cases hD
   have ap:=s3.free hD
   have aL:H D=none:=by
    cases e:H D with
    |none=>rfl
    |some o=>rw[mono D o aK e] at ap;cases ap
   exact q D _ _ _ (λI o nc e=>sD _ _ (s3 _ _ (mono I o nc e))) (.inr ⟨c',ah.mono λI o _ e=>sD _ _ (s3 _ _ e)⟩) aL eF (by rw[<-hz];exact aj) aJ
noncomputable abbrev jX:Pos:=qM (top 16)
noncomputable abbrev jY:Str:=("in_order":Str)++".<locals>."++"<lambda>"
noncomputable abbrev nF:Pos:=qM (top 57)
noncomputable abbrev nG:Str:=("_law_sorted":Str)++".<locals>."++"<lambda>"
noncomputable abbrev mF:Pos:=qM (top 53)
noncomputable abbrev mG:Str:=("_law_some":Str)++".<locals>."++"<lambda>"
def qU (P:Addr) (U:Pos) (Y:Str):Sp:=λvs H Q _=>∃pk pr pb key by_ fs ws ms fl,vs=[.ref pk,.ref pr]/\H pk=some (.tup [.str "rows",.str key,.str by_,.ref pb])/\H pr=some (.lst ws)/\eR H ws ms fl/\ws.length<64/\eU P U Y H/\(∀m∈ms,fJ fs m)/\fs.pl key/\(by_=""\/fs.pl by_)/\(ms.map λm=>keyOf m key).Nodup/\
 ∀D I J H',jW P H H'->eU P U Y H'->H D=none->H' D=some (.lst I)->eR H' I (gw key by_ ms) J->J.Perm fl->Q (.ref D) H'
abbrev jn (b P I:Addr):Hp->Hp->Prop:=Kp (λc=>c=b\/c=P\/c=I)
def BN (K:W.Frag) (Pt Ps:Addr) (N:Nat):Sp:=λvs H Q _=>∃a b ns n pk pb xs key by_ fs pl,∃ps:List Key,∃room:Nat,vs=[.ref a,.ref b,.ref pk,.ref pl,.int room]/\G0 K H a b ns n/\eU Pt gH gI H/\eU Ps mF mG H/\Pt≠Ps/\H pk=some (.tup [.str "rows",.str key,.str by_,.ref pb])/\H pb=some (.tup xs)/\FA H xs fs/\(Kd.rows key by_ fs).W/\
 H pl=some (.lst (ps.map kV))/\pl≠b/\ps.length<=30/\(∀p∈ps,i_ (fs.get key) p)/\ps.Nodup/\room<8/\mu (.eX fs) room<=N/\n+ps.length * ((fs.cB:Int)+1)<=1000000000000/\
 ∀D I J H',jn b Pt Ps H H'->H' b=some (.lst [.int (g_ ns key by_ fs room ps n).2])->eU Pt gH gI H'->eU Ps mF mG H'->H' D=some (.lst I)->eR H' I (gw key by_ (g_ ns key by_ fs room ps n).1) J->(∀c∈D::J.flatten,H c=none)->Q (.ref D) H'
theorem BO:fv XU XU (eS (top 16)):=fC
theorem HI {Pi c:Addr}(T:Tb mg)(U:Dn K mg "in_order" iT (top 16) Y I)(ae:I.code=.ref c)(ag:W.CodeHd base c Pi)(ah:BM mg base)(J:Dn K mg "rank" md (top 15) aa ab)(ac:en P w K mg base eu (1) aa ab md (k8)):en P w K mg base eu (8) Y I iT (qU Pi jX jY):=by
 refine U.F.qh ae BO (λvs H Q E h=>?_) (λA outer s H vs Q E hr h=>?_)
 . obtain⟨pk,pr,pb,key,by_,fs,ws,ms,fl,rfl,_⟩:=h;rfl
 obtain⟨pk,pr,pb,key,by_,fs,ws,ms,fl,rfl,ai,aj,af,hl,hT,hf,hk,ak,al,q⟩:=h;have nd:=BO.nd;refine⟨_,(eA (eJ (qe (x:="row") (N':=["kind",""]) rfl T.oQ boot_sorted hr rfl rfl ag ah (j9.of (N:=XU) (sc:=eS (top 16)) rfl rfl rfl rfl rfl (by decide +kernel)) rfl (λ_ _ _ _ _=>rfl) (pv 1) (λ_ _ _ _ _=>(oj ac (fY.deeper (k:=1) (fY.in1 (k:=2) (fY.in1 (k:=3) (hr.mono (by decide)))) _) rfl J.m J.F.kp J.b .nil jh (a_ (pv 1) (a_ (pv 0) c_))))))),?_⟩
 ac_rfl
 exact(Zr rfl (tZ (eB.of aj) af hl hT rfl ai hf hk ak al q))
theorem BP:fv XV XV (eS (top 57)):=fC
theorem HJ {Po c:Addr}(T:Tb mg)(U:Dn K mg "_law_sorted" oU (top 57) Y J)(ae:J.code=.ref c)(ag:W.CodeHd base c Po)(ah:BM mg base)(I:Dn K mg "_law_rank" ke (top 41) aa ab)(ac:en P w K mg base eu (1) aa ab ke (k8)):en P w K mg base eu (8) Y J oU (qU Po nF nG):=by
 refine U.F.qh ae BP (λvs H Q E h=>?_) (λA outer s H vs Q E hr h=>?_)
 . obtain⟨pk,pr,pb,key,by_,fs,ws,ms,fl,rfl,_⟩:=h;rfl
 obtain⟨pk,pr,pb,key,by_,fs,ws,ms,fl,rfl,ai,aj,af,hl,hT,hf,hk,ak,al,q⟩:=h;have nd:=BP.nd;refine⟨_,(eA (eJ (qe (x:="_law_row") (N':=["_law_kind_here",""]) rfl T.oQ boot_sorted hr rfl rfl ag ah (j9.of (N:=XV) (sc:=eS (top 57)) rfl rfl rfl rfl rfl (by decide +kernel)) rfl (λ_ _ _ _ _=>rfl) (pv 1) (λ_ _ _ _ _=>(oj ac (fY.deeper (k:=1) (fY.in1 (k:=2) (fY.in1 (k:=3) (hr.mono (by decide)))) _) rfl I.m I.F.kp I.b .nil jh (a_ (pv 1) (a_ (pv 0) c_))))))),?_⟩
 ac_rfl
 exact(Zr rfl (tZ (eB.of aj) af hl hT rfl ai hf hk ak al q))
theorem BQ {H:Hp}{p:Key}:Own H (kV p) (kD p) []:=by
 cases p <;> (unfold kV kD Own;exact⟨rfl,rfl⟩)
theorem o8 {A B:TS}{D:Ends}{σ:L2.St}{H:Hp}(Pv:L2.St->Hp->Prop)(J:∀I H',Pv I H'->B D I H')(U:(∀I H',Pv I H'->B D I H')->A { D with nx:=B D } σ H):yR A B D σ H:=U J
theorem _root_.L2.eU.off {P:Addr}{I:Pos}{J:Str}{H H':Hp}(h:eU P I J H)(k:∀c o,(∀xs,o≠ .lst xs)->(∀U,o≠ .dK U)->H c=some o->H' c=some o):eU P I J H':=by
 rcases h with e|⟨c,e,f⟩
 . exact .inl (k _ _ (by intro xs z;cases z) (by intro xs z;cases z) e)
 . exact .inr ⟨c,k _ _ (by intro xs z;cases z) (by intro xs z;cases z) e,k _ _ (by intro xs z;cases z) (by intro xs z;cases z) f⟩
theorem HK {α:Type}{l:List α}{x:α}(h:l[l.length - 1]? =some x):gv l (-1)=some x:=by
 have hl:=(List.getElem?_eq_some_iff.mp h).1;unfold gv jx;rw[if_neg (by decide),if_pos (by omega)];show l[((-1:Int)+(l.length:Int)).toNat]? =_;rw[show((-1:Int)+(l.length:Int)).toNat=l.length - 1 by omega];exact h
theorem _root_.L2.eU.kp {P J b:Addr}{lp U:Pos}{ql Y:Str}{H H':Hp}{l:List V}(h:eU P lp ql H)(x:ff b J H H')(hb:H b=some (.lst l))(h':eU J U Y H)(I:J≠P):eU P lp ql H':=by
 obtain⟨ab,aa⟩:=h'.tab;have k:∀c o,c≠J->(∀xs,o≠ .lst xs)->H c=some o->H' c=some o:=λc o hc ho e=>x c o (λz=>z.elim (λz=>by rw[z,hb] at e;cases e;exact ho _ rfl) hc) e;rcases h with e|⟨c,e,f⟩
 . exact .inl (k _ _ (Ne.symm I) (by intro xs z;cases z) e)
 . exact .inr ⟨c,k _ _ (Ne.symm I) (by intro xs z;cases z) e,k _ _ (gO f aa (by intro z;cases z)) (by intro xs z;cases z) f⟩
theorem _root_.L2.eU.ja {P J:Addr}{Y:Pos}{ql:Str}{H H':Hp}{ps:Array Value}(h:eU P Y ql H)(x:jW J H H')(U:H J=some (.gA ps))(I:J≠P):eU P Y ql H':=by
 rcases h with e|⟨c,e,f⟩
 . exact .inl (x _ _ (Ne.symm I) e)
 . exact .inr ⟨c,x _ _ (Ne.symm I) e,x _ _ (gO f U (by intro z;cases z)) f⟩
theorem eV.BR {H:Hp}{x:Str}{v:V}{e:D}(Y:Own H v e []):∀{m:Ds}{kvs:List (Key × V)}{J:List Addr},eV H kvs m J->∃I,eV H (kvs.map λU=>if U.1=Sum.inr x then(U.1,v) else U) (m.upd x e) I/\I.Sublist J
 | .nil,kvs,J,h=>by
   unfold eV at h;obtain⟨rfl,rfl⟩:=h;exact⟨[],by unfold Ds.upd eV;exact⟨rfl,rfl⟩,List.Sublist.refl _⟩
 | .cons y d r,kvs,J,h=>by
   unfold eV at h;obtain⟨u,q,f1,f2,rfl,rfl,ho,hr⟩:=h;obtain⟨f3,h3,s3⟩:=eV.BR Y hr;show ∃I,eV H ((if(Sum.inr y:Key)=Sum.inr x then(Sum.inr y,v) else(Sum.inr y,u))::q.map _) (.cons y (if y=x then e else d) (r.upd x e)) I/\_;by_cases ex:y=x
   . refine⟨[]++f3,?_,s3.trans (List.sublist_append_right _ _)⟩;rw[if_pos ex,if_pos (by rw[ex])];unfold eV;exact⟨_,_,[],f3,rfl,rfl,Y,h3⟩
   . refine⟨f1++f3,?_,List.Sublist.append (List.Sublist.refl _) s3⟩;rw[if_neg ex,if_neg (λz=>ex (Sum.inr.inj z))];unfold eV;exact⟨_,_,f1,f3,rfl,rfl,ho,h3⟩
theorem eV.t7 {H:Hp}{x:Str}{v:V}{e:D}{m:Ds}{kvs:List (Key × V)}{J:List Addr}(h:eV H kvs m J)(U:Own H v e [])(Y:x∈m.names):∃I,eV H (putK kvs (Sum.inr x) v) (m.upd x e) I/\I.Sublist J:=by
 unfold putK;rw[if_pos]
 . exact h.BR U
 . rw[Q2b];have:(Sum.inr x:Key)∈kvs.map (·.1):=by rw[eV.keys m h];exact Q11 Y
   obtain⟨kv,h1,h2⟩:=List.mem_map.mp this;exact⟨kv,h1,decide_eq_true h2⟩
theorem HL {kvs:List (Key × V)}{x:Str}{v:V}{m:Ds}{H:Hp}{J:List Addr}(h:eV H kvs m J)(I:x∈m.names):(putK kvs (Sum.inr x) v).length=kvs.length:=by
 obtain⟨Y,h',_⟩:=h.t7 (v:=.non) (e:=.non) (by unfold Own;exact⟨rfl,rfl⟩) I;unfold putK;rw[if_pos]
 . rw[Q04]
 . rw[Q2b];have:(Sum.inr x:Key)∈kvs.map (·.1):=by rw[eV.keys m h];exact Q11 I
   obtain⟨U,h1,h2⟩:=List.mem_map.mp this;exact⟨U,h1,decide_eq_true h2⟩
theorem BS:fv XM Xe (eS (top 53)):=fC
theorem HM {Pt Ps c:Addr}(N:Nat)(T:Tb mg)(an:Dn K mg "_law_some" oV (top 53) ao aa)(bb:aa.code=.ref c)(bF:W.CodeHd base c Ps)(bG:BM mg base)(ap:Dn K mg "_law_next" fg (top 33) aq ar)(au:en P w K mg base eu (1) aq ar fg (ml K))(J:Dn K mg "_law_rank" ke (top 41) av aw)(ax:en P w K mg base eu (1) av aw ke (k8))(af:Dn K mg "_law_value" gZ (top 43) ag ah)(ai:en P w K mg base eu (2 * N+5) ag ah gZ (kq K Pt N)):en P w K mg base eu (2 * N+8) ao aa oV (BN K Pt Ps N):=by
 refine an.F.qh bb BS (λvs H Q E h=>?_) (λA outer s H vs Q E hr h=>?_)
 . obtain⟨a,b,ns,n,pk,pb,xs,key,by_,fs,pl,ps,room,rfl,_⟩:=h;rfl
 obtain⟨a,b,ns,n,pk,pb,xs,key,by_,fs,pl,ps,room,rfl,g,hT,hS,be,a5,bH,bI,hW,a6,bw,ce,bJ,bK,aB,bL,hn,q⟩:=h;have nd:=BS.nd;have hu:=zJ hr
 refine⟨_,(eh (eN 5 nd (gi c_))
  (eh (hX PassesOwn.never rfl (j3 (pv 3)) (fL (i:=6) nd rfl gc) (eh (eN 7 nd (eL au hr ap (a_ (pv 0) (a_ (pv 1) c_))))
  (eA (eO (eM jL (eG fA (pv 7) b_) b_ (eK _)) (eh (eN 8 nd (eL ai hr af (a_ (pv 0) (a_ (pv 1) (a_ (gd (a_ eY (a_ (eI (pv 2) b_) c_))) (a_ (pv 4) c_))))))
  (eh (eO (PW.pt (mP (eM jw (eI (pv 2) b_) eY (eK _)) (mP (eM jL (fM gY (by rfl) T.gM PySem.boot_len (a_ (pv 5) c_)) b_ (eK _)) (oh (eM fc (eG fA (eG gC (pv 7) b_) b_) b_ (eK _)))))) (eA (m7 hu (pv 8) (eI (pv 2) b_) (hZ hu (gG (pv 5) (pR pU b_)) (eI (pv 2) b_) (λ_ _=>rfl)) rfl)) eQ)
  (eh (m7 hu (pv 8) (eI (pv 2) b_) (pv 6) rfl)
  (eA (j1 (lV PySem.F.plainAttrs_list PySem.F.slot_list_append PySem.F.type_list_append lW (pv 5) (a_ (pv 8) c_))))))) eQ))))
  (eA (eJ (qe (x:="_law_row") (N':=["","","_law_kind_here","","","","","",""]) rfl T.oQ boot_sorted hr rfl rfl bF bG (j9.of (N:=XM) (sc:=eS (top 53)) rfl rfl rfl rfl rfl (by decide +kernel)) rfl (λ_ _ _ _ _=>rfl) (pv 5) (λ_ _ _ _ _=>(oj ax (fY.deeper (k:=1) (fY.in1 (k:=2) (fY.in1 (k:=3) (hr.mono (by omega)))) _) rfl J.m J.F.kp J.b .nil jh (a_ (pv 3) (a_ (pv 0) c_))))))))),?_⟩
 ac_rfl
 have bf:=λi=>tY (ns:=ns) (n:=n) hW aB bJ i;have cf:=hW;unfold Kd.W at hW;obtain⟨bM,bN,bg,a2,bh⟩:=hW;have hb:=g.at_;obtain⟨cg,hP⟩:=hT.tab;refine⟨nu,λpr aY=>?_⟩;have s0:Same H (upd H pr (.lst [])):=Same.new aY;have a7:b≠pr:=eP hb aY;have js:Pt≠pr:=eP hP aY;have bi:∃o,H b=some o:=⟨_,hb⟩;refine(Zr rfl ⟨pl,rfl,⟨_,eB.of (s0 _ _ a6)⟩,yW (xs:=ps.map kV) (λi σ H'=>∃x y z vs fl,σ=[some (.ref a),some (.ref b),some (.ref pk),some (.ref pl),some (.int room),some (.ref pr),x,y,z]/\ff b Pt H H'/\H' b=some (.lst [.int (g_ ns key by_ fs room (ps.take i) n).2])/\eU Pt gH gI H'/\H' pr=some (.lst vs)/\eR H' vs (g_ ns key by_ fs room (ps.take i) n).1 fl/\(∀c∈fl.flatten,H c=none/\c≠pr)/\vs.length<=i) ?_ ?_ ?_ ?_⟩)
 . rw[Q2a];exact⟨_,_,_,[],[],rfl,Kp.of s0,s0 _ _ hb,hT.same s0,eF,.nil,λc hc=>absurd hc (by simp),Q00 _⟩
 . intro i σ H' _ zq;obtain⟨x,y,z,vs,fl,rfl,kp,_⟩:=zq;exact eB.of (kp pl _ (λz=>z.elim bw (gO a6 hP (by intro z;cases z))) a6)
 . intro i v σ H' hv zq;obtain⟨x,y,z,vs,fl,rfl,kp,aj,aG,aK,ae,aA,bj⟩:=zq;obtain⟨p,hp,rfl⟩:=Option.map_eq_some_iff.mp (List.getElem?_map.symm.trans hv);have hi:i<ps.length:=(List.getElem?_eq_some_iff.mp hp).1;have so:=bf i;have add:=BL (ns:=ns) (key:=key) (by_:=by_) (fs:=fs) (room:=room) (n:=n) hp;have bO:(ps.take i).length=i:=by rw[Q0n];omega
   have e1:((i+1:Nat):Int) * ((fs.cB:Int)+1)=(i:Int) * ((fs.cB:Int)+1)+(fs.cB+1):=by
    rw[Q1o,Q1p];simp
   have cb:((i+1:Nat):Int) * ((fs.cB:Int)+1)<=(ps.length:Int) * ((fs.cB:Int)+1):=Q1g (by omega) (by omega);have bP:=so.lo;have bQ:=so.hi;rw[bO] at bQ;have ci:=g.pos;have bx:=so.ok;generalize g_ ns key by_ fs room (ps.take i) n=I at *;generalize g_ ns key by_ fs room (ps.take (i+1)) n=cj at *;have bm:Tu H H':=kp.tu hb hT;refine(Zr rfl (Zr rfl ⟨a,b,ns,I.2,rfl,ff.g0 kp g hT aj bP,by omega,λH1 s1 h1=>?_⟩));have aH:ff b Pt H H1:=kp.trans (SB.fh s1);have aZ:eU Pt gH gI H1:=aG.sb aj s1;have aL:H1 pr=some (.lst vs):=s1 pr _ (Ne.symm a7) aK;have al:eR H1 vs I.1 fl:=eR.fh (SB.fh s1) aj aG bi ae λc hc=>(aA c hc).1;unfold mE at add;refine(Zr rfl ⟨_,Zr rfl ⟨rfl,(by show(0:Int)<_;decide),_,Zr rfl ⟨rfl,Zr rfl (fW (λc=>?_) (λc=>?_))⟩⟩⟩)
   . have c:0<nx ns (I.2+1) % 3:=of_decide_eq_true c;rw[if_pos c] at add;have a8:Tu H H1:=aH.tu hb hT;refine(Zr rfl (Zr rfl (Zr rfl ⟨pk,_,_,Zr rfl ⟨rfl,d_.of (a8 _ _ a5),rfl,gh,λt ht=>?_⟩⟩)));have st:Same H1 (upd H1 t (.tup [.str "record",.ref pb])):=Same.new ht
     have bR:KA (upd H1 t (.tup [.str "record",.ref pb])) (.ref t) (.eX fs):=by
      unfold KA;exact⟨t,pb,xs,rfl,eF,st _ _ (a8 _ _ bH),FA.mono (a8.trans (Tu.of st)) fs bI⟩
     refine(Zr rfl ⟨a,b,ns,I.2+1,.ref t,.eX fs,room,rfl,ff.g0 (aH.trans (Kp.of st)) g hT (st _ _ h1) (by omega),aZ.same st,bR,(by unfold Kd.W;exact⟨bM,bN,bg⟩),aB,bL,(by simp only[kc,Kd.cB];omega),?_⟩);intro v H2 fp fh bn bS aM bz bA;have ev:val ns (.eX fs) room (I.2+1)=(.dct (e9 ns fs room (I.2+1)).1,(e9 ns fs room (I.2+1)).2):=by simp only[val]
     rw[ev] at bn aM;have ay:=kQ ns fs bg room (I.2+1) aB;generalize e9 ns fs room (I.2+1)=a9 at *;have aP:ff b Pt H1 H2:=(Kp.of st).trans fh;have aW:ff b Pt H H2:=aH.trans aP;have bT:Tu H H2:=aW.tu hb hT;have az:H2 pr=some (.lst vs):=aP pr _ (λz=>z.elim (Ne.symm a7) (Ne.symm js)) aL;have Y:eR H2 vs I.1 fl:=eR.fh aP h1 aZ bi al λc hc=>(aA c hc).1;unfold Own at aM;obtain⟨rr,kvs,fq,rfl,aI,rfl,a1⟩:=aM;have aF:=bT _ _ a5
     have ac:∀c∈rr::fq,H c=none/\c≠pr/\H1 c=none:=λc hc=>by
      have z:=st.free (bA c hc);have nb:c≠b:=λe=>by rw[e,h1] at z;cases z
      obtain⟨cm,bU⟩:=aZ.tab;have nP:c≠Pt:=λe=>by rw[e,bU] at z;cases z
      exact⟨aH.oP (λe=>e.elim nb nP) z,(λe=>by rw[e,aL] at z;cases z),z⟩
     have bB:b≠rr:=λe=>by have:=(ac rr Q05).1;rw[<-e,hb] at this;cases this
     have cc:Pt≠rr:=λe=>by have:=(ac rr Q05).1;rw[<-e,hP] at this;cases this
     have aC:pr≠rr:=λe=>(ac rr Q05).2.1 e.symm
     have bV:∀c∈fl.flatten,c≠rr:=λc hc e=>by
      obtain⟨o,eo⟩:=(eR.mu al c hc).ex;have:=(ac rr Q05).2.2;rw[<-e,eo] at this;cases this
     have bW:rr ∉ fq:=(List.nodup_cons.mp bz).1
     have am:∀{x:Str},fs.pl x->∀{m:Ds},m.names=fs.names->x∈m.names:=λhx m hm=>by
      obtain⟨k,e,_⟩:=hx;rw[hm];exact Fs.tV e
     have bo:∀U:List (Key × V),U.length=kvs.length->U.length<sizeLine:=λU e=>by
      rw[e,eV.len a1,ay.names];exact gE (by omega)
     dsimp only[gS]
     refine o8 (A:=j2 _ _ _) (λbp H3=>∃U aJ,∃m1:Ds,bp=[some (.ref a),some (.ref b),some (.ref pk),some (.ref pl),some (.int room),some (.ref pr),some (kV p),some (.int (nx ns (I.2+1))),some (.ref rr)]/\H3 rr=some (.dK U)/\(∀c,c≠rr->H3 c=H2 c)/\eV H2 U m1 aJ/\aJ.Sublist fq/\m1.names=fs.names/\U.length=kvs.length/\
      m1=(if by_≠""/\I.1≠[]/\nx ns (I.2+1) / 3 % 2=0 then a9.1.upd by_ (kD (keyOf (I.1.getLastD .nil) by_)) else a9.1)) ?_ (λhB=>?_)
     . intro bp H3 zq;obtain⟨U,aJ,m1,rfl,h3,aD,aQ,ak,bC,bc,bX⟩:=zq;have bY:Tu H2 H3:=λc xs e=>by rw[aD c (gO e aI (by intro z;cases z))];exact e
       have bZ:=am a2 bC;refine(Zr rfl (Zr rfl (Zr rfl ⟨pk,_,_,Zr rfl ⟨rfl,d_.of (bY _ _ aF),rfl,rr,Zr rfl ⟨jy.k (k:=Sum.inr key) h3 (bo _ bc),?_⟩⟩⟩)));have bD:H3 pr=some (.lst vs):=by rw[aD pr aC];exact az
       have a3:upd H3 rr (.dK (putK U (Sum.inr key) (kV p))) pr=some (.lst vs):=by rw[eE aC];exact bD
       refine(Zr rfl ⟨.inl ⟨rfl,_,eB.of a3⟩,Zr rfl ⟨pr,_,Zr rfl ⟨rfl,a3,gE (by omega),?_⟩⟩⟩);obtain⟨ba,bE,aX⟩:=aQ.t7 (v:=kV p) (e:=kD p) BQ bZ;have ab:∀c,c≠rr->c≠pr->upd (upd H3 rr (.dK (putK U (Sum.inr key) (kV p)))) pr (.lst (vs++[.ref rr])) c=H2 c:=λc n1 n2=>by rw[eE n2,eE n1,aD c n1]
       have bq:Tu H2 (upd (upd H3 rr (.dK (putK U (Sum.inr key) (kV p)))) pr (.lst (vs++[.ref rr]))):=λc xs e=>by
        rw[ab c (gO e aI (by intro z;cases z)) (gO e az (by intro z;cases z))];exact e
       rw[add];refine⟨_,_,_,vs++[.ref rr],fl++[rr::ba],rfl,λc o nc e=>?_,by rw[ab b bB a7];exact bn,bS.off (λc o h1 h2 e=>?_),eF,?_,?_,by rw[Q0d];show vs.length+1<=i+1;omega⟩
       . rw[ab c (λz=>by have:=(ac rr Q05).1;rw[<-z,e] at this;cases this) (eP e aY)];exact aW c o nc e
       . rw[ab c (λz=>by rw[z,aI] at e;cases e;exact h2 _ rfl) (λz=>by rw[z,az] at e;cases e;exact h1 _ rfl)];exact e
       . refine A3.snoc ?_ (eR.keep bq Y λc hc o e=>by rw[ab c (bV c hc) (aA c hc).2];exact e);unfold Own;refine⟨rr,_,ba,rfl,by rw[eE (Ne.symm aC)];exact eF,rfl,?_⟩;rw[<-bX]
         exact bE.keep bq _ λc hc o e=>by
          have br:=ak.subset (aX.subset hc);rw[ab c (λz=>bW (by rw[<-z];exact br)) (ac c (Q0b _ br)).2.1];exact e
       . intro c hc;rw[Q1q] at hc;rcases List.mem_append.mp hc with z|z
         . exact aA c z
         . have z:c∈rr::ba:=by simpa using z
           have:c∈rr::fq:=by
            rcases List.mem_cons.mp z with e|e
            . rw[e];exact Q05
            . exact Q0b _ (ak.subset (aX.subset e))
           exact⟨(ac c this).1,(ac c this).2.1⟩
     . have aT:∀z:¬(by_≠""/\I.1≠[]/\nx ns (I.2+1) / 3 % 2=0),_:=λz=>hB _ _ ⟨kvs,fq,a9.1,rfl,aI,λ_ _=>rfl,a1,List.Sublist.refl _,ay.names,rfl,(if_neg z).symm⟩;refine(Zr rfl ⟨pk,_,_,Zr rfl ⟨rfl,d_.of aF,rfl,rfl,Zr rfl (fW (λc1=>?_) (λc1=>?_))⟩⟩)
       . refine(Zr rfl ⟨pr,Zr rfl ⟨.inl (eB.of az),_,Zr rfl ⟨rfl,Zr rfl (fW (λc2=>?_) (λc2=>?_))⟩⟩⟩)
         . refine(Zr rfl ⟨_,Zr rfl ⟨rfl,⟨by decide,by decide⟩,_,Zr rfl ⟨rfl,(by show(0:Int)<2;decide),rfl,Zr rfl (fW (λc3=>?_) (λc3=>aT λz=>c3 (decide_eq_true (show V.int (nx ns (I.2+1) / 3 % 2)=V.int 0 by rw[z.2.2]))))⟩⟩⟩);have d1:by_≠"":=λz=>by rw[z] at c1;exact absurd c1 (by decide)
           have d3:nx ns (I.2+1) / 3 % 2=0:=by
            have this:V.int (nx ns (I.2+1) / 3 % 2)=V.int 0:=of_decide_eq_true c3;injection this
           have a4:0<vs.length:=by have:=of_decide_eq_true c2;omega
           obtain⟨aU,cd⟩:=A3.len Y;have aE:=A3.at (a0:=V.non) (b0:=Ds.nil) (c0:=[]) Y (vs.length - 1) (by omega);have hg:vs[vs.length - 1]? =some (vs.getD (vs.length - 1) .non):=by rw[Q0e,Q03 (by omega)];rfl
           have d2:I.1≠[]:=λz=>by rw[z] at aU;rw[aU] at a4;exact absurd a4 (by decide)
           have b1:I.1.getD (vs.length - 1) .nil=I.1.getLastD .nil:=by
            rw[aU,Q0e,List.getLastD_eq_getLast?,List.getLast?_eq_getElem?]
           have b2:I.1.getLastD .nil∈I.1:=tX d2;rw[b1] at aE;generalize vs.getD (vs.length - 1) .non=lv at *;unfold Own at aE;obtain⟨rl,cn,co,rfl,b3,_,b4⟩:=aE;have aV:fs.pl by_:=bh.resolve_left d1;have gl:f_ H2 rl (.str by_) (some (kV (keyOf (I.1.getLastD .nil) by_))):=by have:=f_.k (k:=Sum.inr by_) b3;rw[b4.key (bx _ b2).1 aV] at this;exact this
           obtain⟨aJ,aQ,ak⟩:=a1.t7 (v:=kV (keyOf (I.1.getLastD .nil) by_)) (e:=kD (keyOf (I.1.getLastD .nil) by_)) BQ (am aV ay.names);refine(Zr rfl (Zr rfl ⟨pr,_,_,Zr rfl ⟨rfl,eB.of az,HK hg,Zr rfl ⟨pk,_,_,Zr rfl ⟨rfl,d_.of aF,rfl,rl,Zr rfl ⟨gl,Zr rfl (Zr rfl ⟨pk,_,_,Zr rfl ⟨rfl,d_.of aF,rfl,rr,Zr rfl ⟨jy.k (k:=Sum.inr by_) aI (bo _ rfl),?_⟩⟩⟩)⟩⟩⟩⟩⟩));exact hB _ _ ⟨_,aJ,Zr rfl ⟨eF,λc hc=>eE hc,aQ,ak,by rw[Ds.tR];exact ay.names,HL a1 (am aV ay.names),(if_pos ⟨d1,d2,d3⟩).symm⟩⟩
         . refine aT λz=>c2 (decide_eq_true ?_);have:=(A3.len Y).1;have hp:0<I.1.length:=List.length_pos_iff.mpr z.2.1;omega
       . refine aT λz=>c1 ?_;rw[decide_eq_false (λe=>z.1 (by injection e))];rfl
   . have c:¬0<nx ns (I.2+1) % 3:=λz=>c (decide_eq_true z);rw[if_neg c] at add;rw[add];exact⟨_,_,_,vs,fl,rfl,aH,h1,aZ,aL,al,aA,by omega⟩
 . intro σ H' zq;obtain⟨x,y,z,vs,fl,rfl,kp,aj,aG,aK,ae,aA,bj⟩:=zq;rw[Q04] at aj ae bj;have so:=bf ps.length;rw[Q0r] at aj ae so;have bm:Tu H H':=kp.tu hb hT;have bt:=hS.kp kp hb hT be;refine(Zr rfl (tZ (eB.of aK) ae (by omega) bt rfl (bm _ _ a5) (λm hm=>(so.ok m hm).1) a2 bh (so.keys.nodup bK) λD b5 b6 H2 fh b7 hD b8 Y bd=>?_));obtain⟨cp,bu⟩:=bt.tab;have b9:b≠Ps:=gO aj bu (by intro z;cases z);refine q D b5 b6 H2 (λc o nc e=>fh c o (λz=>nc (.inr (.inr z))) (kp c o (λz=>nc (z.elim .inl λz=>.inr (.inl z))) e)) (fh b _ b9 aj) ?_ b7 b8 Y (λc hc=>?_)
   . obtain⟨ca,bv⟩:=aG.tab;exact aG.ja fh bu (Ne.symm be)
   . rcases List.mem_cons.mp hc with z|z
     . rw[z];obtain⟨ca,bv⟩:=aG.tab;exact kp.oP (λe=>e.elim (λe=>by rw[e,aj] at hD;cases hD) (λe=>by rw[e,bv] at hD;cases hD)) hD
     . exact(aA c ((AD bd).mem_iff.mp z)).1
end Pb
namespace L2
open Spec PyProof.Rows
section
variable {X:Cx}{pins:List (Addr × Obj)}{σ:St}{H:Hp}{s:Shared}
end
section
variable {prog:Program}{w:World}{A:Around}{E:Value->Shared->Prop}{s:Shared}
end
section
variable {X:Cx}
end
end L2
namespace Pb
open L2
end Pb
namespace L2
open Spec PyProof.Rows
section
variable {X:Cx}
end
section
variable {X:Cx}
end
end L2
namespace Pb
open L2
section
variable {b:Addr}{H H':Hp}{n:Int}
end
end Pb
namespace L2
open Spec PyProof.Rows
section
variable {X:Cx}
def HN (K:W.Frag):R2:=λx y H Q=>kF x y H Q\/(∃s a xs,x=.str s/\y=.ref a/\eB K H a xs/\Q (.bl false) H)
theorem HP (hu:X.A.units+1<cLine):gn X (compareOp .Eq) (HN X.K):=by
 intro pins s σ H x y v u Q I J U h;rcases h with h|⟨t,a,xs,rfl,rfl,Y,q⟩
 . exact fc pins s σ H x y v u Q I J U h
 . obtain⟨tk,rfl⟩:=J
   cases U;obtain⟨aa,r1,p1,_⟩:=I.list Y;exact W.cmp_ofEq (SeqAt.RcAt.str_list t tk p1.isList (by omega) _ _ _ _ ⟨.bl false,H,I,rfl,q⟩)
end
theorem en.or {P:Program}{w:World}{K:W.Frag}{mg:Str->Option Value}{base:Heap}{CX:iI}{k:Nat}{f:Addr}{fd:FuncData}{ps:List Str}{sp I:Sp}(F:en P w K mg base CX k f fd ps sp)(G:en P w K mg base CX k f fd ps I):
 en P w K mg base CX k f fd ps (λvs H Q E=>sp vs H Q E\/I vs H Q E):=
 ⟨λvs H Q E q=>q.elim (F.len vs H Q E) (G.len vs H Q E),λA outer s H args us vs Q E J U Y hv hs=>hs.elim (F.run A outer s H args us vs Q E J U Y hv) (G.run A outer s H args us vs Q E J U Y hv)⟩
end L2
namespace Pb
open L2
theorem Fs.get_mem:∀{fs:Fs}{x:Str}{k:Kd},fs.get x=some k->x∈fs.names
 | .nil,_,_,h=>by cases h
 | .cons y q r,x,k,h=>by
   have h:(if x=y then some q else r.get x)=some k:=h;by_cases e:x=y
   . rw[e];exact Q05
   . rw[if_neg e] at h;exact Q0b _ (Fs.get_mem h)
theorem t8 {K:PySem.W.Frag}{a:Addr}{xs:List V}{g:TG}{tb:TS}{D:Ends}{σ:St}{H:Hp}(Pv:Nat->St->Hp->Prop)(h0:Pv 0 σ H)(hl:∀i σ H,i<=xs.length->Pv i σ H->eB K H a xs)
 (hs:∀(i:Nat) y σ H p,xs[i]? =some y->Pv i σ H->H p=none->g (.ref p) σ (upd H p (.tup [.int i,y])) λI H2=>tb { D with nx:=Pv (i+1),ct:=Pv (i+1),bk:=D.nx } I H2) (hd:∀σ H,Pv xs.length σ H->D.nx σ H):
 ∃W:Nat->Nat->St->Hp->Prop,(∃m,W 0 m σ H)/\∀i m σ H,W i m σ H->
  ((Ite K a).stop i H/\D.nx σ H)\/((Ite K a).go i H/\∃N:St->Hp->Prop,(∀J H',N J H'->∃Y,Y<m/\W (i+1) Y J H')/\∀x H',(Ite K a).jJ i H x H'->g x σ H' λI H2=>tb { D with nx:=N,ct:=N,bk:=D.nx } I H2):=by
 refine⟨λi m σ H=>m=xs.length - i/\i<=xs.length/\Pv i σ H,⟨xs.length,by simp,Q07 _,h0⟩,?_⟩;rintro i m σ H ⟨rfl,hi,p⟩;by_cases U:i<xs.length
 . refine .inr ⟨⟨xs,xs[i],hl i σ H hi p,by simp[U]⟩,Pv (i+1),λJ H' p'=>⟨xs.length - (i+1),by omega,rfl,U,p'⟩,λx H' y=>?_⟩;obtain⟨q,y,hq,rfl,hy,rfl⟩:=y;exact hs i y σ H q (hy xs (hl i σ H hi p)) p hq
 . have e:i=xs.length:=by omega
   subst e;exact .inl ⟨⟨xs,hl _ σ H (Q00 _) p,Q00 _⟩,hd σ H p⟩
theorem BU {k:Key}:∀{kvs:List (Key × V)},k∈kvs.map (·.1)->(gD kvs k).isSome=true
 |[],h=>by simp at h
 |p::r,h=>by
  by_cases e:p.1=k
  . rw[ou e];rfl
  . rw[ow e];rcases List.mem_cons.mp (show k∈p.1::r.map (·.1) from h) with z|z
    . exact absurd z.symm e
    . exact BU z
def BV (K:W.Frag) (H:Hp) (v:V):Option Str->Prop
 |some x=>v=.str x
 |none=>(∃z,v=.int z)\/∃a xs,v=.ref a/\eB K H a xs
def qV (H:Hp) (u:V):Option Kd->Prop
 |some k=>KA H u k
 |none=>u=.non
def qW (K:W.Frag):Sp:=λvs H Q _=>∃b v xs fs o,vs=[.ref b,v]/\H b=some (.tup xs)/\FA H xs fs/\fs.names.Nodup/\BV K H v o/\∀u,qV H u (o.bind fs.get)->Q u H
noncomputable def D.mH:D->Bool
 | .tup xs=>decide (xs.len=2)
 |_=>false
def t9:Sp:=λvs H Q _=>∃v d I,vs=[v]/\Own H v d I/\Q (.bl d.mH) H
noncomputable def hasB (fs:Fs) (m:Ds):Bool:=decide (m.names.length=fs.names.length) && fs.names.all λx=>decide (x∈m.names)
def BW:Sp:=λvs H Q _=>∃b a xs kvs fs m I,vs=[.ref b,.ref a]/\H b=some (.tup xs)/\FA H xs fs/\fs.names.length<=12/\H a=some (.dK kvs)/\eV H kvs m I/\∀H',Same H H'->Q (.bl (hasB fs m)) H'
def Rs (n:Nat) (k:Kd) (d:D):Option (List Key)->Prop
 |none=>eT k d/\d.dep<=n/\d.Sm
 |some p=>ie n k d p/\p.length<=1000
def o9 (H:Hp) (u:V):Option (List Key)->Prop
 |none=>u=.non
 |some p=>∃l,u=.ref l/\H l=some (.lst (p.map kV))
def k9 (n:Nat):Sp:=λvs H Q _=>∃I v k d J r,vs=[I,v]/\KA H I k/\k.W/\Own H v d J/\Rs n k d r/\∀u H',Same H H'->o9 H' u r->Q u H'
def t_ (n:Nat):Sp:=λvs H Q _=>∃b v xs fs d I r,vs=[.ref b,v]/\H b=some (.tup xs)/\FA H xs fs/\fs.names.Nodup/\fs.names.length<=12/\fs.W/\Own H v d I/\Rs (n+1) (.eX fs) d r/\∀u H',Same H H'->o9 H' u r->Q u H'
def BX (n:Nat):Sp:=λvs H Q _=>∃pk pb v xs key by_ fs d I r,vs=[.ref pk,v]/\H pk=some (.tup [.str "rows",.str key,.str by_,.ref pb])/\H pb=some (.tup xs)/\FA H xs fs/\(Kd.rows key by_ fs).W/\Own H v d I/\Rs (n+1) (.rows key by_ fs) d r/\∀u H',Same H H'->o9 H' u r->Q u H'
def o_ (n:Nat):Sp:=λvs H Q _=>∃a w v k d I r,vs=[.ref a,v]/\H a=some (.tup [.str "tree",w])/\KA H w k/\k.W/\Own H v d I/\Rs n (.tree k) d r/\∀u H',Same H H'->o9 H' u r->Q u H'
def BZ (n:Nat):Sp:=λvs H Q _=>∃b v xs fs d I r,vs=[.ref b,v]/\H b=some (.tup xs)/\FA H xs fs/\fs.names.Nodup/\fs.W/\Own H v d I/\Rs (n+1) (.gj fs) d r/\∀u H',Same H H'->o9 H' u r->Q u H'
theorem KA.HQ {H:Hp}:∀{u:V}{k:Kd},KA H u k->u≠ .non
 |_,.num,h=>by unfold KA at h;obtain⟨a,rfl,_⟩:=h;intro z;cases z
 |_,.fy,h=>by unfold KA at h;obtain⟨a,rfl,_⟩:=h;intro z;cases z
 |_,.eX _,h=>by unfold KA at h;obtain⟨a,b,vs,rfl,_⟩:=h;intro z;cases z
 |_,.rows _ _ _,h=>by unfold KA at h;obtain⟨a,b,vs,rfl,_⟩:=h;intro z;cases z
 |_,.tree _,h=>by unfold KA at h;obtain⟨a,b,rfl,_⟩:=h;intro z;cases z
 |_,.gj _,h=>by unfold KA at h;obtain⟨a,b,vs,rfl,_⟩:=h;intro z;cases z
variable {P:Program}{w:World}{K:W.Frag}{mg:Str->Option Value}{base:Heap}
theorem HS:fv ["fields","name","pair"] ["fields","name"] (eS (top 6)):=fC
theorem B0 (T:Tb mg)(I:Dn K mg "kind_at" kh (top 6) J U):en P w K mg base eu (1) J U kh (qW K):=by
 refine I.F.ok HS λvs H Q E h=>?_;obtain⟨b,v,xs,fs,o,rfl,hb,aa,ac,hv,q⟩:=h;refine⟨rfl,λag A outer s nd hr hu=>?_⟩
 refine⟨_,(eh (hX PassesOwn.never rfl (jv (pv 0)) (fL (i:=2) nd rfl gc) (eA (eO (eM (HP hu) (eI (pv 2) b_) (pv 1) (eK _)) (eA (eJ (eI (pv 2) b_))) eQ)))
  (eA (eJ gP))),?_⟩
 ac_rfl
 refine(Zr rfl ⟨b,rfl,⟨_,d_.of hb⟩,kB (xs:=xs) (λi σ H'=>H'=H/\(∃z,σ=[some (.ref b),some v,z])/\∀j x,o=some x->j<i->fs.names[j]? ≠some x) ⟨rfl,⟨_,rfl⟩,λj x _ hj=>absurd hj (by omega)⟩ ?_ ?_ ?_⟩)
 . rintro i σ H' _ ⟨rfl,_⟩;exact d_.of hb
 . rintro i w σ H' hw ⟨rfl,⟨z,rfl⟩,Y⟩;obtain⟨c,u,nm,k',rfl,ab,hc,hk⟩:=FA.get fs aa hw;have ae:fs.names[i]? =some nm:=by rw[Fs.jz,ab];rfl
   cases o with
   |some x=>
    have hv:v=.str x:=hv;subst hv;refine(Zr rfl ⟨c,_,_,Zr rfl ⟨rfl,d_.of hc,rfl,Zr rfl (.inl ⟨rfl,Zr rfl (fW (λcc=>?_) (λcc=>?_))⟩)⟩⟩)
    . have e:nm=x:=by
       have:=of_decide_eq_true cc;injection this
      subst e;refine(Zr rfl ⟨c,_,_,Zr rfl ⟨rfl,d_.of hc,rfl,q u ?_⟩⟩);show qV H' u (fs.get nm);rw[Fs.l8 ac ab];exact hk
    . refine⟨rfl,⟨_,rfl⟩,λj y hy hj=>?_⟩
      cases hy;by_cases e:j<i
      . exact Y j x rfl e
      . have:j=i:=by omega
        subst this;rw[ae];intro z
        cases z;exact cc (decide_eq_true rfl)
   |none=>
    have done:(λ(σ:St) (af:Hp)=>af=H'/\(∃z,σ=[some (.ref b),some v,z])/\∀j x,(none:Option Str)=some x->j<i+1->fs.names[j]? ≠some x) [some (.ref b),some v,some (.ref c)] H':=⟨rfl,⟨_,rfl⟩,λ_ _ hx=>by cases hx⟩;rcases hv with⟨z,rfl⟩|⟨a,ys,rfl,ha⟩
    . exact(Zr rfl ⟨c,_,_,Zr rfl ⟨rfl,d_.of hc,rfl,Zr rfl (.inl ⟨rfl,Zr rfl (e_ done)⟩)⟩⟩)
    . exact(Zr rfl ⟨c,_,_,Zr rfl ⟨rfl,d_.of hc,rfl,Zr rfl (.inr ⟨nm,a,ys,rfl,rfl,ha,Zr rfl (e_ done)⟩)⟩⟩)
 . rintro σ H' ⟨rfl,⟨z,rfl⟩,Y⟩;refine q .non ?_
   cases o with
   |none=>rfl
   |some x=>
    show qV H' .non (fs.get x)
    cases e:fs.get x with
    |none=>rfl
    |some k=>
     obtain⟨j,hj,e'⟩:=Q16 (Fs.get_mem e);exact absurd (by rw[Q03 hj,e']) (Y j x rfl (by rw[FA.len fs aa];exact hj))
theorem HU:fv ["value"] ["value"] (eS (top 12)):=fC
theorem HV (T:Tb mg)(I:Dn K mg "is_pair" mj (top 12) J U):en P w K mg base eu (1) J U mj (t9):=by
 refine I.F.ok HU λvs H Q E h=>?_;obtain⟨v,d,fp,rfl,Y,q⟩:=h;refine⟨rfl,λaa A outer s nd hr hu=>?_⟩;refine⟨_,(eA (eJ (ju (fM il (by rfl) T.iu boot_isinstance (a_ (pv 0) (a_ (ik (v:=.ty "tuple") rfl T.oR boot_tuple rfl) c_))) (iO (gU fc (fM gY (by rfl) T.gM PySem.boot_len (a_ (pv 0) c_)) b_ (eK _)))))),?_⟩
 ac_rfl
 cases d with
 |int z=>
  unfold Own at Y;obtain⟨rfl,_⟩:=Y;exact(Zr rfl ⟨_,_,_,false,rfl,.int z,rfl,false,rfl,e_ q⟩)
 |str z=>
  unfold Own at Y;obtain⟨rfl,_⟩:=Y;exact(Zr rfl ⟨_,_,_,false,rfl,.str z,rfl,false,rfl,e_ q⟩)
 |non=>
  unfold Own at Y;obtain⟨rfl,_⟩:=Y;exact(Zr rfl ⟨_,_,_,false,rfl,.non,rfl,false,rfl,e_ q⟩)
 |boo z=>
  unfold Own at Y;obtain⟨rfl,_⟩:=Y;exact(Zr rfl ⟨_,_,_,false,rfl,.bl z,rfl,false,rfl,e_ q⟩)
 |lst xs=>
  unfold Own at Y;obtain⟨a,vs,fq,rfl,ha,_,hl⟩:=Y;exact(Zr rfl ⟨_,_,_,false,rfl,.lst ha,rfl,false,rfl,e_ q⟩)
 |dct m=>
  unfold Own at Y;obtain⟨a,vs,fq,rfl,ha,_,hl⟩:=Y;exact(Zr rfl ⟨_,_,_,false,rfl,.dK ha,rfl,false,rfl,e_ q⟩)
 |tup xs=>
  unfold Own at Y;obtain⟨a,vs,rfl,ha,hl⟩:=Y;refine(Zr rfl ⟨_,_,_,true,rfl,.tup ha,rfl,true,rfl,fw ?_⟩);refine(Zr rfl ⟨a,Zr rfl ⟨.inr (d_.of ha),rfl,?_⟩⟩)
  have e:decide (V.int (vs.length:Nat)=V.int 2)=(D.tup xs).mH:=by
   show _=decide (xs.len=2);rw[eW.len xs hl];rw[Bool.eq_iff_iff,decide_eq_true_iff,decide_eq_true_iff];constructor
   . intro z;injection z with z;omega
   . intro z;rw[z];rfl
  rw[e];exact q
theorem HW:fv XO XO (eS (top 10)):=fC
theorem HX (T:Tb mg)(I:Dn K mg "has_just" jl (top 10) J U):en P w K mg base eu (1) J U jl (BW):=by
 refine I.F.ok HW λvs H Q E h=>?_;obtain⟨b,a,xs,kvs,fs,m,fp,rfl,hb,aa,hx,ha,hO,q⟩:=h;refine⟨rfl,λae A outer s nd hr hu=>?_⟩;refine⟨_,(eA (eJ (ju (gU fc (fM zK (by rfl) T.gM PySem.boot_len (a_ (pv 1) c_)) (fM gY (by rfl) T.gM PySem.boot_len (a_ (pv 0) c_)) (eK _)) (iO (fM (rZ rfl) (by rfl) T.sR boot_all (a_ (kL (g:=(pO K 2 (lG (gS 0) (lG (gS 1) pN)))) (tt:=kK) (te:=_) (own:=["name","inner"]) rfl (i5 (N:=XO) (sc:=eS (top 10))) (jv (pv 0)) (λ_ _ _ _ _=>(iZ rfl (gQ (fL (i:=0) (show(["name","inner","fields","record"]:List Str).Nodup by decide +kernel) rfl (Or.inl rfl) (.inr rfl)) (gQ (fL (i:=1) (show(["name","inner","fields","record"]:List Str).Nodup by decide +kernel) rfl (Or.inl rfl) (.inr rfl)) iY)))) (λ_ _ _ _ _=>m8) (λ_ _ _ _ _=>(DO (rV hu (pv 0) (pv 3)) (by with_unfolding_all rfl)))) c_)))))),?_⟩
 ac_rfl
 have e1:kvs.length=m.names.length:=eV.len hO;have e2:xs.length=fs.names.length:=FA.len fs aa;have af:xs.length<=12:=by omega
 refine(Zr rfl ⟨a,Zr rfl ⟨ha,Zr rfl ⟨b,Zr rfl ⟨.inr (d_.of hb),rfl,Zr rfl ?_⟩⟩⟩⟩);by_cases c:m.names.length=fs.names.length
 . rw[decide_eq_true (show V.int (kvs.length:Nat)=V.int (xs.length:Nat) by rw[e1,e2,c])];refine fw ?_;refine(Zr rfl ⟨b,rfl,⟨_,d_.of hb⟩,λi k ys H'=>H'=H/\k=xs.length - i/\i<=xs.length/\ys=((fs.names.take i).map λx=>decide (x∈m.names)).map V.bl,⟨xs.length,rfl,by simp,Q07 _,rfl⟩,?_⟩);rintro i k ys H' ⟨rfl,rfl,hi,rfl⟩;by_cases Y:i<xs.length
   . refine .inr ⟨⟨xs,xs[i],d_.of hb,by simp[Y]⟩,by rw[Q04,Q04,Q0n];exact gE (by omega),λx H' y=>?_⟩;obtain⟨rfl,y⟩:=y;have hv:=y xs (d_.of hb);obtain⟨c',u,nm,k,rfl,ab,hc,hk⟩:=FA.get fs aa hv;have ac:fs.names[i]? =some nm:=by rw[Fs.jz,ab];rfl
     refine⟨c',Zr rfl ⟨d_.of hc,rfl,_,Zr rfl ⟨_,Zr rfl ⟨rfl,rfl,yes (fw ?_)⟩⟩⟩⟩;refine(Zr rfl (Zr rfl ⟨a,Zr rfl ⟨f_.k (k:=Sum.inr nm) ha,?_⟩⟩));refine⟨xs.length - (i+1),by omega,rfl,rfl,Y,?_⟩;rw[Q0t,ac,Q0j,Q0j];congr 1;show [V.bl (gD kvs (Sum.inr nm)).isSome]=[V.bl (decide (nm∈m.names))];congr 2;by_cases z:nm∈m.names
     . rw[decide_eq_true z];obtain⟨j,hj,e⟩:=Q16 z;have hk:=eV.keys m hO;have:(Sum.inr nm:Key)∈kvs.map (·.1):=by rw[hk];exact Q11 z
       exact BU this
     . rw[decide_eq_false z,eV.AB hO z];rfl
   . refine .inl ⟨⟨xs,d_.of hb,Q15 Y⟩,λp hp=>⟨p,(fs.names.take i).map λx=>decide (x∈m.names),rfl,eB.of eF,?_⟩⟩;have e:i=fs.names.length:=by omega
     have:((fs.names.take i).map λx=>decide (x∈m.names)).all id=hasB fs m:=by
      unfold hasB;rw[decide_eq_true c,Bool.true_and,e,Q0r,List.all_map];rfl
     rw[this];exact q _ (Same.new hp)
 . rw[decide_eq_false (show ¬V.int (kvs.length:Nat)=V.int (xs.length:Nat) by intro z;injection z with z;omega)];refine e_ ?_;have:hasB fs m=false:=by unfold hasB;rw[decide_eq_false c,Bool.false_and]
   rw[this] at q;exact q _ (Same.refl _)
noncomputable def D.tag:D->String
 | .int _=>"int"
 | .str _=>"str"
 | .non=>"NoneType"
 | .boo _=>"bool"
 | .tup _=>"tuple"
 | .lst _=>"list"
 | .dct _=>"dict"
theorem Own.ty {K:W.Frag}{H:Hp}:∀{d:D}{v:V}{I:List Addr},Own H v d I->iP K H v (.type d.tag)
 | .int z,v,I,h=>by unfold Own at h;rw[h.1];exact .int z
 | .str z,v,I,h=>by unfold Own at h;rw[h.1];exact .str z
 | .non,v,I,h=>by unfold Own at h;rw[h.1];exact .non
 | .boo z,v,I,h=>by unfold Own at h;rw[h.1];exact .bl z
 | .tup xs,v,I,h=>by unfold Own at h;obtain⟨a,vs,rfl,J,_⟩:=h;exact .tup J
 | .lst xs,v,I,h=>by unfold Own at h;obtain⟨a,vs,U,rfl,J,_⟩:=h;exact .lst J
 | .dct xs,v,I,h=>by unfold Own at h;obtain⟨a,vs,U,rfl,J,_⟩:=h;exact .dK J
theorem HY {K:W.Frag}{d:D}(h:∀m,d≠ .dct m):W.kitOne K (.type d.tag) (.type "dict")=some false:=by
 cases d <;> first|rfl|exact absurd rfl (h _)
theorem B1 {K:W.Frag}{d:D}(h:∀m,d≠ .lst m):W.kitOne K (.type d.tag) (.type "list")=some false:=by
 cases d <;> first|rfl|exact absurd rfl (h _)
theorem HZ {K:W.Frag}{d:D}(h:∀m,d≠ .str m):W.kitOne K (.type d.tag) (.type "str")=some false:=by
 cases d <;> first|rfl|exact absurd rfl (h _)
theorem B2 {fs:Fs}{m:Ds}(h:m.names=fs.names):hasB fs m=true:=by
 unfold hasB;rw[h,decide_eq_true rfl,Bool.true_and,Q0z];exact λx I=>decide_eq_true I
theorem H_ {fs:Fs}{m:Ds}(h:m.names.length≠fs.names.length\/∃x∈fs.names,x ∉ m.names):hasB fs m=false:=by
 unfold hasB;rcases h with h|⟨x,h1,h2⟩
 . rw[decide_eq_false h,Bool.false_and]
 . have:(fs.names.all λx=>decide (x∈m.names))=false:=by
    rw[List.all_eq_false];exact⟨x,h1,by simp[h2]⟩
   rw[this,Bool.and_false]
theorem Ia {n:Nat}{fs:Fs}{m:Ds}{r:Option (List Key)}(aa:fs.names.Nodup)(hR:Rs (n+1) (.eX fs) (.dct m) r):(hasB fs m=false/\r=some [])\/(hasB fs m=true/\∃stop:Nat->Prop,stop 0/\(stop fs.names.length->r=none)/\
 ∀i x k,stop i->fs.at i=some (x,k)->∃e,m.get x=some e/\((Rs n k e none/\stop (i+1))\/∃p',r=some (Sum.inr x::p')/\Rs n k e (some p'))):=by
 cases r with
 |none=>
  obtain⟨hF,hd,U⟩:=hR;unfold eT at hF;obtain⟨m',e,hF⟩:=hF
  cases e;simp only[D.dep] at hd;unfold D.Sm at U;refine .inr ⟨B2 hF.names,λ_=>True,trivial,λ_=>rfl,λi x k _ I=>?_⟩;obtain⟨e,he,hf⟩:=hF.get (Fs.l8 aa I);exact⟨e,he,.inl ⟨⟨hf,Q0f (Ds.sP he) (by omega),Ds.tH U.2 he⟩,trivial⟩⟩
 |some p=>
  obtain⟨hM,Y⟩:=hR
  cases hM with
  |Bx h=>
   exact .inl ⟨H_ (h m rfl),rfl⟩
  |@By _ _ _ J x0 k0 d0 p0 h1 h2 hj hg hm=>
   refine .inr ⟨B2 h1,λi=>i<=J,Q07 _,λhh=>?_,λi x k hi I=>?_⟩
   . have:J<fs.names.length:=(List.getElem?_eq_some_iff.mp (by rw[Fs.jz,h2];rfl:fs.names[J]? =some x0)).1;exact absurd hh (by omega)
   . by_cases e:i=J
     . subst e;rw[h2] at I
       cases I;exact⟨d0,hg,.inr ⟨p0,rfl,hm,by rw[Q0h] at Y;omega⟩⟩
     . obtain⟨e',ab,ac,ae,af⟩:=hj i x k (by omega) I;exact⟨e',ab,.inl ⟨⟨ac,ae,af⟩,by show i+1<=J;omega⟩⟩
theorem jE {n:Nat}(h:n<=2000):n<=sizeLine:=Q0f h (by decide)
theorem Ib:fv ["fields","record","name","inner","place"] XO (eS (top 9)):=fC
theorem Ic (n:Nat)(T:Tb mg)(I:Dn K mg "record_misfit" jl (top 9) J U)(Y:Dn K mg "has_just" jl (top 10) aa ab)(ac:en P w K mg base eu (1) aa ab jl (BW))(ae:Dn K mg "misfit" iA (top 8) af ag)(ah:en P w K mg base eu (4 * n+3) af ag iA (k9 n)):en P w K mg base eu (4 * n+4) J U jl (t_ n):=by
 refine I.F.ok Ib λvs H Q E h=>?_;obtain⟨b,v,xs,fs,d,fp,r,rfl,hb,ao,aw,hx,au,hO,hR,q⟩:=h;refine⟨rfl,λaA A outer s nd hr hu=>?_⟩
 refine⟨_,(eh (eO (PW.pt (g9 (gW (gx (fM il (by rfl) T.iu boot_isinstance (a_ (pv 1) (a_ (ik (v:=.ty "dict") rfl T.AK boot_dict rfl) c_))))) (hU (gW (gx (eL ac hr Y (a_ (pv 0) (a_ (pv 1) c_)))))))) (eA (eJ (gi c_))) eQ)
  (eh (hX PassesOwn.never rfl (jv (pv 0)) (iZ rfl (gQ (fL (i:=2) nd rfl gc) (gQ (fL (i:=3) nd rfl gc) iY))) (eh (eN 4 nd (eL ah hr ae (a_ (pv 3) (a_ (hZ hu (pv 1) (pv 2) (λ_ _=>rfl)) c_))))
  (eA (eO (eM kG (pv 4) gP (eK _)) (eA (eJ (eG jN (gi (a_ (pv 2) c_)) (pv 4)))) eQ))))
  (eA (eJ gP)))),?_⟩
 ac_rfl
 have leaf:∀H1,Same H H1->r=some []->(0:Nat)<=sizeLine/\∀p,H1 p=none->Q (.ref p) (upd H1 p (.lst [])):=λH1 s1 e=>⟨Q07 _,λp hp=>by
  subst e;exact q _ _ (s1.trans (Same.new hp)) ⟨p,rfl,eF⟩⟩
 by_cases al:∃m,d=.dct m
 . obtain⟨m,rfl⟩:=al;unfold Own at hO;obtain⟨a,kvs,fq,rfl,ha,_,hO⟩:=hO;refine(Zr rfl ⟨_,_,_,true,rfl,.dK ha,rfl,true,rfl,e_ ?_⟩);refine(Zr rfl (Zr rfl ⟨b,a,xs,kvs,fs,m,fq,rfl,hb,ao,hx,ha,hO,λH1 s1=>?_⟩));rcases Ia aw hR with⟨hh,er⟩|⟨hh,stop,ax,ay,step⟩
   . rw[hh];exact⟨false,rfl,fw (leaf H1 s1 er)⟩
   . rw[hh];refine⟨true,rfl,e_ ?_⟩;refine(Zr rfl ⟨b,rfl,⟨_,d_.of (s1 _ _ hb)⟩,kB (xs:=xs) (λi σ H'=>Same H H'/\stop i/\∃x y z,σ=[some (.ref b),some (.ref a),x,y,z]) ⟨s1,ax,_,_,_,rfl⟩ ?_ ?_ ?_⟩)
     . rintro i σ H' _ ⟨s2,_⟩;exact d_.of (s2 _ _ hb)
     . intro i v σ H' hv zq;obtain⟨s2,aj,x,y,z,rfl⟩:=zq;obtain⟨c,u,nm,k,rfl,ap,hc,hk⟩:=FA.get fs ao hv;obtain⟨e,he,ar⟩:=step i nm k aj ap;obtain⟨ev,f,am,an,_⟩:=eV.val _ hO he;refine⟨c,Zr rfl ⟨d_.of (s2 _ _ hc),rfl,_,Zr rfl ⟨_,Zr rfl ⟨rfl,?_⟩⟩⟩⟩;rcases ar with⟨ak,av⟩|⟨p',er,ak⟩
       . refine(Zr rfl (Zr rfl (Zr rfl ⟨a,ev,rfl,(by have:=f_.k (k:=Sum.inr nm) (s2 _ _ ha);rw[am] at this;exact this),u,ev,k,e,f,none,rfl,KA.mono (Tu.of s2) k hk,Fs.j_ au ap,Own.same s2 an,ak,λu' H3 s3 ai=>?_⟩)));have ai:u'=.non:=ai;subst ai;refine(Zr rfl ⟨rfl,Zr rfl ?_⟩);rw[decide_eq_true rfl];exact e_ ⟨s2.trans s3,av,_,_,_,rfl⟩
       . refine(Zr rfl (Zr rfl (Zr rfl ⟨a,ev,rfl,(by have:=f_.k (k:=Sum.inr nm) (s2 _ _ ha);rw[am] at this;exact this),u,ev,k,e,f,some p',rfl,KA.mono (Tu.of s2) k hk,Fs.j_ au ap,Own.same s2 an,ak,λu' H3 s3 ai=>?_⟩)));obtain⟨l,rfl,hl⟩:=ai;refine(Zr rfl ⟨rfl,Zr rfl ?_⟩);rw[decide_eq_false (by intro z;cases z)];refine fw ?_;refine(Zr rfl ⟨jE (show 1<=2000 by decide),λp hp=>(Zr rfl ⟨p,l,_,Zr rfl ⟨rfl,eF,by rw[eE (eP hl hp)];exact hl,jE (by rw[Q04];have:=ak.2;show 1+p'.length<=2000;omega),λp2 az=>?_⟩⟩)⟩);subst er;exact q _ _ (s2.trans (s3.trans ((Same.new hp).trans (Same.new az)))) ⟨p2,rfl,eF⟩
     . rintro σ H' ⟨s2,aj,_⟩;rw[FA.len fs ao] at aj;have:=ay aj;subst this;exact q _ _ s2 rfl
 . have aq:∀m,d≠ .dct m:=λm z=>al ⟨m,z⟩
   have er:r=some []:=by
    cases r with
    |none=>
     obtain⟨hF,_⟩:=hR;unfold eT at hF;obtain⟨m',e,_⟩:=hF;exact absurd e (aq _)
    |some p=>
     obtain⟨hM,_⟩:=hR
     cases hM with
     |Bx _=>rfl
     |By _ _ _ _ _=>exact absurd rfl (aq _)
   exact(Zr rfl ⟨_,_,_,false,rfl,hO.ty,HY aq,false,rfl,fw (fw (leaf H (Same.refl _) er))⟩)
theorem Ie {n:Nat}{key by_:Str}{fs:Fs}{xs:Ds}{r:Option (List Key)}(hR:Rs (n+1) (.rows key by_ fs) (.lst xs) r):xs.len<=100/\∃(rs:List Ds) (I:Nat),I<=rs.length/\(∀m∈rs,fJ fs m/\m.dep<=n/\m.Sm)/\(rs.take I).Pairwise (jj key by_)/\((rs.take I).map λm=>keyOf m key).Nodup/\
 (∀j,j<I->xs.at j=some (.dct (rs.getD j .nil)))/\((I=xs.len/\r=none)\/(∃e p',xs.at I=some e/\r=some (Sum.inl (I:Int)::p')/\Rs (n+1) (.eX fs) e (some p'))\/
   (0<I/\I<rs.length/\xs.at I=some (.dct (rs.getD I .nil))/\¬jj key by_ (rs.getD (I - 1) .nil) (rs.getD I .nil)/\r=some [Sum.inl (I:Int)])):=by
 cases r with
 |none=>
  obtain⟨hF,hd,U⟩:=hR;unfold eT at hF;obtain⟨rs,e,Y,hs,hk⟩:=hF
  cases e;unfold D.Sm at U;simp only[D.dep] at hd;refine⟨U.1,rs,rs.length,Q00 _,λm hm=>?_,by rw[Q0r];exact hs,by rw[Q0r];exact hk,λj hj=>BH hj,.inl ⟨(qO rs).symm,rfl⟩⟩;have a:=tL m hm;have b:=tK U.2 m hm;unfold D.Sm at b;exact⟨Y m hm,by omega,b.2⟩
 |some p=>
  obtain⟨hM,aa⟩:=hR
  cases hM with
  |rows0 h=>exact absurd rfl (h _)
  |@Bz _ _ _ _ _ i e p rs hl hi J Y hs hk he hm=>
   exact⟨hl,rs,i,hi,Y,hs.sublist (Q1x _ _),hk.sublist ((Q1x _ _).map _),J,.inr (.inl ⟨e,p,he,rfl,hm,by rw[Q0h] at aa;omega⟩)⟩
  |@BA _ _ _ _ _ i rs hl h0 hi J Y hs hk ab=>
   exact⟨hl,rs,i,Q0k hi,Y,hs,hk,λj hj=>J j (Q0k hj),.inr (.inr ⟨h0,hi,J i (Q00 _),ab,rfl⟩)⟩
theorem Ig:fv ["kind","rows","earlier","number","row","place"] XU (eS (top 11)):=fC
theorem Ih (n:Nat)(T:Tb mg)(ac:Dn K mg "rows_misfit" iT (top 11) ae af)(I:Dn K mg "record_misfit" jl (top 9) J U)(Y:en P w K mg base eu (4 * n+4) J U jl (t_ n))(an:Dn K mg "rank" md (top 15) aD aE)(ao:en P w K mg base eu (1) aD aE md (k8)):en P w K mg base eu (4 * n+5) ae af iT (BX n):=by
 refine ac.F.ok Ig λvs H Q E h=>?_;obtain⟨pk,pb,v,xs,key,by_,fs,d,fp,r,rfl,ag,aT,aU,hW,hO,hR,q⟩:=h;refine⟨rfl,λbu A outer s nd hr hu=>?_⟩;have ba:=hr.ze;unfold Kd.W at hW;obtain⟨aV,aW,aX,aj,ay⟩:=hW
 refine⟨_,(eh (eO (gW (gx (fM il (by rfl) T.iu boot_isinstance (a_ (pv 1) (a_ (ik (v:=.ty "list") rfl T.ma boot_list rfl) c_))))) (eA (eJ (gi c_))) eQ)
  (eh (eN 2 nd pZ)
  (eh (hX PassesOwn.never rfl (r8 rfl T.sS (a_ (pv 1) c_)) (iZ rfl (gQ (fL (i:=3) nd rfl gc) (gQ (fL (i:=4) nd rfl gc) iY))) (eh (eN 5 nd (eL Y hr I (a_ (eI (pv 0) b_) (a_ (pv 4) c_))))
  (eh (eO (eM kG (pv 5) gP (eK _)) (eA (eJ (eG jN (gi (a_ (pv 3) c_)) (pv 5)))) eQ)
  (eh (eO (PW.pt (mP (eM jL (pv 3) b_ (eK _)) (oh (eM (Gf ba) (eL ao hr an (a_ (pv 0) (a_ (pv 4) c_))) (eL ao hr an (a_ (pv 0) (a_ (gG (pv 1) (eG jK (pv 3) b_)) c_))) (eK _))))) (eA (eJ (gi (a_ (pv 3) c_)))) eQ)
  (eh (eO (pI (rV hu (hZ hu (pv 4) (eI (pv 0) b_) (λ_ _=>rfl)) (pv 2)) (by with_unfolding_all rfl)) (eA (eJ (gi (a_ (pv 3) c_)))) eQ)
  (eA (m7 hu (pv 2) (hZ hu (pv 4) (eI (pv 0) b_) (λ_ _=>rfl)) g8 rfl)))))))
  (eA (eJ gP))))),?_⟩
 ac_rfl
 by_cases aF:∃ds,d=.lst ds
 . obtain⟨ds,rfl⟩:=aF;unfold Own at hO;obtain⟨a,ys,fq,rfl,ha,_,aI⟩:=hO;obtain⟨bn,rs,ab,bp,aw,aP,bb,aY,av⟩:=Ie hR;have ak:∀m∈rs,fJ fs m:=λm hm=>(aw m hm).1;have bq:ys.length=ds.len:=eW.len ds aI
   have bo:ab<=ds.len:=by
    rcases av with⟨e,_⟩|⟨e,p',he,_⟩|⟨_,_,he,_⟩
    . omega
    . have:=Ds.mD he;omega
    . have:=Ds.mD he;omega
   refine(Zr rfl ⟨_,_,_,true,rfl,.lst ha,rfl,true,rfl,e_ ?_⟩);intro p hp;have s0:Same H (upd H p (.dK [])):=Same.new hp;refine(Zr rfl ⟨a,rfl,⟨_,eB.of (s0 _ _ ha)⟩,t8 (xs:=ys) (λi σ H'=>i<=ab/\∃x y z ek,σ=[some (.ref pk),some (.ref a),some (.ref p),x,y,z]/\Same H H'/\H' p=some (.dK ek)/\ek.map (·.1)=(rs.take i).map λm=>keyOf m key) ⟨Q07 _,_,_,_,[],rfl,s0,eF,rfl⟩ ?_ ?_ ?_⟩)
   . intro i σ H' _ zq;obtain⟨_,x,y,z,ek,rfl,s2,_⟩:=zq;exact eB.of (s2 _ _ ha)
   . rintro i yv σ H' t hy ⟨bv,x,y,z,ek,rfl,s2,bc,aJ⟩ ht;have hi:i<ys.length:=(List.getElem?_eq_some_iff.mp hy).1;have st:Same H' (upd H' t (.tup [.int i,yv])):=Same.new ht;have s3:=s2.trans st;refine⟨t,Zr rfl ⟨d_.of eF,rfl,_,Zr rfl ⟨_,Zr rfl ⟨rfl,?_⟩⟩⟩⟩
     have aQ:(i=ab/\∃e p',ds.at i=some e/\r=some (Sum.inl (i:Int)::p')/\Rs (n+1) (.eX fs) e (some p'))\/(i<rs.length/\ds.at i=some (.dct (rs.getD i .nil))/\(i<ab\/(i=ab/\0<i/\¬jj key by_ (rs.getD (i - 1) .nil) (rs.getD i .nil)/\r=some [Sum.inl (i:Int)]))):=by
      by_cases aK:i=ab
      . subst aK;rcases av with⟨e,_⟩|h|⟨h0,h1,h2,h3,h4⟩
        . omega
        . exact .inl ⟨rfl,h⟩
        . exact .inr ⟨h1,h2,.inr ⟨rfl,h0,h3,h4⟩⟩
      . exact .inr ⟨by omega,aY i (by omega),.inl (by omega)⟩
     rcases aQ with⟨aK,e,p',he,er,aZ⟩|⟨br,a5,al⟩
     . subst aK;obtain⟨e',f,aG,a6,_⟩:=eW.get ds aI hy;rw[he] at aG
       cases aG;refine(Zr rfl ⟨pk,_,_,Zr rfl ⟨rfl,d_.of (s3 _ _ ag),rfl,Zr rfl ⟨pb,yv,xs,fs,e,f,some p',rfl,s3 _ _ aT,FA.mono (Tu.of s3) fs aU,aV,aW,aX,Own.same s3 a6,aZ,λu' H4 s4 ap=>?_⟩⟩⟩);obtain⟨l,rfl,hl⟩:=ap;refine(Zr rfl ⟨rfl,Zr rfl ?_⟩);rw[decide_eq_false (by intro z;cases z)];refine fw ?_;refine(Zr rfl ⟨jE (show 1<=2000 by decide),λp3 az=>(Zr rfl ⟨p3,l,_,Zr rfl ⟨rfl,eF,by rw[eE (eP hl az)];exact hl,jE (by rw[Q04];have:=aZ.2;show 1+p'.length<=2000;omega),λp2 bd=>?_⟩⟩)⟩);subst er;exact q _ _ (s3.trans (s4.trans ((Same.new az).trans (Same.new bd)))) ⟨p2,rfl,eF⟩
     have row:∀j,j<=i->∃rr kvs fq,ys[j]? =some (.ref rr)/\H rr=some (.dK kvs)/\eV H kvs (rs.getD j .nil) fq/\rs.getD j .nil∈rs:=λj hj=>by
      obtain⟨d',f,h1,h2,_⟩:=eW.get ds aI (Q03 (by omega:j<ys.length))
      have a7:ds.at j=some (.dct (rs.getD j .nil)):=by
       by_cases e:j=i
       . rw[e];exact a5
       . exact aY j (by omega)
      rw[a7] at h1
      cases h1;unfold Own at h2;obtain⟨rr,kvs,aq,e,ar,_,au⟩:=h2;refine⟨rr,kvs,aq,?_,ar,au,?_⟩
      . rw[Q03 (by omega:j<ys.length),e]
      . rw[Q0e,Q03 (by omega)];exact Q0v _
     obtain⟨rr,kvs,aq,a1,ar,au,am⟩:=row i (Q00 _);rw[hy] at a1
     cases a1;have a2:upd H' t (.tup [.int i,.ref rr]) p=some (.dK ek):=st _ _ bc
     have gk:∀H4,Same H H4->f_ H4 rr (.str key) (some (kV (keyOf (rs.getD i .nil) key))):=λH4 s4=>by
      have:=f_.k (k:=Sum.inr key) (s4 _ _ ar);rw[au.key (ak _ am) aj] at this;exact this
     have aL:=aw _ am;refine(Zr rfl ⟨pk,_,_,Zr rfl ⟨rfl,d_.of (s3 _ _ ag),rfl,Zr rfl ⟨pb,.ref rr,xs,fs,.dct (rs.getD i .nil),rr::aq,none,rfl,s3 _ _ aT,FA.mono (Tu.of s3) fs aU,aV,aW,aX,by unfold Own;exact⟨rr,kvs,aq,rfl,s3 _ _ ar,rfl,eV.same s3 au⟩,⟨by unfold eT;exact(Zr rfl aL.1),by simp only[D.dep];omega,by unfold D.Sm;exact⟨by rw[<-nB,aL.1.names];omega,aL.2.2⟩⟩,λu' H4 s4 ap=>?_⟩⟩⟩);have ap:u'=.non:=ap;subst ap;have ah:=s3.trans s4;refine(Zr rfl ⟨rfl,Zr rfl ?_⟩);rw[decide_eq_true rfl];refine e_ ?_
     have ai:i<ab->gD ek (keyOf (rs.getD i .nil) key)=none:=λaa=>by
      have sv:=qN aJ (keyOf (rs.getD i .nil) key)
      have:jB key (rs.take i) (keyOf (rs.getD i .nil) key)=false:=by
       cases z:jB key (rs.take i) (keyOf (rs.getD i .nil) key) with
       |false=>rfl
       |true=>
        obtain⟨m,hm,e⟩:=List.any_eq_true.mp z;have e:=of_decide_eq_true e;obtain⟨j,hj,ej⟩:=Q16 hm;rw[Q0n] at hj;rw[Q12] at ej;have be:i<rs.length:=by omega
        have e2:rs.getD i .nil=rs[i]:=by rw[Q0e,Q03 be];rfl
        have:=List.pairwise_iff_getElem.mp (List.pairwise_map.mp bb) j i (by rw[Q0n];omega) (by rw[Q0n];omega) (by omega);rw[Q12,Q12,ej,<-e2] at this;exact absurd e this
      rw[this] at sv
      cases z:gD ek (keyOf (rs.getD i .nil) key) with
      |none=>rfl
      |some o=>rw[z] at sv;cases sv
     have fin:i<ab->∀H5,Same (upd H' t (.tup [.int i,.ref rr])) H5->∀(DD:Ends),DD.nx=(λσ H'=>i+1<=ab/\∃x y z ek,σ=[some (.ref pk),some (.ref a),some (.ref p),x,y,z]/\Same H H'/\H' p=some (.dK ek)/\ek.map (·.1)=(rs.take (i+1)).map λm=>keyOf m key)->∀z':Option V,
      DD.nx [some (.ref pk),some (.ref a),some (.ref p),some (.int i),some (.ref rr),z'] (upd H5 p (.dK (ek++[(keyOf (rs.getD i .nil) key,.bl true)]))):=λaa H5 s5 DD bf z'=>by
      rw[bf];refine⟨by omega,_,_,_,Zr rfl ⟨λc o e=>?_,eF,?_⟩⟩
      . rw[eE (eP e hp)];exact s5 _ _ (s3 _ _ e)
      . rw[Q0j,aJ,Q0t,Q0j];congr 1;rw[Q03 (by omega),Q0e,Q03 (by omega)];rfl
     have aH:ek.length<sizeLine:=by
      have e1:=congrArg List.length aJ;rw[Q04,Q04,Q0n] at e1;have:=hr.ze;exact gE (by omega)
     refine(Zr rfl ⟨_,Zr rfl ⟨rfl,Zr rfl (fW (λc=>?_) (λc=>e_ ?_))⟩⟩)
     . have bw:0<i:=by
        have:(0:Int)<(i:Int):=of_decide_eq_true c;omega
       obtain⟨rp,bg,bh,a8,bi,a9,ax⟩:=row (i - 1) (by omega);refine(Zr rfl (Zr rfl ⟨pk,rr,pb,key,by_,fs,kvs,_,aq,rfl,ah _ _ ag,ah _ _ ar,eV.same ah au,ak _ am,aj,ay,λt1 bj=>?_⟩));have aM:Same H4 (upd H4 t1 (.tup ((rankOf key by_ (rs.getD i .nil)).map kV))):=Same.new bj;have s5:=ah.trans aM
       have bm:gv ys ((i:Int) - 1)=some (.ref rp):=by
        have e:(i:Int) - 1=((i - 1:Nat):Int):=by omega
        rw[e];exact gz a8
       refine(Zr rfl (Zr rfl (Zr rfl ⟨_,Zr rfl ⟨rfl,a,_,_,Zr rfl ⟨rfl,eB.of (s5 _ _ ha),bm,pk,rp,pb,key,by_,fs,bg,_,bh,rfl,s5 _ _ ag,s5 _ _ bi,eV.same s5 a9,ak _ ax,aj,ay,λt2 jD=>?_⟩⟩⟩)));have aA:Same (upd H4 t1 (.tup ((rankOf key by_ (rs.getD i .nil)).map kV))) (upd (upd H4 t1 (.tup ((rankOf key by_ (rs.getD i .nil)).map kV))) t2 (.tup ((rankOf key by_ (rs.getD (i - 1) .nil)).map kV))):=Same.new jD;have s6:=s5.trans aA;have ge:∀j (h:j<rs.length),rs.getD j .nil=rs[j]:=λj h=>by rw[Q0e,Q03 h];rfl
       refine⟨t1,t2,_,Zr rfl ⟨rfl,d_.of (aA _ _ eF),d_.of eF,(qj (ak _ am) aj ay).trans (qj (ak _ ax) aj ay).symm,Zr rfl ?_⟩⟩;by_cases aB:gK (rankOf key by_ (rs.getD (i - 1) .nil)) (rankOf key by_ (rs.getD i .nil))=true
       case neg=>
        have er:r=some [Sum.inl (i:Int)]:=by
         rcases al with aa|⟨_,_,_,er⟩
         . refine absurd ?_ aB;have:=List.pairwise_iff_getElem.mp aP (i - 1) i (by rw[Q0n];omega) (by rw[Q0n];omega) (by omega);rw[Q12,Q12] at this;rw[ge (i - 1) (by omega),ge i (by omega)];exact this
         . exact er
        rw[Bool.eq_false_iff.mpr aB];subst er;exact fw (Zr rfl ⟨jE (show 1<=2000 by decide),λp3 az=>q _ _ (s6.trans (Same.new az)) ⟨p3,rfl,eF⟩⟩)
       have aa:i<ab:=by
        rcases al with h|⟨_,_,h,_⟩
        . exact h
        . exact absurd aB h
       have ai:=ai aa;rw[aB];refine e_ ?_;have a3:=aA _ _ (aM _ _ (s4 _ _ a2));refine(Zr rfl (Zr rfl ⟨pk,_,_,Zr rfl ⟨rfl,d_.of (s6 _ _ ag),rfl,rr,Zr rfl ⟨gk _ s6,Zr rfl ⟨p,Zr rfl ⟨f_.k a3,Zr rfl ?_⟩⟩⟩⟩⟩));rw[ai];refine e_ ?_;refine(Zr rfl (Zr rfl (Zr rfl ⟨pk,_,_,Zr rfl ⟨rfl,d_.of (s6 _ _ ag),rfl,rr,Zr rfl ⟨gk _ s6,p,Zr rfl ⟨jy.k a3 aH,?_⟩⟩⟩⟩)));rw[oO ai];exact fin aa _ (s4.trans (aM.trans aA)) _ rfl _
     . have aa:i<ab:=by
        rcases al with h|⟨_,h,_⟩
        . exact h
        . exact absurd (decide_eq_true (show(0:Int)<(i:Int) by omega)) c
       have ai:=ai aa;have a4:=s4 _ _ a2;refine(Zr rfl (Zr rfl ⟨pk,_,_,Zr rfl ⟨rfl,d_.of (ah _ _ ag),rfl,rr,Zr rfl ⟨gk _ ah,Zr rfl ⟨p,Zr rfl ⟨f_.k a4,Zr rfl ?_⟩⟩⟩⟩⟩));rw[ai];refine e_ ?_;refine(Zr rfl (Zr rfl (Zr rfl ⟨pk,_,_,Zr rfl ⟨rfl,d_.of (ah _ _ ag),rfl,rr,Zr rfl ⟨gk _ ah,p,Zr rfl ⟨jy.k a4 aH,?_⟩⟩⟩⟩)));rw[oO ai];exact fin aa _ s4 _ rfl _
   . intro σ H' zq;obtain⟨bt,x,y,z,ek,rfl,s2,_⟩:=zq
     have er:r=none:=by
      rcases av with⟨_,e⟩|⟨e,p',he,_⟩|⟨_,_,he,_⟩
      . exact e
      . have:=Ds.mD he;omega
      . have:=Ds.mD he;omega
     subst er;exact q _ _ s2 rfl
 . have aC:∀m,d≠ .lst m:=λm z=>aF ⟨m,z⟩
   have er:r=some []:=by
    cases r with
    |none=>
     obtain⟨hF,_⟩:=hR;unfold eT at hF;obtain⟨rs,e,_⟩:=hF;exact absurd e (aC _)
    |some p=>
     obtain⟨hM,_⟩:=hR
     cases hM with
     |rows0 _=>rfl
     |Bz _ _ _ _ _ _ _ _=>exact absurd rfl (aC _)
     |BA _ _ _ _ _ _ _ _=>exact absurd rfl (aC _)
   subst er;exact(Zr rfl ⟨_,_,_,false,rfl,hO.ty,B1 aC,false,rfl,fw ⟨Q07 _,λp hp=>q _ _ (Same.new hp) ⟨p,rfl,eF⟩⟩⟩)
theorem Ii {xs:Ds}(h:xs.len=2):∃x a y c,xs=.cons x a (.cons y c .nil):=by
 cases xs with
 |nil=>cases h
 |cons x a r=>
  cases r with
  |nil=>cases h
  |cons y c t=>
   cases t with
   |nil=>exact⟨x,a,y,c,rfl⟩
   |cons z e t=>have h:t.len+1+1+1=2:=h;omega
theorem Ij {n:Nat}{k:Kd}{x y:Str}{t:D}{as:Ds}{r:Option (List Key)}(hR:Rs (n+1) (.tree k) (.tup (.cons x t (.cons y (.lst as) .nil))) r):(∃U,r=some (Sum.inr ("knot":Str)::U)/\Rs n k t (some U))\/(Rs n k t none/\∃I,(∀j a,j<I->as.at j=some a->Rs n (.tree k) a none)/\
 ((I=as.len/\r=none)\/∃e U,as.at I=some e/\r=some (Sum.inl (I:Int)::U)/\Rs n (.tree k) e (some U))):=by
 cases r with
 |none=>
  obtain⟨hF,hd,Y⟩:=hR;have hT:Tree (eT k) (.tup (.cons x t (.cons y (.lst as) .nil))):=by unfold eT at hF;exact hF
  obtain⟨x',y',t',af,e,ht,ac⟩:=hT.shape
  cases e;unfold D.Sm Ds.Sm at Y;obtain⟨_,ae,aa⟩:=Y;unfold Ds.Sm at aa;have ab:=aa.1;unfold D.Sm at ab;simp only[D.dep,Ds.dep] at hd;refine .inr ⟨⟨ht,by omega,ae⟩,as.len,λj a _ ha=>?_,.inl ⟨rfl,rfl⟩⟩;have:=Ds.kM ha;exact⟨by unfold eT;exact ir.all ac ha,by omega,Ds.tG ab.2 ha⟩
 |some p=>
  obtain⟨hM,J⟩:=hR
  cases hM with
  |BB h=>exact absurd rfl (h _ as rfl rfl)
  |@BC _ _ _ _ p hm=>exact .inl ⟨p,rfl,hm,by rw[Q0h] at J;omega⟩
  |@BD _ _ _ e _ i p ht hl hj he hm=>
   refine .inr ⟨ht,i,λj a h1 h2=>?_,.inr ⟨e,p,he,rfl,hm,by rw[Q0h] at J;omega⟩⟩;obtain⟨a1,a2,a3⟩:=hj j a h1 h2;exact⟨by unfold eT;exact a1,a2,a3⟩
theorem B3 {n:Nat}{k:Kd}{d:D}{r:Option (List Key)}(hR:Rs (n+1) (.tree k) d r)(h:∀x y t as,d≠ .tup (.cons x t (.cons y (.lst as) .nil))):r=some []:=by
 cases r with
 |none=>
  obtain⟨hF,_⟩:=hR;have hT:Tree (eT k) d:=by unfold eT at hF;exact hF
  obtain⟨x',y',t',U,e,ht,Y⟩:=hT.shape;exact absurd e (h _ _ _ _)
 |some p=>
  obtain⟨J,I⟩:=hR
  cases J with
  |BB _=>rfl
  |BC _=>exact absurd rfl (h _ _ _ _)
  |BD _ _ _ _ _=>exact absurd rfl (h _ _ _ _)
theorem Ik {n:Nat}{fs:Fs}{x y:Str}{a c:D}{r:Option (List Key)}(hW:fs.W)(hR:Rs (n+1) (.gj fs) (.tup (.cons x a (.cons y c .nil))) r):(∃nm k r',a=.str nm/\fs.get nm=some k/\Rs n k c r'/\r=r'.map (Sum.inr nm:: ·))\/
 (r=some []/\((∃nm,a=.str nm/\fs.get nm=none)\/(∃z,a=.int z)\/∃l,a=.lst l)):=by
 cases r with
 |none=>
  obtain⟨hF,hd,J⟩:=hR;unfold eT at hF;obtain⟨nm,v,e,hE⟩:=hF
  cases e;obtain⟨k,I,hf⟩:=tU hE;unfold D.Sm Ds.Sm at J;obtain⟨_,_,U⟩:=J;unfold Ds.Sm at U;simp only[D.dep,Ds.dep] at hd;exact .inl ⟨nm,k,none,rfl,I,⟨hf,by omega,U.1⟩,rfl⟩
 |some p=>
  obtain⟨hM,Y⟩:=hR
  cases hM with
  |BE h=>
   refine .inr ⟨rfl,?_⟩;rcases h _ rfl rfl with⟨nm,e,hn⟩|⟨z,e⟩|⟨l,e⟩
   . refine .inl ⟨nm,Option.some.inj e,?_⟩
     cases I:fs.get nm with
     |none=>rfl
     |some k=>exact absurd (Fs.get_mem I) hn
   . exact .inr (.inl ⟨z,Option.some.inj e⟩)
   . exact .inr (.inr ⟨l,Option.some.inj e⟩)
  |@BF _ _ nm k _ p I hm=>exact .inl ⟨nm,k,some p,rfl,I,⟨hm,by rw[Q0h] at Y;omega⟩,rfl⟩
theorem Il {n:Nat}{fs:Fs}{d:D}{r:Option (List Key)}(hR:Rs (n+1) (.gj fs) d r)(h:d.mH=false):r=some []:=by
 cases r with
 |none=>
  obtain⟨hF,_⟩:=hR;unfold eT at hF;obtain⟨nm,v,e,hE⟩:=hF;rw[e] at h;cases h
 |some p=>
  obtain⟨J,I⟩:=hR
  cases J with
  |BE _=>rfl
  |BF _ _=>cases h
theorem Im {d:D}(h:d.mH=false):∀x y t as,d≠ .tup (.cons x t (.cons y (.lst as) .nil)):=λx y t as e=>by
 rw[e] at h;cases h
theorem B4 {d:D}(h:d.mH=true):∃x a y c,d=.tup (.cons x a (.cons y c .nil)):=by
 cases d with
 |tup xs=>
  obtain⟨x,a,y,c,e⟩:=Ii (of_decide_eq_true (show decide (xs.len=2)=true from h));exact⟨x,a,y,c,by rw[e]⟩
 |_=>cases h
theorem B5 {k:Kd}{d:D}{r:Option (List Key)}(h:Rs 0 k d r):False:=by
 cases r with
 |none=>exact absurd h.2.1 (by have:=d.jQ;omega)
 |some p=>obtain⟨h,_⟩:=h;cases h
theorem B6:fv ["kind","tree","place","number","arm"] ["kind","tree"] (eS (top 13)):=fC
theorem Io (T:Tb mg)(I:Dn K mg "tree_misfit" km (top 13) J U):en P w K mg base eu (4 * 0+2) J U km (o_ 0):=by
 refine I.F.ok B6 λvs H Q E h=>?_;obtain⟨a,u,v,k,d,fp,r,rfl,_,_,_,_,hd,_⟩:=h;refine⟨rfl,λY A outer s nd hr hu=>?_⟩;exact(B5 hd).elim
theorem Iq (n:Nat)(T:Tb mg)(I:Dn K mg "tree_misfit" km (top 13) J U)(aa:en P w K mg base eu (4 * n+2) J U km (o_ n))(ab:Dn K mg "is_pair" mj (top 12) ac ae)(af:en P w K mg base eu (1) ac ae mj (t9))(ag:Dn K mg "misfit" iA (top 8) ah ai)(aj:en P w K mg base eu (4 * n+3) ah ai iA (k9 n)):en P w K mg base eu (4 * (n+1)+2) J U km (o_ (n+1)):=by
 refine I.F.ok B6 λvs H Q E h=>?_;obtain⟨a,u,v,k,d,fp,r,rfl,ha,hk,hW,hO,hR,q⟩:=h;refine⟨rfl,λaE A outer s nd hr hu=>?_⟩
 refine⟨_,(eh (eO (PW.pt (g9 (gW (gx (eL af hr ab (a_ (pv 1) c_)))) (hU (gW (gx (fM il (by rfl) T.iu boot_isinstance (a_ (eI (pv 1) b_) (a_ (ik (v:=.ty "list") rfl T.ma boot_list rfl) c_)))))))) (eA (eJ (gi c_))) eQ)
  (eh (eN 2 nd (eL aj hr ag (a_ (eI (pv 0) b_) (a_ (eI (pv 1) b_) c_))))
  (eh (eO (eM kG (pv 2) gP (eK _)) (eA (eJ (eG jN (gi (a_ eY c_)) (pv 2)))) eQ)
  (eh (hX PassesOwn.never rfl (r8 rfl T.sS (a_ (eI (pv 1) b_) c_)) (iZ rfl (gQ (fL (i:=3) nd rfl gc) (gQ (fL (i:=4) nd rfl gc) iY))) (eh (eN 2 nd (eL aa hr I (a_ (pv 0) (a_ (pv 4) c_))))
  (eA (eO (eM kG (pv 2) gP (eK _)) (eA (eJ (eG jN (gi (a_ (pv 3) c_)) (pv 2)))) eQ))))
  (eA (eJ gP)))))),?_⟩
 ac_rfl
 refine(Zr rfl ⟨v,d,fp,rfl,hO,?_⟩)
 cases hP:d.mH with
 |false=>
  have er:=B3 hR (Im hP);subst er;exact⟨false,rfl,fw (fw ⟨Q07 _,λp hp=>q _ _ (Same.new hp) ⟨p,rfl,eF⟩⟩)⟩
 |true=>
  obtain⟨x,t,y,au,rfl⟩:=B4 hP;obtain⟨c,v1,v2,f1,f2,rfl,hc,rfl,av,ao⟩:=hO.pair;refine⟨true,rfl,e_ ?_⟩;by_cases hl:¬∃as,au=.lst as
  . have aw:∀m,au≠ .lst m:=λm z=>hl ⟨m,z⟩;have er:=B3 hR λx y t as e=>by cases e;exact aw _ rfl
    subst er;exact(Zr rfl ⟨c,_,_,Zr rfl ⟨rfl,d_.of hc,rfl,_,_,_,false,rfl,ao.ty,B1 aw,false,rfl,fw ⟨Q07 _,λp hp=>q _ _ (Same.new hp) ⟨p,rfl,eF⟩⟩⟩⟩)
  obtain⟨as,rfl⟩:=Classical.not_not.mp hl;unfold Own at ao;obtain⟨pl,ys,fq,rfl,ap,rfl,ax⟩:=ao;refine(Zr rfl ⟨c,_,_,Zr rfl ⟨rfl,d_.of hc,rfl,_,_,_,true,rfl,.lst ap,rfl,true,rfl,e_ ?_⟩⟩);rcases Ij hR with⟨p',er,al⟩|⟨al,ay,aA,am⟩
  . refine(Zr rfl ⟨a,_,_,Zr rfl ⟨rfl,d_.of ha,rfl,Zr rfl ⟨c,_,_,Zr rfl ⟨rfl,d_.of hc,rfl,u,v1,k,t,f1,some p',rfl,hk,hW,av,al,λu' H1 s1 Y=>?_⟩⟩⟩⟩);obtain⟨l,rfl,hl⟩:=Y;refine(Zr rfl ⟨rfl,Zr rfl ?_⟩);rw[decide_eq_false (by intro z;cases z)];refine fw ?_;refine⟨jE (show 1<=2000 by decide),λp3 ak=>(Zr rfl ⟨p3,l,_,Zr rfl ⟨rfl,eF,by rw[eE (eP hl ak)];exact hl,jE (by rw[Q04];have:=al.2;show 1+p'.length<=2000;omega),λp2 aq=>?_⟩⟩)⟩;subst er;exact q _ _ (s1.trans ((Same.new ak).trans (Same.new aq))) ⟨p2,rfl,eF⟩
  . refine(Zr rfl ⟨a,_,_,Zr rfl ⟨rfl,d_.of ha,rfl,Zr rfl ⟨c,_,_,Zr rfl ⟨rfl,d_.of hc,rfl,u,v1,k,t,f1,none,rfl,hk,hW,av,al,λu' H1 s1 Y=>?_⟩⟩⟩⟩);have Y:u'=.non:=Y;subst Y;refine(Zr rfl ⟨rfl,Zr rfl ?_⟩);rw[decide_eq_true rfl];refine e_ ?_;refine(Zr rfl ⟨c,_,_,Zr rfl ⟨rfl,d_.of (s1 _ _ hc),rfl,pl,rfl,⟨_,eB.of (s1 _ _ ap)⟩,t8 (xs:=ys) (λi σ H'=>Same H H'/\i<=ay/\∃x y z,σ=[some (.ref a),some (.ref c),x,y,z]) ⟨s1,Q07 _,_,_,_,rfl⟩ ?_ ?_ ?_⟩⟩)
    . rintro i σ H' _ ⟨s2,_⟩;exact eB.of (s2 _ _ ap)
    . rintro i yv σ H' tt hy ⟨s2,aF,x,y,z,rfl⟩ aC;have st:Same H' (upd H' tt (.tup [.int i,yv])):=Same.new aC;have s3:=s2.trans st;obtain⟨d',f,ar,az,_⟩:=eW.get _ ax hy;refine⟨tt,Zr rfl ⟨d_.of eF,rfl,_,Zr rfl ⟨_,Zr rfl ⟨rfl,?_⟩⟩⟩⟩;by_cases aD:i=ay
      . subst aD
        obtain⟨e,p',he,er,an⟩:∃e p',as.at i=some e/\r=some (Sum.inl (i:Int)::p')/\Rs n (.tree k) e (some p'):=by
         rcases am with⟨e,_⟩|h
         . have:=Ds.mD ar;omega
         . exact h
        rw[ar] at he
        cases he;refine(Zr rfl (Zr rfl ⟨a,u,yv,k,d',f,some p',rfl,s3 _ _ ha,KA.mono (Tu.of s3) k hk,hW,Own.same s3 az,an,λu' H4 s4 Y=>?_⟩));obtain⟨l,rfl,hl⟩:=Y;refine(Zr rfl ⟨rfl,Zr rfl ?_⟩);rw[decide_eq_false (by intro z;cases z)];refine fw ?_;refine(Zr rfl ⟨jE (show 1<=2000 by decide),λp3 ak=>(Zr rfl ⟨p3,l,_,Zr rfl ⟨rfl,eF,by rw[eE (eP hl ak)];exact hl,jE (by rw[Q04];have:=an.2;show 1+p'.length<=2000;omega),λp2 aq=>?_⟩⟩)⟩);subst er;exact q _ _ (s3.trans (s4.trans ((Same.new ak).trans (Same.new aq)))) ⟨p2,rfl,eF⟩
      . refine(Zr rfl (Zr rfl ⟨a,u,yv,k,d',f,none,rfl,s3 _ _ ha,KA.mono (Tu.of s3) k hk,hW,Own.same s3 az,aA i d' (by omega) ar,λu' H4 s4 Y=>?_⟩));have Y:u'=.non:=Y;subst Y;refine(Zr rfl ⟨rfl,Zr rfl ?_⟩);rw[decide_eq_true rfl];exact e_ ⟨s3.trans s4,by omega,_,_,_,rfl⟩
    . rintro σ H' ⟨s2,aB,_⟩
      have er:r=none:=by
       rw[eW.len as ax] at aB;rcases am with⟨_,e⟩|⟨e,p',he,_⟩
       . exact e
       . have:=Ds.mD he;omega
      subst er;exact q _ _ s2 rfl
theorem Ir:fv ["fields","value","inner","place"] ["fields","value"] (eS (top 14)):=fC
theorem Iu (n:Nat)(T:Tb mg)(I:Dn K mg "either_misfit" oW (top 14) J U)(aa:Dn K mg "is_pair" mj (top 12) ab ac)(ae:en P w K mg base eu (1) ab ac mj (t9))(af:Dn K mg "kind_at" kh (top 6) ag ah)(ai:en P w K mg base eu (1) ag ah kh (qW K))(aj:Dn K mg "misfit" iA (top 8) ak am)(an:en P w K mg base eu (4 * n+3) ak am iA (k9 n)):en P w K mg base eu (4 * n+4) J U oW (BZ n):=by
 refine I.F.ok Ir λvs H Q E h=>?_;obtain⟨b,v,xs,fs,d,fp,r,rfl,hb,aq,ar,au,hO,hR,q⟩:=h;refine⟨rfl,λaB A outer s nd hr hu=>?_⟩
 refine⟨_,(eh (eO (gW (gx (eL ae hr aa (a_ (pv 1) c_)))) (eA (eJ (gi c_))) eQ)
  (eh (eN 2 nd (eL ai hr af (a_ (pv 0) (a_ (eI (pv 1) b_) c_))))
  (eh (eO (eM lL (pv 2) gP (eK _)) (eA (eJ (gi c_))) eQ)
  (eh (eN 3 nd (eL an hr aj (a_ (pv 2) (a_ (eI (pv 1) b_) c_))))
  (eh (eO (eM kG (pv 3) gP (eK _)) (eA (eJ (eG jN (gi (a_ (eI (pv 1) b_) c_)) (pv 3)))) eQ)
  (eA (eJ gP))))))),?_⟩
 ac_rfl
 refine(Zr rfl ⟨v,d,fp,rfl,hO,?_⟩)
 cases hP:d.mH with
 |false=>
  have er:=Il hR hP;subst er;exact⟨false,rfl,fw ⟨Q07 _,λp hp=>q _ _ (Same.new hp) ⟨p,rfl,eF⟩⟩⟩
 |true=>
  obtain⟨x,a,y,c,rfl⟩:=B4 hP;obtain⟨t,v1,v2,f1,f2,rfl,ht,rfl,Y,ay⟩:=hO.pair;refine⟨true,rfl,e_ ?_⟩;rcases Ik au hR with⟨nm,k,r',rfl,ap,av,er⟩|⟨er,ax⟩
  . unfold Own at Y;obtain⟨rfl,_⟩:=Y;refine(Zr rfl (Zr rfl ⟨t,_,_,Zr rfl ⟨rfl,d_.of ht,rfl,b,.str nm,xs,fs,some nm,rfl,hb,aq,ar,rfl,λu hu=>?_⟩⟩));have hu:qV H u (fs.get nm):=hu;rw[ap] at hu;have hu:KA H u k:=hu;refine(Zr rfl ⟨rfl,Zr rfl ?_⟩);rw[decide_eq_false hu.HQ];refine e_ ?_;refine(Zr rfl (Zr rfl ⟨t,_,_,Zr rfl ⟨rfl,d_.of ht,rfl,u,v2,k,c,f2,r',rfl,hu,Fs.o7 au ap,ay,av,λu' H1 s1 ao=>?_⟩⟩))
    cases r' with
    |none=>
     have ao:u'=.non:=ao;subst ao;subst er;refine(Zr rfl ⟨rfl,Zr rfl ?_⟩);rw[decide_eq_true rfl];exact e_ (q _ _ s1 rfl)
    |some p'=>
     obtain⟨l,rfl,hl⟩:=ao;refine(Zr rfl ⟨rfl,Zr rfl ?_⟩);rw[decide_eq_false (by intro z;cases z)];refine fw ?_;refine(Zr rfl ⟨t,_,_,Zr rfl ⟨rfl,d_.of (s1 _ _ ht),rfl,jE (show 1<=2000 by decide),λp3 aw=>(Zr rfl ⟨p3,l,_,Zr rfl ⟨rfl,eF,by rw[eE (eP hl aw)];exact hl,jE (by rw[Q04];have:=av.2;show 1+p'.length<=2000;omega),λp2 az=>?_⟩⟩)⟩⟩);subst er;exact q _ _ (s1.trans ((Same.new aw).trans (Same.new az))) ⟨p2,rfl,eF⟩
  . subst er
    obtain⟨o,hn,ho⟩:∃o,BV K H v1 o/\o.bind fs.get=none:=by
     rcases ax with⟨nm,rfl,hg⟩|⟨z,rfl⟩|⟨l,rfl⟩
     . unfold Own at Y;exact⟨some nm,Y.1,hg⟩
     . unfold Own at Y;exact⟨none,.inl ⟨z,Y.1⟩,rfl⟩
     . unfold Own at Y;obtain⟨al,ys,fq,e,aA,_⟩:=Y;exact⟨none,.inr ⟨al,ys,e,eB.of aA⟩,rfl⟩
    refine(Zr rfl (Zr rfl ⟨t,_,_,Zr rfl ⟨rfl,d_.of ht,rfl,b,v1,xs,fs,o,rfl,hb,aq,ar,hn,λu hu=>?_⟩⟩));rw[ho] at hu;have hu:u=.non:=hu;subst hu;refine(Zr rfl ⟨rfl,Zr rfl ?_⟩);rw[decide_eq_true rfl];exact fw ⟨Q07 _,λp hp=>q _ _ (Same.new hp) ⟨p,rfl,eF⟩⟩
theorem B7:fv ["kind","value","form"] ["kind","value"] (eS (top 8)):=fC
theorem Iv (T:Tb mg)(I:Dn K mg "misfit" iA (top 8) J U):en P w K mg base eu (4 * 0+3) J U iA (k9 0):=by
 refine I.F.ok B7 λvs H Q E h=>?_;obtain⟨kv,v,k,d,fp,r,rfl,_,_,_,hd,_⟩:=h;refine⟨rfl,λY A outer s nd hr hu=>?_⟩;exact(B5 hd).elim
theorem Iw (n:Nat)(T:Tb mg)(an:Dn K mg "misfit" iA (top 8) ao ap)(I:Dn K mg "record_misfit" jl (top 9) J U)(Y:en P w K mg base eu (4 * n+4) J U jl (t_ n))(af:Dn K mg "rows_misfit" iT (top 11) ag ah)(ai:en P w K mg base eu (4 * n+5) ag ah iT (BX n))(aj:Dn K mg "tree_misfit" km (top 13) ak al)(am:en P w K mg base eu (4 * (n+1)+2) ak al km (o_ (n+1)))(aa:Dn K mg "either_misfit" oW (top 14) ab ac)(ae:en P w K mg base eu (4 * n+4) ab ac oW (BZ n)):
 en P w K mg base eu (4 * (n+1)+3) ao ap iA (k9 (n+1)):=by
 refine an.F.ok B7 λvs H Q E h=>?_;obtain⟨kv,v,k,d,fp,r,rfl,hk,hW,hO,hR,q⟩:=h;refine⟨rfl,λar A outer s nd hr hu=>?_⟩
 refine⟨_,(eh (eN 2 nd (eI (pv 0) b_))
  (eh (eO (eM fc (pv 2) eY (eK _)) (eA (eJ (mQ (PW.pt (mP (gx (fM il (by rfl) T.iu boot_isinstance (a_ (pv 1) (a_ (ik (v:=.ty "int") rfl T.qw boot_int rfl) c_)))) (oh (gW (gx (fM il (by rfl) T.iu boot_isinstance (a_ (pv 1) (a_ (ik (v:=.ty "bool") rfl T.AJ boot_bool rfl) c_)))))))) gP (gi c_)))) eQ)
  (eh (eO (eM fc (pv 2) eY (eK _)) (eA (eJ (mQ (gx (fM il (by rfl) T.iu boot_isinstance (a_ (pv 1) (a_ (ik (v:=.ty "str") rfl T.sT boot_str rfl) c_)))) gP (gi c_)))) eQ)
  (eh (eO (eM fc (pv 2) eY (eK _)) (eA (eJ (eL Y hr I (a_ (eI (pv 0) b_) (a_ (pv 1) c_))))) eQ)
  (eh (eO (eM fc (pv 2) eY (eK _)) (eA (eJ (eL ai hr af (a_ (pv 0) (a_ (pv 1) c_))))) eQ)
  (eh (eO (eM fc (pv 2) eY (eK _)) (eA (eJ (eL am hr aj (a_ (pv 0) (a_ (pv 1) c_))))) eQ)
  (eA (eJ (eL ae hr aa (a_ (eI (pv 0) b_) (a_ (pv 1) c_))))))))))),?_⟩
 ac_rfl
 have leaf:r=some []->(0:Nat)<=sizeLine/\∀p,H p=none->Q (.ref p) (upd H p (.lst [])):=λe=>⟨Q07 _,λp hp=>by
  subst e;exact q _ _ (Same.new hp) ⟨p,rfl,eF⟩⟩
 cases k with
 |num=>
  unfold KA at hk;obtain⟨a,rfl,ha⟩:=hk;refine(Zr rfl ⟨a,_,_,Zr rfl ⟨rfl,d_.of ha,rfl,?_⟩⟩);refine ip rfl (by decide +kernel) ?_;by_cases hi:∃z,d=.int z
  . obtain⟨z,rfl⟩:=hi;unfold Own at hO;obtain⟨rfl,rfl⟩:=hO
    have er:r=none:=by
     cases r with
     |none=>rfl
     |some p=>obtain⟨hM,_⟩:=hR;cases hM with|num h=>exact absurd rfl (h _)
    subst er;refine(Zr rfl ⟨_,_,_,true,rfl,.int z,rfl,true,rfl,fw ?_⟩);refine(Zr rfl ⟨_,_,_,false,rfl,.int z,rfl,false,rfl,fw ?_⟩);exact q _ _ (Same.refl _) rfl
  . have er:r=some []:=by
     cases r with
     |none=>obtain⟨hF,_⟩:=hR;unfold eT at hF;exact absurd hF hi
     |some p=>obtain⟨hM,_⟩:=hR;cases hM with|num h=>rfl
    by_cases hb:∃z,d=.boo z
    . obtain⟨z,rfl⟩:=hb;unfold Own at hO;obtain⟨rfl,rfl⟩:=hO;refine(Zr rfl ⟨_,_,_,true,rfl,.bl z,rfl,true,rfl,fw ?_⟩);refine(Zr rfl ⟨_,_,_,true,rfl,.bl z,rfl,true,rfl,e_ ?_⟩);exact leaf er
    . have hk:W.kitOne K (.type d.tag) (.type "int")=some false:=by
       cases d <;> first|rfl|exact absurd ⟨_,rfl⟩ hi|exact absurd ⟨_,rfl⟩ hb
      exact(Zr rfl ⟨_,_,_,false,rfl,hO.ty,hk,false,rfl,e_ (e_ (leaf er))⟩)
 |fy=>
  unfold KA at hk;obtain⟨a,rfl,ha⟩:=hk;refine(Zr rfl ⟨a,_,_,Zr rfl ⟨rfl,d_.of ha,rfl,?_⟩⟩);refine gf rfl (by decide +kernel) ?_;refine ip rfl (by decide +kernel) ?_;by_cases hi:∃z,d=.str z
  . obtain⟨z,rfl⟩:=hi;unfold Own at hO;obtain⟨rfl,rfl⟩:=hO
    have er:r=none:=by
     cases r with
     |none=>rfl
     |some p=>obtain⟨hM,_⟩:=hR;cases hM with|fy h=>exact absurd rfl (h _)
    subst er;refine(Zr rfl ⟨_,_,_,true,rfl,.str z,rfl,true,rfl,fw ?_⟩);exact q _ _ (Same.refl _) rfl
  . have er:r=some []:=by
     cases r with
     |none=>obtain⟨hF,_⟩:=hR;unfold eT at hF;exact absurd hF hi
     |some p=>obtain⟨hM,_⟩:=hR;cases hM with|fy h=>rfl
    exact(Zr rfl ⟨_,_,_,false,rfl,hO.ty,HZ λz e=>hi ⟨z,e⟩,false,rfl,e_ (leaf er)⟩)
 |eX fs=>
  unfold KA at hk;obtain⟨a,b,xs,rfl,ha,hb,aq⟩:=hk;unfold Kd.W at hW;refine(Zr rfl ⟨a,_,_,Zr rfl ⟨rfl,d_.of ha,rfl,?_⟩⟩);refine gf rfl (by decide +kernel) ?_;refine gf rfl (by decide +kernel) ?_;refine ip rfl (by decide +kernel) ?_;exact(Zr rfl ⟨a,_,_,Zr rfl ⟨rfl,d_.of ha,rfl,Zr rfl ⟨b,v,xs,fs,d,fp,r,rfl,hb,aq,hW.1,hW.2.1,hW.2.2,hO,hR,q⟩⟩⟩)
 |rows key by_ fs=>
  unfold KA at hk;obtain⟨a,b,xs,rfl,ha,hb,aq⟩:=hk;refine(Zr rfl ⟨a,_,_,Zr rfl ⟨rfl,d_.of ha,rfl,?_⟩⟩);refine gf rfl (by decide +kernel) ?_;refine gf rfl (by decide +kernel) ?_;refine gf rfl (by decide +kernel) ?_;refine ip rfl (by decide +kernel) ?_;exact(Zr rfl (Zr rfl ⟨a,b,v,xs,key,by_,fs,d,fp,r,rfl,ha,hb,aq,hW,hO,hR,q⟩))
 |tree k=>
  unfold KA at hk;obtain⟨a,u,rfl,ha,hk⟩:=hk;unfold Kd.W at hW;refine(Zr rfl ⟨a,_,_,Zr rfl ⟨rfl,d_.of ha,rfl,?_⟩⟩);refine gf rfl (by decide +kernel) ?_;refine gf rfl (by decide +kernel) ?_;refine gf rfl (by decide +kernel) ?_;refine gf rfl (by decide +kernel) ?_;refine ip rfl (by decide +kernel) ?_;exact(Zr rfl (Zr rfl ⟨a,u,v,k,d,fp,r,rfl,ha,hk,hW,hO,hR,q⟩))
 |gj fs=>
  unfold KA at hk;obtain⟨a,b,xs,rfl,ha,hb,aq⟩:=hk;unfold Kd.W at hW;refine(Zr rfl ⟨a,_,_,Zr rfl ⟨rfl,d_.of ha,rfl,?_⟩⟩);refine gf rfl (by decide +kernel) ?_;refine gf rfl (by decide +kernel) ?_;refine gf rfl (by decide +kernel) ?_;refine gf rfl (by decide +kernel) ?_;refine gf rfl (by decide +kernel) ?_;exact(Zr rfl ⟨a,_,_,Zr rfl ⟨rfl,d_.of ha,rfl,Zr rfl ⟨b,v,xs,fs,d,fp,r,rfl,hb,aq,hW.1,hW.2.2.2,hO,hR,q⟩⟩⟩)
def ua (J:It) (H:Hp) (xs:List V):Prop:=(∀i x,xs[i]? =some x->J.go i H)/\(∀i x H',J.jJ i H x H'->H'=H/\xs[i]? =some x)/\J.stop xs.length H
theorem B8 {K:W.Frag}{H:Hp}{a:Addr}{xs:List V}(h:d_ K H a xs):ua (mT K a) H xs:=⟨λ_ _ e=>⟨_,_,h,e⟩,λ_ _ _ y=>⟨y.1,y.2 _ h⟩,_,h,Q00 _⟩
theorem nH {K:W.Frag}{H:Hp}{a:Addr}{xs:List V}(h:eB K H a xs):ua (mS K a) H xs:=⟨λ_ _ e=>⟨_,_,h,e⟩,λ_ _ _ y=>⟨y.1,y.2 _ h⟩,_,h,Q00 _⟩
def CW (F:Nat->List V) (n:Nat) (H:Hp) (i m:Nat) (ys:List V) (H':Hp):Prop:=m=n - i/\i<=n/\ys=F i/\(F i).length<=i/\H'=H
theorem k_ {J:It}{H:Hp}{xs:List V}{S:List V->Hp->Prop}{C:(Nat->Nat->List V->Hp->Prop)->Nat->Nat->List V->V->Hp->Prop}(hJ:ua J H xs)(F:Nat->List V)(aa:xs.length<=1000)
 (q:S (F xs.length) H) (step:∀i x,xs[i]? =some x->(∀y,F (i+1)=F i++[y]->∃Y,Y<xs.length - i/\CW F xs.length H (i+1) Y (F i++[y]) H)->(F (i+1)=F i->∃Y,Y<xs.length - i/\CW F xs.length H (i+1) Y (F i) H)->C (CW F xs.length H) i (xs.length - i) (F i) x H) (h0:F 0=[]:=by rfl):
 ∃W:Nat->Nat->List V->Hp->Prop,(∃m,W 0 m [] H)/\∀i m ys H',W i m ys H'->(J.stop i H'/\S ys H')\/(J.go i H'/\ys.length<sizeLine/\∀x U,J.jJ i H' x U->C W i m ys x U):=by
 refine⟨CW F xs.length H,(Zr rfl ⟨Q07 _,h0.symm,by rw[h0];exact Q00 0,rfl⟩),?_⟩;rintro i m ys H' ⟨rfl,hi,rfl,hl,rfl⟩;by_cases I:i<xs.length
 . refine .inr ⟨hJ.1 i _ (Q03 I),gE (by omega),λx U y=>?_⟩;obtain⟨rfl,hx⟩:=hJ.2.1 _ _ _ y;exact step i x hx (λy e=>⟨_,Q32 _ _ I,rfl,I,e.symm,by rw[e,Q0d];exact Q2c hl,rfl⟩) (λe=>⟨_,Q32 _ _ I,rfl,I,e.symm,by rw[e];omega,rfl⟩)
 . cases Nat.le_antisymm hi (Q15 I);exact .inl ⟨hJ.2.2,q⟩
theorem take_add {α:Type}{l:List α}{i:Nat}{x:α}(h:l[i]? =some x):l.take (i+1)=l.take i++[x]:=by
 rw[Q0t,h];rfl
theorem Fs.ub:∀{fs:Fs}{x:Str}{k:Kd},fs.get x=some k->∃j,fs.at j=some (x,k)
 | .nil,_,_,h=>by cases h
 | .cons y q r,x,k,h=>by
   have h:(if x=y then some q else r.get x)=some k:=h;by_cases e:x=y
   . rw[if_pos e] at h
     cases h;exact⟨0,by rw[e];rfl⟩
   . rw[if_neg e] at h;obtain⟨j,I⟩:=Fs.ub h;exact⟨j+1,I⟩
theorem Fs.B9 {fs:Fs}{i j:Nat}{x:Str}{k I:Kd}(J:fs.names.Nodup)(h1:fs.at i=some (x,k))(h2:fs.at j=some (x,I)):i=j:=by
 have U:fs.names[i]? =some x:=by rw[Fs.jz,h1];rfl
 have Y:fs.names[j]? =some x:=by rw[Fs.jz,h2];rfl
 obtain⟨l1,q1⟩:=List.getElem?_eq_some_iff.mp U;obtain⟨l2,q2⟩:=List.getElem?_eq_some_iff.mp Y;exact(Q1s J).mp (q1.trans q2.symm)
theorem B_ (i:Nat):(List.replicate i true).all id=true:=by
 rw[Q0z];intro z I;rw[List.eq_of_mem_replicate I];rfl
def nI (n:Nat):Sp:=λvs H Q _=>∃I v1 v2 k d f1 f2,vs=[I,v1,v2]/\KA H I k/\k.W/\Own H v1 d f1/\Own H v2 d f2/\eT k d/\d.dep<=n/\d.Sm/\∀H',Same H H'->Q (.bl true) H'
theorem Iy:fv XH XG (eS (top 44)):=fC
theorem Iz (n:Nat)(T:Tb mg)(I:Dn K mg "_law_alike" i7 (top 44) aa ab)(J:en P w K mg base eu (n+1) aa ab i7 (nI n)):en P w K mg base eu ((n+1)+1) aa ab i7 (nI (n+1)):=by
 refine I.F.ok Iy λvs H Q E h=>?_;obtain⟨kv,v1,v2,k,d,f1,f2,rfl,hk,hW,ag,ah,hF,ar,aj,q⟩:=h;refine⟨rfl,λa7 A outer s nd hr hu=>?_⟩
 refine⟨_,(eh (eO (eM fc (eI (pv 0) b_) eY (eK _)) (eA (eJ (ju (fM il (by rfl) T.iu boot_isinstance (a_ (pv 1) (a_ (ik (v:=.ty "int") rfl T.qw boot_int rfl) c_))) (ju (rz (fM il (by rfl) T.iu boot_isinstance (a_ (pv 1) (a_ (ik (v:=.ty "bool") rfl T.AJ boot_bool rfl) c_)))) (iO (gU fc (pv 1) (pv 2) (eK _))))))) eQ)
  (eh (eO (eM fc (eI (pv 0) b_) eY (eK _)) (eA (eJ (ju (fM il (by rfl) T.iu boot_isinstance (a_ (pv 1) (a_ (ik (v:=.ty "str") rfl T.sT boot_str rfl) c_))) (iO (gU fc (pv 1) (pv 2) (eK _)))))) eQ)
  (eh (eO (eM fc (eI (pv 0) b_) eY (eK _)) (eh (eO (PW.pt (g9 (gW (gx (fM il (by rfl) T.iu boot_isinstance (a_ (pv 1) (a_ (ik (v:=.ty "dict") rfl T.AK boot_dict rfl) c_))))) (hU (eM jw (fM rY (by rfl) T.gM PySem.boot_len (a_ (pv 1) c_)) (fM gY (by rfl) T.gM PySem.boot_len (a_ (eI (pv 0) b_) c_)) (eK _))))) (eA (eJ g8)) eQ)
  (eh (hX PassesOwn.never rfl (jv (eI (pv 0) b_)) (iZ rfl (gQ (fL (i:=3) nd rfl gc) (gQ (fL (i:=4) nd rfl gc) iY))) (eA (eO (PW.pt (g9 (pI (zG hu (pv 3) (pv 1)) (by with_unfolding_all rfl)) (hU (gW (gx (eL J hr I (a_ (pv 4) (a_ (hZ hu (pv 1) (pv 3) (λ_ _=>rfl)) (a_ (hZ hu (pv 2) (pv 3) (λ_ _=>rfl)) c_))))))))) (eA (eJ g8)) eQ)))
  (eA (eJ g8)))) eQ)
  (eh (eO (eM fc (eI (pv 0) b_) eY (eK _)) (eh (eO (PW.pt (g9 (gW (gx (fM il (by rfl) T.iu boot_isinstance (a_ (pv 1) (a_ (ik (v:=.ty "list") rfl T.ma boot_list rfl) c_))))) (hU (eM jw (fM rY (by rfl) T.gM PySem.boot_len (a_ (pv 1) c_)) (fM gY (by rfl) T.gM PySem.boot_len (a_ (pv 2) c_)) (eK _))))) (eA (eJ g8)) eQ)
  (eA (eJ (fM (rZ rfl) (by rfl) T.sR boot_all (a_ (kL (g:=(pO K 2 (lG (gS 0) (lG (gS 1) pN)))) (tt:=kK) (te:=(jg _ _ _ (gy (rL (gy (tC (.str "record")) (gy (gT (i3 K) (fT 2) (tC (.int 3))) iz))) (gy (fT 0) (gy (fT 1) iz))))) (own:=["_law_a","_law_b"]) rfl (i5 (N:=XH) (sc:=eS (top 44))) (Ai rfl T.AI (a_ (pv 1) (a_ (pv 2) c_))) (λ_ _ _ _ _=>(iZ rfl (gQ (fL (i:=0) (show(XE:List Str).Nodup by decide +kernel) rfl (Or.inl rfl) (.inr rfl)) (gQ (fL (i:=1) (show(XE:List Str).Nodup by decide +kernel) rfl (Or.inl rfl) (.inr rfl)) iY)))) (λ_ _ _ _ _=>m8) (λ_ _ _ _ _=>(eL J hr I (a_ (gd (a_ eY (a_ (eI (pv 2) b_) c_))) (a_ (pv 0) (a_ (pv 1) c_)))))) c_))))) eQ)
  (eh (eO (PW.pt (g9 (gW (gx (fM il (by rfl) T.iu boot_isinstance (a_ (pv 1) (a_ (ik (v:=.ty "tuple") rfl T.oR boot_tuple rfl) c_))))) (hU (eM jw (fM rY (by rfl) T.gM PySem.boot_len (a_ (pv 1) c_)) b_ (eK _))))) (eA (eJ g8)) eQ)
  (eh (eO (eM fc (eI (pv 0) b_) eY (eK _)) (eh (eO (PW.pt (g9 (gW (gx (fM il (by rfl) T.iu boot_isinstance (a_ (eI (pv 1) b_) (a_ (ik (v:=.ty "str") rfl T.sT boot_str rfl) c_))))) (hU (eM jw (eI (pv 1) b_) (eI (pv 2) b_) (eK _))))) (eA (eJ g8)) eQ)
  (eh (oH (i:=4) nd rfl gc (g:=(gS 0)) (tt:=(kH (gT kF (gT (i3 K) (fT 0) (tC (.int 0))) (gT (i3 K) (fT 3) (tC (.int 0)))))) (te:=(gT (i3 K) (fT 0) (tC (.int 1)))) (own:=["_law_pair"]) rfl (i5 (N:=XH) (sc:=eS (top 44))) (jv (eI (pv 0) b_)) (λ_ _ _ _ _=>(fL (i:=0) (show(["_law_pair","_law_kind_here","_law_found","_law_due","_law_name","_law_inner"]:List Str).Nodup by decide +kernel) rfl (Or.inl rfl) (.inr rfl))) (λ_ _ _ _ _=>(lX (eM fc (eI (pv 0) b_) (eI (pv 3) b_) (eK _)))) (λ_ _ _ _ _=>(eI (pv 0) b_)))
  (eA (eJ (eL J hr I (a_ (gG (pv 4) b_) (a_ (eI (pv 1) b_) (a_ (eI (pv 2) b_) c_)))))))) eQ)
  (eh (eO (PW.pt (g9 (gW (gx (fM il (by rfl) T.iu boot_isinstance (a_ (eI (pv 1) b_) (a_ (ik (v:=.ty "list") rfl T.ma boot_list rfl) c_))))) (hU (eM jw (fM gY (by rfl) T.gM PySem.boot_len (a_ (eI (pv 1) b_) c_)) (fM gY (by rfl) T.gM PySem.boot_len (a_ (eI (pv 2) b_) c_)) (eK _))))) (eA (eJ g8)) eQ)
  (eh (eO (gW (gx (eL J hr I (a_ (eI (pv 0) b_) (a_ (eI (pv 1) b_) (a_ (eI (pv 2) b_) c_)))))) (eA (eJ g8)) eQ)
  (eA (eJ (fM (rZ rfl) (by rfl) T.sR boot_all (a_ (kL (g:=(pO K 2 (lG (gS 0) (lG (gS 1) pN)))) (tt:=kK) (te:=(jg _ _ _ (gy (fT 2) (gy (fT 0) (gy (fT 1) iz))))) (own:=["_law_a","_law_b"]) rfl (i5 (N:=XH) (sc:=eS (top 44))) (Ai rfl T.AI (a_ (eI (pv 1) b_) (a_ (eI (pv 2) b_) c_))) (λ_ _ _ _ _=>(iZ rfl (gQ (fL (i:=0) (show(XE:List Str).Nodup by decide +kernel) rfl (Or.inl rfl) (.inr rfl)) (gQ (fL (i:=1) (show(XE:List Str).Nodup by decide +kernel) rfl (Or.inl rfl) (.inr rfl)) iY)))) (λ_ _ _ _ _=>m8) (λ_ _ _ _ _=>(eL J hr I (a_ (pv 2) (a_ (pv 0) (a_ (pv 1) c_)))))) c_)))))))))))),?_⟩
 ac_rfl
 cases k with
 |num=>
  unfold KA at hk;obtain⟨a,rfl,ha⟩:=hk;unfold eT at hF;obtain⟨z,rfl⟩:=hF;unfold Own at ag ah;obtain⟨rfl,rfl⟩:=ag;obtain⟨rfl,rfl⟩:=ah;refine h9 rfl ha rfl (by decide +kernel) ?_;refine(Zr rfl ⟨_,_,_,true,rfl,.int z,rfl,true,rfl,fw ?_⟩);refine(Zr rfl ⟨_,_,_,false,rfl,.int z,rfl,false,rfl,true,rfl,fw ?_⟩);refine(Zr rfl (Zr rfl ⟨rfl,?_⟩));rw[decide_eq_true rfl];exact q _ (Same.refl _)
 |fy=>
  unfold KA at hk;obtain⟨a,rfl,ha⟩:=hk;unfold eT at hF;obtain⟨z,rfl⟩:=hF;unfold Own at ag ah;obtain⟨rfl,rfl⟩:=ag;obtain⟨rfl,rfl⟩:=ah;refine fU rfl ha rfl (by decide +kernel) ?_;refine h9 rfl ha rfl (by decide +kernel) ?_;refine(Zr rfl ⟨_,_,_,true,rfl,.str _,rfl,true,rfl,fw ?_⟩);refine(Zr rfl (Zr rfl ⟨rfl,?_⟩));rw[decide_eq_true rfl];exact q _ (Same.refl _)
 |eX fs=>
  unfold KA at hk;obtain⟨a,b,xs,rfl,ha,hb,ai⟩:=hk;unfold eT at hF;obtain⟨m,rfl,hF⟩:=hF;unfold Own at ag ah;obtain⟨c1,aE,g1,rfl,U,rfl,ak⟩:=ag;obtain⟨c2,a8,g2,rfl,ac,rfl,ao⟩:=ah;unfold Kd.W at hW;unfold D.Sm at aj;simp only[D.dep] at ar;have aL:m.dep<=n:=by omega
  refine fU rfl ha rfl (by decide +kernel) ?_;refine fU rfl ha rfl (by decide +kernel) ?_;refine h9 rfl ha rfl (by decide +kernel) ?_;have el:aE.length=xs.length:=by rw[eV.len ak,FA.len fs ai,hF.names]
  refine(Zr rfl ⟨_,_,_,true,rfl,.dK U,rfl,true,rfl,e_ ?_⟩);refine(Zr rfl (.inl ⟨c1,Zr rfl ⟨U,Zr rfl ⟨a,_,_,Zr rfl ⟨rfl,d_.of ha,rfl,b,Zr rfl ⟨.inr (d_.of hb),rfl,Zr rfl ?_⟩⟩⟩⟩⟩));refine kJ (show V.int (aE.length:Nat)=V.int (xs.length:Nat) by rw[el]) ?_;refine(Zr rfl ⟨a,_,_,Zr rfl ⟨rfl,d_.of ha,rfl,b,rfl,⟨_,d_.of hb⟩,kB (xs:=xs) (λi σ H'=>Same H H'/\∃x y,σ=[some (.ref a),some (.ref c1),some (.ref c2),x,y]) ⟨Same.refl _,_,_,rfl⟩ ?_ ?_ ?_⟩⟩)
  . rintro i σ H' _ ⟨s2,_⟩;exact d_.of (s2 _ _ hb)
  . rintro i v σ H' hv ⟨s2,x,y,rfl⟩;obtain⟨c,u,nm,k,rfl,ae,hc,hk⟩:=FA.get fs ai hv;obtain⟨d,hd,am⟩:=hF.get (Fs.l8 hW.1 ae);obtain⟨e1,f1,aU,aM,_⟩:=eV.val _ ak hd;obtain⟨e2,f2,aV,aP,_⟩:=eV.val _ ao hd;have g1:f_ H' c1 (.str nm) (some e1):=by have:=f_.k (k:=Sum.inr nm) (s2 _ _ U);rw[aU] at this;exact this
    have g2:f_ H' c2 (.str nm) (some e2):=by have:=f_.k (k:=Sum.inr nm) (s2 _ _ ac);rw[aV] at this;exact this
    refine⟨c,Zr rfl ⟨d_.of (s2 _ _ hc),rfl,_,Zr rfl ⟨_,Zr rfl ⟨rfl,?_⟩⟩⟩⟩;refine(Zr rfl (Zr rfl ⟨c1,Zr rfl ⟨g1,false,rfl,e_ ?_⟩⟩));refine(Zr rfl (Zr rfl (Zr rfl ⟨c1,e1,rfl,g1,Zr rfl (Zr rfl ⟨c2,e2,rfl,g2,u,e1,e2,k,d,f1,f2,rfl,KA.mono (Tu.of s2) k hk,Fs.j_ hW.2.2 ae,Own.same s2 aM,Own.same s2 aP,am,Q0f (Ds.sP hd) aL,Ds.tH aj.2 hd,λH3 s3=>⟨true,rfl,e_ ?_⟩⟩)⟩)));exact⟨s2.trans s3,_,_,rfl⟩
  . rintro σ H' ⟨s2,_⟩;exact q _ s2
 |rows key by_ fs=>
  unfold KA at hk;obtain⟨a,b,xs,rfl,ha,hb,ai⟩:=hk;unfold eT at hF;obtain⟨rs,rfl,am,a6,a9⟩:=hF;unfold Own at ag ah;obtain⟨c1,Y,g1,rfl,U,rfl,ak⟩:=ag;obtain⟨c2,af,g2,rfl,ac,rfl,ao⟩:=ah;unfold Kd.W at hW;unfold D.Sm at aj;simp only[D.dep] at ar;have al:Y.length=(gm rs).len:=eW.len _ ak;have ap:af.length=(gm rs).len:=eW.len _ ao;have aQ:=aj.1;refine fU rfl ha rfl (by decide +kernel) ?_;refine fU rfl ha rfl (by decide +kernel) ?_;refine fU rfl ha rfl (by decide +kernel) ?_;refine h9 rfl ha rfl (by decide +kernel) ?_;refine(Zr rfl ⟨_,_,_,true,rfl,.lst U,rfl,true,rfl,e_ ?_⟩);refine(Zr rfl (.inr ⟨c1,Zr rfl ⟨.inl (eB.of U),Zr rfl ⟨c2,Zr rfl ⟨.inl (eB.of ac),rfl,Zr rfl (kJ (show V.int (Y.length:Nat)=V.int (af.length:Nat) by rw[al,ap]) ?_)⟩⟩⟩⟩));refine(Zr rfl (Zr rfl ⟨c1,c2,rfl,⟨_,eB.of U⟩,⟨_,eB.of ac⟩,λi m zs H'=>m=Y.length - i/\i<=Y.length/\zs=(List.replicate i true).map V.bl/\Same H H',⟨Y.length,rfl,Q07 _,rfl,Same.refl _⟩,?_⟩));rintro i mm zs H' ⟨rfl,aT,rfl,s2⟩;by_cases hi:i<Y.length
  . have av:i<af.length:=by omega
    refine .inr ⟨⟨Y,af,Y[i],af[i],eB.of (s2 _ _ U),eB.of (s2 _ _ ac),Q03 hi,Q03 av⟩,by rw[Q04,Q1l];exact gE (by omega),λx aW y=>?_⟩;obtain⟨p,x1,x2,hp,rfl,e1,e2,rfl⟩:=y;have e1:=e1 _ (eB.of (s2 _ _ U));have e2:=e2 _ (eB.of (s2 _ _ ac));obtain⟨d,fa,ae,aw,_⟩:=eW.get _ ak e1;obtain⟨d',fb,an,ax,_⟩:=eW.get _ ao e2;rw[ae] at an
    cases an;obtain⟨m,hm,rfl⟩:=Bd ae;have aX:=tL m hm;have s3:Same H' (upd H' p (.tup [x1,x2])):=Same.new hp;have sa:=s2.trans s3;refine⟨p,Zr rfl ⟨d_.of eF,rfl,_,Zr rfl ⟨_,Zr rfl ⟨rfl,rfl,yes (fw ?_)⟩⟩⟩⟩;refine(Zr rfl ⟨a,_,_,Zr rfl ⟨rfl,d_.of (sa _ _ ha),rfl,gh,λt ht=>?_⟩⟩);have st:Same (upd H' p (.tup [x1,x2])) (upd (upd H' p (.tup [x1,x2])) t (.tup [.str "record",.ref b])):=Same.new ht;have sb:=sa.trans st;refine(Zr rfl (Zr rfl ⟨.ref t,x1,x2,.eX fs,.dct m,fa,fb,rfl,?_,?_,Own.same sb aw,Own.same sb ax,?_,by simp only[D.dep];omega,tK aj.2 m hm,λH3 s4=>?_⟩))
    . unfold KA;exact⟨t,b,xs,rfl,eF,sb _ _ hb,FA.mono (Tu.of sb) fs ai⟩
    . unfold Kd.W;exact⟨hW.1,hW.2.1,hW.2.2.1⟩
    . unfold eT;exact⟨m,rfl,am m hm⟩
    . refine⟨Y.length - (i+1),by omega,rfl,hi,?_,sb.trans s4⟩;rw[List.replicate_succ',Q0j];rfl
  . refine .inl ⟨⟨Y,af,eB.of (s2 _ _ U),eB.of (s2 _ _ ac),.inl (Q15 hi)⟩,λp hp=>⟨p,List.replicate i true,rfl,eB.of eF,?_⟩⟩;rw[B_];exact q _ (s2.trans (Same.new hp))
 |tree k=>
  have aY:=hk;unfold KA at hk;obtain⟨a,u,rfl,ha,aZ⟩:=hk;unfold eT at hF;have a1:=hW;unfold Kd.W at hW;obtain⟨x,y,t,as,rfl,a2,ai⟩:=hF.shape;obtain⟨c1,u1,w1,ay,ba,rfl,U,rfl,az,aF⟩:=ag.pair;obtain⟨c2,u2,w2,aA,bb,rfl,ac,rfl,aB,aG⟩:=ah.pair;unfold Own at aF aG;obtain⟨l1,Y,g1,rfl,al,rfl,ak⟩:=aF;obtain⟨l2,af,g2,rfl,ap,rfl,ao⟩:=aG;simp only[D.dep,Ds.dep] at ar;unfold D.Sm Ds.Sm at aj;obtain⟨_,aH,aq⟩:=aj;unfold Ds.Sm at aq;have aC:=aq.1;unfold D.Sm at aC;have aQ:=aC.1;have a3:Y.length=as.len:=eW.len _ ak;have a4:af.length=as.len:=eW.len _ ao;refine fU rfl ha rfl (by decide +kernel) ?_;refine fU rfl ha rfl (by decide +kernel) ?_;refine fU rfl ha rfl (by decide +kernel) ?_;refine fU rfl ha rfl (by decide +kernel) ?_;refine(Zr rfl ⟨_,_,_,true,rfl,.tup U,rfl,true,rfl,e_ ?_⟩);refine(Zr rfl (.inr ⟨c1,Zr rfl ⟨.inr (d_.of U),rfl,Zr rfl (kJ rfl ?_)⟩⟩));refine fU rfl ha rfl (by decide +kernel) ?_;refine(Zr rfl ⟨c1,_,_,Zr rfl ⟨rfl,d_.of U,rfl,_,_,_,true,rfl,.lst al,rfl,true,rfl,e_ ?_⟩⟩);refine(Zr rfl ⟨c1,_,_,Zr rfl ⟨rfl,d_.of U,rfl,l1,Zr rfl ⟨.inl (eB.of al),Zr rfl ⟨c2,_,_,Zr rfl ⟨rfl,d_.of ac,rfl,l2,Zr rfl ⟨.inl (eB.of ap),rfl,Zr rfl (kJ (show V.int (Y.length:Nat)=V.int (af.length:Nat) by rw[a3,a4]) ?_)⟩⟩⟩⟩⟩⟩);refine(Zr rfl ⟨a,_,_,Zr rfl ⟨rfl,d_.of ha,rfl,Zr rfl ⟨c1,_,_,Zr rfl ⟨rfl,d_.of U,rfl,Zr rfl ⟨c2,_,_,Zr rfl ⟨rfl,d_.of ac,rfl,u,u1,u2,k,t,ay,aA,rfl,aZ,hW,az,aB,a2,by omega,aH,λH1 s1=>⟨true,rfl,e_ ?_⟩⟩⟩⟩⟩⟩⟩);refine(Zr rfl ⟨c1,_,_,Zr rfl ⟨rfl,d_.of (s1 _ _ U),rfl,Zr rfl ⟨c2,_,_,Zr rfl ⟨rfl,d_.of (s1 _ _ ac),rfl,l1,l2,rfl,⟨_,eB.of (s1 _ _ al)⟩,⟨_,eB.of (s1 _ _ ap)⟩,λi m zs H'=>m=Y.length - i/\i<=Y.length/\zs=(List.replicate i true).map V.bl/\Same H H',⟨Y.length,rfl,Q07 _,rfl,s1⟩,?_⟩⟩⟩⟩);rintro i mm zs H' ⟨rfl,aT,rfl,s2⟩;by_cases hi:i<Y.length
  . have av:i<af.length:=by omega
    refine .inr ⟨⟨Y,af,Y[i],af[i],eB.of (s2 _ _ al),eB.of (s2 _ _ ap),Q03 hi,Q03 av⟩,by rw[Q04,Q1l];exact gE (by omega),λx aW y=>?_⟩;obtain⟨p,x1,x2,hp,rfl,e1,e2,rfl⟩:=y;have e1:=e1 _ (eB.of (s2 _ _ al));have e2:=e2 _ (eB.of (s2 _ _ ap));obtain⟨d,fa,ae,aw,_⟩:=eW.get _ ak e1;obtain⟨d',fb,an,ax,_⟩:=eW.get _ ao e2;rw[ae] at an
    cases an;have aX:=Ds.kM ae;have s3:Same H' (upd H' p (.tup [x1,x2])):=Same.new hp;have sa:=s2.trans s3;refine⟨p,Zr rfl ⟨d_.of eF,rfl,_,Zr rfl ⟨_,Zr rfl ⟨rfl,rfl,yes (fw ?_)⟩⟩⟩⟩;refine(Zr rfl (Zr rfl (Zr rfl ⟨.ref a,x1,x2,.tree k,d,fa,fb,rfl,KA.mono (Tu.of sa) _ aY,a1,Own.same sa aw,Own.same sa ax,(by unfold eT;exact ir.at ai ae),by omega,Ds.tG aC.2 ae,λH3 s4=>?_⟩)));refine⟨Y.length - (i+1),by omega,rfl,hi,?_,sa.trans s4⟩;rw[List.replicate_succ',Q0j];rfl
  . refine .inl ⟨⟨Y,af,eB.of (s2 _ _ al),eB.of (s2 _ _ ap),.inl (Q15 hi)⟩,λp hp=>⟨p,List.replicate i true,rfl,eB.of eF,?_⟩⟩;rw[B_];exact q _ (s2.trans (Same.new hp))
 |gj fs=>
  unfold KA at hk;obtain⟨a,b,xs,rfl,ha,hb,ai⟩:=hk;unfold eT at hF;obtain⟨x,v',rfl,hE⟩:=hF;obtain⟨c1,z1,u1,bc,ay,rfl,U,rfl,aI,az⟩:=ag.pair;obtain⟨c2,z2,u2,bd,aA,rfl,ac,rfl,aJ,aB⟩:=ah.pair;unfold Own at aI aJ;obtain⟨rfl,rfl⟩:=aI;obtain⟨rfl,rfl⟩:=aJ;unfold Kd.W at hW;simp only[D.dep,Ds.dep] at ar;unfold D.Sm Ds.Sm at aj;obtain⟨_,aH,aq⟩:=aj;unfold Ds.Sm at aq;obtain⟨k,au,am⟩:=tU hE;obtain⟨j,hj⟩:=Fs.ub au;obtain⟨c,u,aD,hc,a5⟩:=FA.at ai hj;have be:j<xs.length:=(List.getElem?_eq_some_iff.mp aD).1;have bf:xs.length<=12:=by rw[FA.len fs ai];exact hW.2.1
  refine fU rfl ha rfl (by decide +kernel) ?_;refine fU rfl ha rfl (by decide +kernel) ?_;refine fU rfl ha rfl (by decide +kernel) ?_;refine fU rfl ha rfl (by decide +kernel) ?_;refine(Zr rfl ⟨_,_,_,true,rfl,.tup U,rfl,true,rfl,e_ ?_⟩);refine(Zr rfl (.inr ⟨c1,Zr rfl ⟨.inr (d_.of U),rfl,Zr rfl (kJ rfl ?_)⟩⟩));refine h9 rfl ha rfl (by decide +kernel) ?_;refine(Zr rfl ⟨c1,_,_,Zr rfl ⟨rfl,d_.of U,rfl,_,_,_,true,rfl,.str _,rfl,true,rfl,e_ ?_⟩⟩);refine(Zr rfl ⟨c1,_,_,Zr rfl ⟨rfl,d_.of U,rfl,Zr rfl ⟨c2,_,_,Zr rfl ⟨rfl,d_.of ac,rfl,rfl,Zr rfl (kJ rfl ?_)⟩⟩⟩⟩);refine(Zr rfl ⟨a,_,_,Zr rfl ⟨rfl,d_.of ha,rfl,b,rfl,⟨_,d_.of hb⟩,k_ (B8 (d_.of hb)) (λi=>if j<i then [u] else []) (by omega) (λp hp=>?_) (λi z hv add skip=>?_) (if_neg (Q2 _))⟩⟩)
  . rw[if_pos (List.getElem?_eq_some_iff.mp aD).1];have s1:Same H (upd H p (.lst [u])):=Same.new hp
    exact(Zr rfl ⟨p,_,_,Zr rfl ⟨rfl,eB.of eF,gz (j:=0) rfl,Zr rfl ⟨c1,_,_,Zr rfl ⟨rfl,d_.of (s1 _ _ U),rfl,Zr rfl ⟨c2,_,_,Zr rfl ⟨rfl,d_.of (s1 _ _ ac),rfl,
     u,u1,u2,k,v',ay,aA,rfl,KA.mono (Tu.of s1) k a5,Fs.o7 hW.2.2.2 au,Own.same s1 az,Own.same s1 aB,am,by omega,aq.1,λH2 s2=>q _ (s1.trans s2)⟩⟩⟩⟩⟩⟩)
  . obtain⟨d,w',nm,k',rfl,ae,hd,bg⟩:=FA.get _ ai hv;refine⟨rfl,Zr rfl ⟨d,_,_,Zr rfl ⟨rfl,d_.of hd,rfl,Zr rfl ⟨c2,_,_,Zr rfl ⟨rfl,d_.of ac,rfl,rfl,Zr rfl (fW (λcc=>?_) (λcc=>skip ?_))⟩⟩⟩⟩⟩
    . have e:nm=x:=by
       have:=of_decide_eq_true cc;injection this
      subst e
      cases Fs.B9 hW.1 ae hj;rw[aD] at hv
      cases hv;rw[hc] at hd
      cases hd;refine(Zr rfl ⟨c,_,_,Zr rfl ⟨rfl,d_.of hc,rfl,add _ ?_⟩⟩);rw[if_neg (Q0p _),if_pos (Q1 _)];rfl
    . have ne:i≠j:=λe=>by
       subst e;rw[ae] at hj
       cases hj;exact cc (decide_eq_true rfl)
      by_cases aK:j<i
      . rw[if_pos aK,if_pos (by omega)]
      . rw[if_neg aK,if_neg (by omega)]
theorem Ca (T:Tb mg)(I:Dn K mg "_law_alike" i7 (top 44) J U):∀n:Nat,en P w K mg base eu (n+1) J U i7 (nI n)
 |0=>by
  have Y:∀vs H Q E,¬nI 0 vs H Q E:=λvs H Q E h=>by
   obtain⟨_,_,_,_,d,_,_,_,_,_,_,_,_,hd,_⟩:=h;have:=d.jQ;omega
  exact⟨λvs H Q E h=>absurd h (Y vs H Q E),λA outer s H args us vs Q E _ _ _ _ h=>absurd h (Y vs H Q E)⟩
 |n+1=>Iz n T I (Ca T I n)
theorem Cb (ns:List Int)(k:Kd)(U:k.W)(room:Nat)(n:Int)(Y:room<8):qS (val ns k room n).1:=by
 intro s J;have I:=l_ ns k U room n Y;rw[J] at I
 cases k with
 |fy=>
  have ev:(val ns .fy room n).1=.str (fy ns (n+1)):=by simp only[val]
  rw[ev] at J
  cases J;unfold fy;rw[qJ];split <;> omega
 |num=>unfold eT at I;obtain⟨_,e⟩:=I;cases e
 |eX fs=>unfold eT at I;obtain⟨_,e,_⟩:=I;cases e
 |rows key by_ fs=>unfold eT at I;obtain⟨_,e,_⟩:=I;cases e
 |tree q=>unfold eT at I;obtain⟨_,_,_,_,e,_⟩:=I.shape;cases e
 |gj fs=>unfold eT at I;obtain⟨_,_,e,_⟩:=I;cases e
theorem Cc:∀{ps:List Str}{k I:Kd},k.W->iV ps k=some I->I.W
 |[],k,I,w,h=>by cases h;exact w
 |x::r,k,I,w,h=>by
  obtain⟨fs,J,rfl,h1,h2⟩:=qQ h;unfold Kd.W at w;exact Cc (Fs.o7 w.2.2 h1) h2
def nJ (p:Key):Prop:=∀s,p=Sum.inr s->s.length<=100
def ig (fs:Fs) (m:Ds):Prop:=∀ps I e,iV ps (.eX fs)=some I->ib ps (.dct m)=some e->(∀q,I≠ .eX q)->qS e
theorem ig.val {ns:List Int}{fs:Fs}{room:Nat}{n:Int}(J:(Kd.eX fs).W)(U:room<8):ig fs (e9 ns fs room n).1:=λps Y e I he hn=>by
 obtain⟨n',h⟩:=Bg ns room n I;have ev:(Pb.val ns (.eX fs) room n).1=.dct (e9 ns fs room n).1:=by simp only[Pb.val]
 rw[ev,he] at h
 cases h;exact Cb ns Y (Cc J I) room n' U
theorem ig.upd {fs:Fs}{m:Ds}{x:Str}{p:Key}(h:ig fs m)(hp:nJ p):ig fs (m.upd x (kD p)):=λps kl e U Y hn=>by
 cases ps with
 |nil=>cases U;exact absurd rfl (hn fs)
 |cons y r=>
  have I:((m.upd x (kD p)).get y).bind (ib r)=some e:=Y;by_cases c:x∈m.names
  . by_cases J:y=x
    . rw[J,Ds.tT _ c] at I;have I:ib r (kD p)=some e:=I
      cases r with
      |nil=>
       cases I;intro s hs
       cases p with
       |inl z=>cases hs
       |inr z=>cases hs;exact hp _ rfl
      |cons z r=>cases p <;> cases I
    . rw[Ds.BG J] at I;exact h (y::r) kl e U I hn
  . rw[Ds.tW c] at Y;exact h _ kl e U Y hn
theorem ig.key {fs:Fs}{m:Ds}{x:Str}(h:ig fs m)(J:fs.pl x):nJ (keyOf m x):=λs I=>by
 obtain⟨k,U,hp⟩:=J;unfold keyOf at I;split at I
 . cases I
 . rename_i s' e
   cases I;refine h [x] k (.str s) ?_ ?_ (λq z=>by subst z;exact hp.elim) s rfl
   . show(fs.get x).bind (iV [])=some k;rw[U];rfl
   . show(m.get x).bind (ib [])=_;rw[e];rfl
 . cases I
theorem Cd {ns:List Int}{key by_:Str}{fs:Fs}{room:Nat}{ps:List Key}{n:Int}(I:(Kd.rows key by_ fs).W)(U:room<8)(hp:∀p∈ps,nJ p):∀i,∀m∈(g_ ns key by_ fs room (ps.take i) n).1,ig fs m
 |0,m,h=>by rw[Q2a] at h;cases h
 |i+1,m,h=>by
  have J:=Cd (ns:=ns) (n:=n) I U hp i
  cases e:ps[i]? with
  |none=>
   have:ps.take (i+1)=ps.take i:=by rw[Q0t,e];exact Q18 _
   rw[this] at h;exact J m h
  |some p=>
   rw[BL e] at h;generalize g_ ns key by_ fs room (ps.take i) n=q at J h;unfold Kd.W at I;have Y:ig fs (e9 ns fs room (q.2+1)).1:=ig.val (by unfold Kd.W;exact⟨I.1,I.2.1,I.2.2.1⟩) U;unfold mE at h;split at h
   . rcases List.mem_append.mp h with z|z
     . exact J m z
     . rw[List.mem_singleton.mp z];refine ig.upd ?_ (hp p (Q0m e));split
       . rename_i hc;exact Y.upd ((J _ (tX hc.2.1)).key (I.2.2.2.2.resolve_left hc.1))
       . exact Y
   . exact J m h
theorem Ce {y q:Key}:j5 (kV y) (kV q)=true↔y=q:=by
 constructor
 . intro h
   cases y <;> cases q
   . exact congrArg Sum.inl (eq_of_beq (α:=Int) h)
   . cases h
   . cases h
   . exact congrArg Sum.inr (eq_of_beq (α:=Str) h)
 . rintro rfl
   cases y
   . exact BEq.rfl (α:=Int)
   . exact BEq.rfl (α:=Str)
theorem Cf {q:Key}{ps:List Key}:inV (kV q) (ps.map kV)=true↔q∈ps:=by
 unfold inV;rw[Q27,Q2b];constructor
 . rintro⟨y,I,e⟩;rw[<-Ce.mp e];exact I
 . exact λh=>⟨q,h,Ce.mpr rfl⟩
theorem uc (q:Key):jM (kV q)=true:=by cases q <;> rfl
theorem flat_keys {ps:List Key}:(ps.map kV).all jM=true:=by
 rw[List.all_map,Q0z];exact λq _=>uc q
theorem IA {H:Hp}{o:Option Kd}{k:Kd}{d:D}{v:V}{U:List Addr}(e:o=some k)(hp:jR k)(I:eT k d)(J:Own H v d U):∃q,v=kV q/\d=kD q/\i_ o q:=by
 subst e
 cases k with
 |num=>
  unfold eT at I;obtain⟨z,rfl⟩:=I;unfold Own at J;exact⟨.inl z,J.1,rfl,trivial⟩
 |fy=>
  unfold eT at I;obtain⟨z,rfl⟩:=I;unfold Own at J;exact⟨.inr z,J.1,rfl,trivial⟩
 |_=>exact hp.elim
def Cg (K:W.Frag) (Pt:Addr) (N:Nat):Sp:=λvs H Q _=>∃a b ns n pk pb xs key by_ fs,∃m:Nat,vs=[.ref a,.ref b,.ref pk,.int m]/\G0 K H a b ns n/\eU Pt gH gI H/\H pk=some (.tup [.str "rows",.str key,.str by_,.ref pb])/\H pb=some (.tup xs)/\FA H xs fs/\(Kd.rows key by_ fs).W/\m<=30/\n+100<=1000000000000/\24<=N/\
 ∀D (ps:List Key) n' H',ff b Pt H H'->H' b=some (.lst [.int n'])->n<=n'->n'<=n+m->eU Pt gH gI H'->H D=none->D≠b->H' D=some (.lst (ps.map kV))->ps.Nodup->ps.length<=m->(∀p∈ps,i_ (fs.get key) p/\nJ p)->Q (.ref D) H'
theorem IB:fv XX XF (eS (top 52)):=fC
theorem IC {Pt:Addr}(N:Nat)(T:Tb mg)(aa:Dn K mg "_law_pool" kX (top 52) ab ac)(I:Dn K mg "_law_value" gZ (top 43) J U)(Y:en P w K mg base eu (2 * N+5) J U gZ (kq K Pt N)):en P w K mg base eu (2 * N+6) ab ac kX (Cg K Pt N):=by
 refine aa.F.ok IB λvs H Q E h=>?_;obtain⟨a,b,ns,n,pk,pb,xs,key,by_,fs,m,rfl,g,hT,av,aw,an,hW,hm,hn,hN,q⟩:=h;refine⟨rfl,λaP A outer s nd hr hu=>?_⟩
 refine⟨_,(eh (eN 4 nd (gG (kL (g:=(gS 0)) (tt:=(kH (gT kF (gT (i3 K) (fT 0) (tC (.int 0))) (gT (i3 K) (fT 3) (tC (.int 1)))))) (te:=(gT (i3 K) (fT 0) (tC (.int 1)))) (own:=["_law_pair"]) rfl (i5 (N:=XX) (sc:=eS (top 52))) (jv (eI (pv 2) b_)) (λ_ _ _ _ _=>(fL (i:=0) (show(["_law_pair","_law_script","_law_at","_law_kind_here","_law_many","_law_lead","_law_pool_here","_law_k","_law_one"]:List Str).Nodup by decide +kernel) rfl (Or.inl rfl) (.inr rfl))) (λ_ _ _ _ _=>(lX (eM fc (eI (pv 0) b_) (eI (pv 3) b_) (eK _)))) (λ_ _ _ _ _=>(eI (pv 0) b_))) b_))
  (eh (eN 5 nd (gi c_))
  (eh (hX PassesOwn.never rfl (ky rfl T.kU (a_ (pv 3) c_)) (fL (i:=6) nd rfl gc) (eh (eN 7 nd (eL Y hr I (a_ (pv 0) (a_ (pv 1) (a_ (pv 4) (a_ b_ c_))))))
  (eA (eO (eM zv (pv 7) (pv 5) (by with_unfolding_all rfl)) (eA (j1 (lV PySem.F.plainAttrs_list PySem.F.slot_list_append PySem.F.type_list_append lW (pv 5) (a_ (pv 7) c_)))) eQ))))
  (eA (eJ (pv 5)))))),?_⟩
 ac_rfl
 unfold Kd.W at hW;obtain⟨aH,aQ,aI,aF,aT⟩:=hW;obtain⟨k,ax,af⟩:=aF;obtain⟨j,hj⟩:=Fs.ub ax;have aJ:=FA.len fs an
 have ao:j<xs.length:=by
  rw[aJ];have:=Fs.jz fs j;rw[hj] at this;exact(List.getElem?_eq_some_iff.mp this).1
 obtain⟨cj,uj,aU,kj,ej,am,ay,az⟩:=FA.get fs an (Q03 ao);rw[hj] at am
 cases am;refine(Zr rfl ⟨pk,_,_,Zr rfl ⟨rfl,d_.of av,rfl,pb,rfl,⟨_,d_.of aw⟩,k_ (B8 (d_.of aw)) (λi=>if j<i then [uj] else []) (by omega) (λp hp=>?_) (λi z hv add skip=>?_) (if_neg (Q2 _))⟩⟩)
 case refine_2=>
  obtain⟨d,w',nm,k',rfl,aA,hd,aV⟩:=FA.get _ an hv;refine⟨rfl,Zr rfl ⟨d,_,_,Zr rfl ⟨rfl,d_.of hd,rfl,Zr rfl ⟨pk,_,_,Zr rfl ⟨rfl,d_.of av,rfl,rfl,Zr rfl (fW (λcc=>?_) (λcc=>skip ?_))⟩⟩⟩⟩⟩
  . have e:nm=key:=by
     have:=of_decide_eq_true cc;injection this
    subst e
    cases Fs.B9 aH aA hj;rw[Q03 ao,ej] at hv
    cases hv;rw[ay] at hd
    cases hd;refine(Zr rfl ⟨cj,_,_,Zr rfl ⟨rfl,d_.of ay,rfl,add _ ?_⟩⟩);rw[if_neg (Q0p _),if_pos (Q1 _)];rfl
  . have ne:i≠j:=λe=>by
     subst e;rw[aA] at hj
     cases hj;exact cc (decide_eq_true rfl)
    by_cases aB:j<i
    . rw[if_pos aB,if_pos (by omega)]
    . rw[if_neg aB,if_neg (by omega)]
 rw[if_pos ao];have s1:Same H (upd H p (.lst [uj])):=Same.new hp;refine⟨p,_,_,Zr rfl ⟨rfl,eB.of eF,gz (j:=0) rfl,?_⟩⟩;generalize upd H p (.lst [uj])=H1 at s1;have hb:=g.at_;have aW:=hT.same s1;refine⟨nu,λpr aC=>?_⟩;have s2:=s1.trans (Same.new aC (o:=.lst []));have ag:H pr=none:=s1.free aC;have ap:b≠pr:=eP hb ag;have aX:=KA.mono (Tu.of s2) k az;have aj:=hT.same s2;obtain⟨aY,hP⟩:=hT.tab;have js:Pt≠pr:=eP hP ag;have em:Int.toNat (m:Int)=m:=by omega
 refine(Zr rfl (Zr rfl ⟨by omega,by omega,kE (n:=Int.toNat (m:Int)) (λi σ H'=>∃(x z:Option V) (ps:List Key) (n':Int),σ=[some (.ref a),some (.ref b),some (.ref pk),some (.int m),some uj,some (.ref pr),x,z]/\ff b Pt H H'/\H' b=some (.lst [.int n'])/\n<=n'/\n'<=n+i/\eU Pt gH gI H'/\H' pr=some (.lst (ps.map kV))/\ps.Nodup/\ps.length<=i/\∀p∈ps,i_ (fs.get key) p/\nJ p) ?_ ?_ ?_⟩))
 . exact⟨_,_,[],n,rfl,Kp.of s2,s2 _ _ hb,Q13 _,by omega,aj,eF,Q0x,Q00 _,λp hp=>nomatch hp⟩
 . intro i σ H' hi zq;obtain⟨x,z,ps,n',rfl,kp,aq,w1,w2,ar,ah,ak,ai,al⟩:=zq;rw[em] at hi;have au:=Fs.j_ aI hj;have aZ:k.dep=1:=by cases k with|num=>rfl|fy=>rfl|_=>exact af.elim
   have a1:kc k 0<=1:=by cases k with|num=>exact Q00 _|fy=>exact Q00 _|_=>exact af.elim
   refine(Zr rfl (Zr rfl (Zr rfl ⟨a,b,ns,n',uj,k,0,rfl,ff.g0 kp g hT aq w1,ar,KA.mono (kp.tu hb hT) k az,au,by decide,(by have:=qK k 0;omega),by omega,λv H2 fp fh aD aj aG _ _=>?_⟩)));have c2:=kT ns k 0 n' (by decide);have a2:k.cB<=1:=by cases k with|num=>exact Q00 _|fy=>exact Q00 _|_=>exact af.elim
   obtain⟨qk,rfl,aE,aK⟩:=IA ax af (l_ ns k au 0 n' (by decide)) aG;have aL:nJ qk:=λs hs=>Cb ns k au 0 n' (by decide) s (by rw[aE,hs];rfl);clear aE;generalize (val ns k 0 n').2=n2 at *;have ae:H2 pr=some (.lst (ps.map kV)):=fh pr _ (λz=>z.elim (Ne.symm ap) (Ne.symm js)) ah;have jb:=kp.trans fh;refine(Zr rfl (Zr rfl ⟨pr,Zr rfl ⟨.inl (eB.of ae),uc _,flat_keys,Zr rfl (fW (λcc=>?_) (λcc=>?_))⟩⟩))
   . have aM:qk ∉ ps:=λz=>by
      have cc:(!inV (kV qk) (ps.map kV))=true:=cc;rw[Cf.mpr z] at cc
      cases cc
     refine(Zr rfl ⟨.inl ⟨rfl,_,eB.of ae⟩,Zr rfl ⟨pr,_,Zr rfl ⟨rfl,ae,gE (by rw[Q04];omega),?_⟩⟩⟩);refine⟨_,_,ps++[qk],n2,rfl,λc o nc e=>?_,by rw[eE ap];exact aD,by omega,by omega,aj.wr (.inl ⟨_,ae⟩),by rw[Q0j];exact eF,?_,by rw[Q0d];show ps.length+1<=i+1;omega,λp hp=>?_⟩
     . rw[eE (eP e ag)];exact jb c o nc e
     . exact List.nodup_append.mpr ⟨ak,List.nodup_cons.mpr ⟨by simp,Q0x⟩,λa ha b hb e=>by rw[List.mem_singleton.mp hb] at e;rw[e] at ha;exact aM ha⟩
     . rcases List.mem_append.mp hp with z|z
       . exact al p z
       . rw[List.mem_singleton.mp z];exact⟨aK,aL⟩
   . exact⟨_,_,ps,n2,rfl,jb,aD,by omega,by omega,aj,ae,ak,by omega,al⟩
 . intro σ H' zq;obtain⟨x,z,ps,n',rfl,kp,aq,w1,w2,ar,ah,ak,ai,al⟩:=zq;rw[em] at w2 ai;exact(Zr rfl (q pr ps n' H' kp aq w1 w2 ar ag (Ne.symm ap) ah ak ai al))
theorem Ci (T:Tb mg)(Y:Dn K mg "misfit" iA (top 8) ai aj)(I:Dn K mg "record_misfit" jl (top 9) ak al)(ac:Dn K mg "has_just" jl (top 10) aq ar)(aa:Dn K mg "rows_misfit" iT (top 11) ao ap)(ah:Dn K mg "rank" md (top 15) az aA)(J:Dn K mg "tree_misfit" km (top 13) af ag)(ab:Dn K mg "is_pair" mj (top 12) au av)(U:Dn K mg "either_misfit" oW (top 14) am an)(ae:Dn K mg "kind_at" kh (top 6) aw ax):∀n:Nat,en P w K mg base eu (4 * n+3) ai aj iA (k9 n)/\en P w K mg base eu (4 * n+2) af ag km (o_ n)
 |0=>⟨Iv T Y,Io T J⟩
 |n+1=>by
  obtain⟨M,Tr⟩:=Ci T Y I ac aa ah J ab U ae n;have Ip:=HV (P:=P) (w:=w) (base:=base) T ab;have R:=Ic n T I ac (HX T ac) Y M;have Ro:=Ih n T aa I R ah (A6 T ah);have ay:=Iq n T J Tr ab Ip Y M;have Ei:=Iu n T U ab Ip ae (B0 T ae) Y M;exact⟨Iw n T Y I R aa Ro J ay U Ei,ay⟩
end Pb
namespace L2
open Spec PyProof.Rows
section
variable {prog:Program}{w:World}{A:Around}{E:Value->Shared->Prop}{hp:Heap}{g:Array GenState}{dr:Drawn}{tk:Nat}{os:OsState}{C fI:Addr}{J3:List Value}{B nid J4:String}
end
end L2
namespace L2
open Spec Calls PyProof.Rows W Builtin Builtin.ObjectAttr
section
variable {prog:Program}{w:World}{A:Around}{E:Value->Shared->Prop}{s:Shared}{K:Frag}{x C:Addr}{ox:Obj}{name:Str}{v:Value}
end
end L2
namespace L2
open Spec Calls PyProof.Rows W Builtin Builtin.ObjectAttr Builtin.Getset_descriptor
section
variable {prog:Program}{w:World}{A:Around}{E:Value->Shared->Prop}{K:Frag}{h:Heap}{g:Array GenState}{d:Drawn}{t:Nat}{os:OsState}{a C dx:Addr}{o:Obj}{vs:Array Value}{mA:Str->Option Value}{name:Str}{v:Value}
end
end L2
namespace L2
open Spec PyProof.Rows
section
variable {M:Model}{A:Around}{E:Value->Shared->Prop}{s:Shared}
structure lg (h:Heap) (e T:Addr) (cls:Value) (dd:Option Addr) (fl:Value):Prop where
 ex:∃oe vs,h.get? e=some oe/\oe.cls=cls/\oe.dict=dd/\oe.data=.fields vs/\vs[1]? =some (.ref T)
 tb:∃oT ts,h.get? T=some oT/\oT.data=.fields ts/\ts[3]? =some fl
 ne:T≠e
theorem Cj {e T:Addr}{cls fl:Value}{U:Option Addr}{Q:Unit->Shared->Prop}(t:lg s.heap e T cls U fl)(h:∀h',lg h' e T cls U .none->(∀b o,b≠T->s.heap.get? b=some o->h'.get? b=some o)->(∃o',h'.get? T=some o')->Q () { s with heap:=h' }):wpAny M A (setFlight (.ref e) none) Q E s:=by
 obtain⟨⟨Y,vs,he,hc,J,hd,h1⟩,⟨oT,ts,hT,I,h3⟩,ne⟩:=t;have em:Obj.mapFields (·.setIfInBounds 3 ((none:Option Addr).elim Value.none λf=>rawInt f)) oT={ oT with data:=.fields (ts.setIfInBounds 3 .none) }:=sy I;have hsz:=(Array.getElem?_eq_some_iff.mp h3).1;unfold setFlight;refine Q0 (wpAny_field he hd h1 ?_);rw[if_pos (show(Value.ref T != Value.none)=true by simp)];have self:=Q1m (Obj.mapFields (·.setIfInBounds 3 ((none:Option Addr).elim Value.none λf=>rawInt f))) hT (by rw[em];exact Obj.isFreed_of_fields rfl);rw[em] at self
 have oth:∀b o,b≠T->s.heap.get? b=some o->(s.heap.update T (Obj.mapFields (·.setIfInBounds 3 ((none:Option Addr).elim Value.none λf=>rawInt f)))).get? b=some o:=λb o hb ho=>by
  rw[Q10 _ _ (Ne.symm hb)];exact ho
 exact wpAny_setField hT I hsz (h _ ⟨⟨Y,vs,oth e Y (Ne.symm ne) he,hc,J,hd,h1⟩,⟨_,_,self,rfl,by simp[hsz]⟩,ne⟩ oth ⟨_,self⟩)
theorem ID {base:Heap}{env:Env}{outer:List Env}{L e T:Addr}{cls:Value}{dd:Option Addr}{Q:Unit->Shared->Prop}(ac:A.frames=some (env::outer))(hl:s.heap.FunFrames base (env::outer))(hf:env.frame=some L)(t:lg s.heap e T cls dd .none)
 (h:∀(h':Heap) (T':Addr),s.heap.objs.size<=T'->(∀b o,b ∉ frs (env::outer)->b≠e->b≠T->s.heap.get? b=some o->h'.get? b=some o)->(∀b o,b≠e->b≠T->s.heap.get? b=some o->∃sl,h'.get? b=some { o with slots:=sl })->(∃o,h'.get? T=some o)->lg h' e T' cls dd (rawInt L)->Q () { s with heap:=h' }):
 wpAny M A (noteFrame (.ref e) env) Q E s:=by
 obtain⟨⟨oe,vs,he,hc,ae,hd,h1⟩,⟨oT,ts,hT,J,h3⟩,ne⟩:=t;have hsz:=(Array.getElem?_eq_some_iff.mp h3).1;have em:Obj.mapFields (·.setIfInBounds 3 Value.none) oT={ oT with data:=.fields (ts.setIfInBounds 3 .none) }:=sy J;unfold noteFrame;simp only[hf];refine Q0 (wpAny_field he hd h1 ?_);rw[if_pos (show(Value.ref T != Value.none)=true by simp)];refine Q0 (wpAny_field hT J h3 ?_);rw[if_neg (show ¬(Value.none == rawInt L)=true by simp[rawInt])];refine Q0 (wpAny_setField hT J hsz ?_);have self:=Q1m (Obj.mapFields (·.setIfInBounds 3 Value.none)) hT (by rw[em];exact Obj.isFreed_of_fields rfl);rw[em] at self
 have oth:∀b o,b≠T->s.heap.get? b=some o->(s.heap.update T (Obj.mapFields (·.setIfInBounds 3 Value.none))).get? b=some o:=λb o hb I=>by
  rw[Q10 _ _ (Ne.symm hb)];exact I
 have nT:∀b o,s.heap.get? b=some o->(∀vs,o.data≠ .fields vs)->b≠T:=λb o I hn z=>by
  rw[z,hT] at I
  cases I;exact hn ts J
 have aa:(s.heap.update T (Obj.mapFields (·.setIfInBounds 3 Value.none))).objs.size=s.heap.objs.size:=Q22 _ _ _;refine Gk (s:={ s with heap:=s.heap.update T (Obj.mapFields (·.setIfInBounds 3 Value.none)) }) ac (hl.of_keeps λb o I hn=>⟨o,oth b o (nT b o I hn) I,rfl⟩) hf (oth e oe (Ne.symm ne) he) hd (Array.getElem?_eq_some_iff.mp h1).1 λh' T' af hP ag ah=>?_;have ab:s.heap.objs.size<=T':=by rw[<-aa];exact af
 refine h h' T' ab (λb o hb U Y I=>hP.1 b o hb U (oth b o Y I)) (λb o U Y I=>hP.2 b o U (oth b o Y I)) ?_ ⟨⟨_,_,ag,hc,ae,rfl,by simp[(Array.getElem?_eq_some_iff.mp h1).1]⟩,ah,?_⟩
 . obtain⟨sl,hs⟩:=hP.2 T _ ne self;exact⟨_,hs⟩
 . have h1:e<s.heap.objs.size:=Q01 he;exact λz=>Q0p e (Q0a h1 (by rw[<-z];exact ab))
end
section
variable {X:Cx}{pins:List (Addr × Obj)}{σ:St}{H:Hp}{s:Shared}
end
def IE (P:Program) (w:World):iI:=λouter H s E e s'=>∃(a T C:Addr) (I:Option Addr) (H':Hp),e=.ref a/\lg s'.heap a T (.ref C) I .none/\s.heap.get? a=none/\s.heap.get? T=none/\H' a=none/\H' T=none/\s'.os=s.os/\AllBare s'.gens/\Un (frs outer) [] H H' s.heap s'.heap/\gu P w H' s'.heap/\E (.ref C) I H'
section
variable {M:Model}{A:Around}{E:Value->Shared->Prop}{s:Shared}
end
section
variable {X:Cx}{pins:List (Addr × Obj)}{σ:St}{H:Hp}{s:Shared}
end
noncomputable def mI (a C:Addr) (I:Option Addr):HO:=.ext λh=>∃o,h.get? a=some o/\o.cls=.ref C/\o.dict=I/\∃vs,o.data=.fields vs
theorem mI.ok {P:Program}{w:World}{H:Hp}{h:Heap}{a C:Addr}{I:Option Addr}(e:∃o,h.get? a=some o/\o.cls=.ref C/\o.dict=I/\∃vs,o.data=.fields vs):gB P w H h a (mI a C I):=
 ⟨e,let⟨o,h1,_⟩:=e;⟨o,h1⟩,λ_ _ ⟨o,h1,h2⟩ k=>⟨o,k o h1,h2⟩⟩
def ud (X:Cx) (pins:List (Addr × Obj)) (σ:St) (Ek:XK) (e:Value) (s':Shared):Prop:=∃H s,Inv X pins σ H s/\IE X.prog X.w X.stack H s Ek e s'
def Ck (X:Cx) (Ek:XK) (e:Expr) (t:TE):Prop:=
 ∀(pins:List (Addr × Obj)) (s:Shared) (σ:St) (H:Hp) (Q:VK),Inv X pins σ H s->t σ H Q->wpAny (model X.prog X.w) X.A (eval e X.env) (EP X pins σ Q) (ud X pins σ Ek) s
def Cm (X:Cx) (Ek:XK) (st:List Stmt) (t:TS):Prop:=
 ∀(pins:List (Addr × Obj)) (s:Shared) (σ:St) (H:Hp) (D:Ends),Inv X pins σ H s->t D σ H->wpAny (model X.prog X.w) X.A (execs st X.env) (SP X pins D) (ud X pins σ Ek) s
section
variable {X:Cx}{k:Nat}{f:Addr}{fd:FuncData}{ps:List Str}{sp:Sp}{gX:List V}{ds:List Value}{Ek:XK}{x:Str}{p pos:Pos}{e:Expr}{es:List Expr}{t:TA}{te:TE}
theorem IF {i:Nat}{y:Str}{pos':Pos}(J:X.N.Nodup)(hi:X.N[i]? =some y)(U:Loc X.env.scope y)(Y:Ck X Ek e te)(hs:swapsWith e (some (.Name y pos')) pos.line X.env=pure false:=by rfl)(hf:X.fn y=true\/X.env.scope.names.lookup y=some .local:=by first|exact .inl rfl|exact .inr rfl|assumption):
 Cm X Ek [.Assign [.Name y pos'] e pos] (lH te (gS i)):=by
 intro pins s σ H D I h;refine wpAny_execs_cons (wpAny_Assign_Name (Q0o (Y pins s σ H _ I h) (λv s1 zq=>?_) λ_ _ z=>z) hs);obtain⟨z,H1,I1,r1,q1⟩:=zq;exact og I1 J hi U r1 (λs2 I2=>wpAny_execs_nil ⟨_,H1,I2,q1⟩) hf
end
theorem IG {X:Cx}{pins:List (Addr × Obj)}{σ:St}{Ek:XK}{e:Value}{s':Shared}{Q:Unit->Shared->Prop}{E:Value->Shared->Prop}(ac:X.stack=X.env::X.outer)(ah:X.env.frame=some X.env.locals)(h:ud X pins σ Ek e s')
 (q:∀(a C T:Addr) (Y:Option Addr) (H':Hp) (h2:Heap),e=.ref a->H' a=none->Ek (.ref C) Y H'->lg h2 a T (.ref C) Y .none->Inv X pins σ (upd H' a (mI a C Y)) { s' with heap:=h2 }->
   (∀U:Heap,lg U a T (.ref C) Y .none->(∀b o,b≠T->h2.get? b=some o->U.get? b=some o)->Inv X pins σ (upd H' a (mI a C Y)) { s' with heap:=U })->Q () { s' with heap:=h2 }):
 wpAny (model X.prog X.w) X.A (noteFrame e X.env) (λ_ s2=>wpAny (model X.prog X.w) X.A (setFlight e none) Q E s2) E s':=by
 obtain⟨H,s,I,a,T,C,Y,H',rfl,t,la,lT,na,nT,os,ab,un,ae,hE⟩:=h;have I':=I.call' (s':=s') (ch:=[]) os un ae ab (λb z=>absurd z (by simp));have ai:X.A.frames=some (X.env::X.outer):=by rw[<-ac];exact I.ok.frames
 have hl:s'.heap.FunFrames X.base (X.env::X.outer):=by rw[<-ac];exact I'.stack
 refine ID ai hl ah t λh1 T1 aj k1 k2 an t1=>?_;refine Cj (s:={ s' with heap:=h1 }) t1 λh2 t2 k3 ao=>?_
 have aa:∀b o,s'.heap.get? b=some o->b≠T1:=λb o e z=>by
  have U:=Q01 e;rw[z] at U;exact Q0p _ (Q0a U aj)
 have key:∀U:Heap,lg U a T1 (.ref C) Y .none->(∀b o,b≠T1->h2.get? b=some o->U.get? b=some o)->Inv X pins σ (upd H' a (mI a C Y)) { s' with heap:=U }:=λU t3 k4=>by
  have m1:∀b o,b ∉ frs X.stack->b≠a->b≠T->s'.heap.get? b=some o->U.get? b=some o:=λb o hb n1 n2 e=>
   k4 b o (aa b o e) (k3 b o (aa b o e) (k1 b o (by rw[<-ac];exact hb) n1 n2 e))
  have m2:∀b o,b≠a->b≠T->s'.heap.get? b=some o->∃sl,U.get? b=some { o with slots:=sl }:=λb o n1 n2 e=>by
   obtain⟨sl,e1⟩:=k2 b o n1 n2 e;exact⟨sl,k4 b _ (aa b o e) (k3 b _ (aa b o e) e1)⟩
  have J:∀b o,s.heap.get? b=some o->b≠a/\b≠T:=λb o e=>⟨(λz=>by rw[z,la] at e;cases e),λz=>by rw[z,lT] at e;cases e⟩;refine I.call' (s':={ s' with heap:=U }) (ch:=[]) os ⟨λb o e n hb _=>?_,λb o e n hb hx=>?_,λb o e n hx=>?_,λb o e hx=>?_,λb xs e=>?_,λb o u e=>?_,λb ps e=>?_⟩ (λb o e=>?_) ab (λb z=>absurd z (by simp))
  . exact m1 b o hb (J b o e).1 (J b o e).2 (un.keep b o e n hb (by simp))
  . obtain⟨sl,e1⟩:=un.slot b o e n hb hx;obtain⟨af,e2⟩:=m2 b _ (J b o e).1 (J b o e).2 e1;exact⟨af,e2⟩
  . rw[eE (J b o e).1];exact un.free b o e n hx
  . obtain⟨o',e1⟩:=un.there b o e hx;obtain⟨af,e2⟩:=m2 b _ (J b o e).1 (J b o e).2 e1;exact⟨_,e2⟩
  . have:=un.tups b xs e;rw[eE (eP this na)];exact this
  . have:=un.je b o u e;rw[eE (eP this na)];exact this
  . obtain⟨ag,this⟩:=un.jf b ps e;exact⟨ag,by rw[eE (eP this na)];exact this⟩
  . by_cases hb:b=a
    . subst hb;rw[eF] at e
      cases e;obtain⟨oe,vs,he,hc,ak,al,_⟩:=t3.ex;exact mI.ok ⟨oe,he,hc,ak,vs,al⟩
    . rw[eE hb] at e;refine(ae b o e).stay (λc u hc r=>?_) (λc r=>by rw[eE (eP r na)];exact r) λc xs r=>by rw[eE (eP r na)];exact r
      have am:∃v,H' c=some v:=by
       rcases hc with z|z
       . exact⟨o,by rw[z];exact e⟩
       . exact⟨_,z⟩
      obtain⟨v,hv⟩:=am;refine m1 c u (λz=>?_) (eP hv na) (eP hv nT) r;rw[I'.pH c z] at hv;cases hv
 exact q a C T1 Y H' h2 rfl na hE t2 (key h2 t2 λ_ _ _ e=>e) key
def IH (Ek:XK) (i:Nat) (tb J:TS):TS:=λD σ H=>tb D σ H/\∀(a C:Addr) (I:Option Addr) (H':Hp),H' a=none->Ek (.ref C) I H'->J (D.un i) (σ.set i (some (.ref a))) (upd H' a (mI a C I))
theorem II {X:Cx}{body:List Stmt}{x n:Str}{Dc:Addr}{Ek:XK}{i:Nat}{Y:Stmt}{U:List Stmt}{np ab pos:Pos}{tb ts:TS}(ac:X.stack=X.env::X.outer)(ae:X.env.frame=some X.env.locals)
 (hb:Cm X Ek body tb) (hg:Gl X x) (hm:X.mg x=some (.ref Dc)) (h1:W.typeIn X.K (.ref Dc)=some (.type "type")) (h2:(W.clsIn X.K Dc).isSome=true) (h3:W.subIn X.K (.ref Dc) (.type "BaseException")=some true)
 (h4:∀C dd H,Ek (.ref C) dd H->W.subIn X.K (.ref C) (.ref Dc)=some true) (hN:X.N.Nodup) (hi:X.N[i]? =some n) (J:X.env.kindOf n=some .local) (hs:∀a,iG (X.marked a) (Y::U) ts) (hd:(x == ("__debug__":Str))=false:=by decide):
 PS X (.Try body [.ExceptHandler (some (.Name x np)) (some n) (Y::U) ab] [] [] pos) (IH Ek i tb ts):=by
 intro pins s σ H D I h;obtain⟨hq,hk⟩:=h;refine wpAny_Try_except (Q0o (hb pins s σ H D I hq) (λf s1 q=>?_) λe s1 z=>?_)
 . cases f with
   |next=>exact wpAny_execs_nil q
   |ret v=>exact q
   |brk=>exact q
   |cont=>exact q
 . refine IG ac ae z λa C T dd H' ag e1 na hE t2 I2 key=>?_;subst e1;have ok:=I2.ok;refine wpAny_handleBy_cons (codeAny_handlers_test ?_) (by intro q;cases q);refine rn (X:=X.marked a) (I2.marked a) hg hm ?_ hd;obtain⟨oe,vs,he,hc,_⟩:=id t2.ex;refine Gm I2.gR h1 h2 h3 (h4 C dd H' hE) he hc ?_;simp only[if_true];refine codeAny_handlers_suite_as ?_;refine Cj t2 λaf t3 k3 _=>?_;have I3:=key af t3 k3;refine og I3 hN hi (.inl J) (show RelV (.ref a) (.ref a) from rfl) (λs4 I4=>?_) (.inr J);refine Q0o (hs a pins s4 _ _ (D.un i) (I4.marked a) (hk a C dd H' na hE)) (λf s5 q=>?_) λ_ _ z=>False.elim z;show wpAny _ _ _ _ _ _
   cases f with
   |next=>
    obtain⟨aa,H5,I5,q⟩:=q;exact(I5.unmarked ok).unbind hN hi J λs6 I6=>⟨_,_,I6,q⟩
   |ret v=>
    obtain⟨y,aa,H5,I5,r,q⟩:=q;exact(I5.unmarked ok).unbind hN hi J λs6 I6=>⟨y,_,_,I6,r,q⟩
   |brk=>
    obtain⟨aa,H5,I5,q⟩:=q;exact(I5.unmarked ok).unbind hN hi J λs6 I6=>⟨_,_,I6,q⟩
   |cont=>
    obtain⟨aa,H5,I5,q⟩:=q;exact(I5.unmarked ok).unbind hN hi J λs6 I6=>⟨_,_,I6,q⟩
section
variable {X:Cx}{pins:List (Addr × Obj)}{σ:St}{H:Hp}{s:Shared}
end
section
variable {X:Cx}
end
section
variable {X:Cx}{k:Nat}{f C:Addr}{fd:FuncData}{ps:List Str}{sp:Sp}{Ek:XK}{m:Str}{p pos apos:Pos}{e o:Expr}{es:List Expr}{t:TA}{te ta:TE}
theorem IJ (J:PE X.fj e te):Ck X Ek e te:=λpins s σ H Q I h=>
 Q0o (J pins s σ H Q (I.wish _) h) (λ_ _ ⟨v,H',U,r,q⟩=>⟨v,H',U.j0,r,q⟩) λ_ _ z=>False.elim z
end
end L2
namespace Pb
open L2 PyProof.Rows
theorem str1 {f g:Str}{rest:List V}{K:W.Frag}{H:Hp}:qg K H 0 (.str f::rest) [.str g] (λ_=>decide (f=g)):=λj x y h1 h2=>by
 cases j with
 |zero=>
  cases h1
  cases h2;exact iL.str f g
 |succ j=>cases h2
theorem IK (f g:Str)(rest:List V):((List.range (min (V.str f::rest).length [V.str g].length)).all (λ_=>decide (f=g)) && (V.str f::rest).length == [V.str g].length)=(decide (f=g) && decide (rest=[])):=by
 have I:min (V.str f::rest).length [V.str g].length=1:=by
  rw[Q0h];show min (rest.length+1) 1=1;omega
 rw[I];congr 1
 . show(decide (f=g) && true)=_;rw[Bool.and_true]
 . cases rest with
   |nil=>rfl
   |cons a r=>rfl
noncomputable def Kd.nm:Kd->Str
 | .num=>"number"
 | .fy=>"word"
 | .eX _=>"record"
 | .rows _ _ _=>"rows"
 | .tree _=>"tree"
 | .gj _=>"either"
noncomputable def jF:Kd->Bool
 | .num=>true
 | .fy=>true
 |_=>false
theorem KA.head {H:Hp}{u:V}{k:Kd}(h:KA H u k):∃a rest,u=.ref a/\H a=some (.tup (.str k.nm::rest))/\(rest=[]↔jF k=true):=by
 cases k <;> unfold KA at h
 . obtain⟨a,e,q⟩:=h;exact⟨a,_,e,q,by constructor <;> intro _ <;> rfl⟩
 . obtain⟨a,e,q⟩:=h;exact⟨a,_,e,q,by constructor <;> intro _ <;> rfl⟩
 . obtain⟨a,b,vs,e,q,_⟩:=h;exact⟨a,_,e,q,by constructor <;> intro z <;> cases z⟩
 . obtain⟨a,b,vs,e,q,_⟩:=h;exact⟨a,_,e,q,by constructor <;> intro z <;> cases z⟩
 . obtain⟨a,b,e,q,_⟩:=h;exact⟨a,_,e,q,by constructor <;> intro z <;> cases z⟩
 . obtain⟨a,b,vs,e,q,_⟩:=h;exact⟨a,_,e,q,by constructor <;> intro z <;> cases z⟩
theorem Cn {K:W.Frag}{H:Hp}{u:V}{k:Kd}{t:Addr}{g:Str}{Q:VK}(J:KA H u k)(ht:H t=some (.tup [.str g]))(q:Q (.bl (decide (k.nm=g) && jF k)) H):Ak K 0 u (.ref t) H Q:=by
 obtain⟨a,rest,rfl,U,I⟩:=J.head;refine .inr ⟨a,t,_,_,Zr rfl ⟨rfl,str1,.inr ⟨d_.of U,d_.of ht,?_⟩⟩⟩;rw[IK]
 have:decide (rest=[])=jF k:=by
  cases e:jF k with
  |true=>exact decide_eq_true (I.mpr e)
  |false=>exact decide_eq_false (λz=>by rw[I.mp z] at e;cases e)
 rw[this];exact q
def Co:Sp:=λvs H Q _=>∃u k,vs=[u]/\KA H u k/\∀H',Same H H'->Q (.bl (jF k)) H'
def Cp:Sp:=λvs H Q _=>vs=[.bl true]/\Q .non H
variable {P:Program}{w:World}{K:W.Frag}{mg:Str->Option Value}{base:Heap}
theorem IL:fv ["kind"] ["kind"] (eS (top 5)):=fC
theorem IM (T:Tb mg)(I:Dn K mg "is_plain" ["kind"] (top 5) J U):en P w K mg base eu (1) J U ["kind"] (Co):=by
 refine I.F.ok IL λvs H Q E h=>?_;obtain⟨u,k,rfl,hk,q⟩:=h;refine⟨rfl,λaa A outer s nd hr hu=>?_⟩;refine⟨_,(eA (eJ (pK (gU (Al (n:=0) hu) (pv 0) (gd (a_ eY c_)) (eK _)) (iO (gU (Al (n:=0) hu) (pv 0) (gd (a_ eY c_)) (eK _)))))),?_⟩
 ac_rfl
 refine(Zr rfl ⟨iN,λt ht=>?_⟩);have Y:Same H (upd H t (.tup [.str "number"])):=Same.new ht;refine Cn (KA.mono (Tu.of Y) k hk) eF (Zr rfl (fW (λc=>?_) (λc=>?_)))
 . have e:jF k=true:=by
    have c:(decide (k.nm="number") && jF k)=true:=c;rw[Bool.and_eq_true] at c;exact c.2
   rw[e] at q;have c:(decide (k.nm="number") && jF k)=true:=c
   first
    |exact q _ Y
    |(rw[c];exact q _ Y)
 . refine(Zr rfl ⟨iN,λt2 jD=>?_⟩);have s2:=Y.trans (Same.new (o:=.tup [.str "word"]) jD);refine Cn (KA.mono (Tu.of s2) k hk) eF ?_
   have e:(decide (k.nm="word") && jF k)=jF k:=by
    cases k
    case num=>exact absurd rfl c
    case fy=>rfl
    all_goals exact Bool.and_false _
   rw[e];exact q _ s2
theorem IQ:fv ["stands"] ["stands"] (eS (top 20)):=fC
theorem IS (T:Tb mg)(I:Dn K mg "ask_stands" ["stands"] (top 20) J U):en P w K mg base eu (1) J U ["stands"] (Cp):=by
 refine I.F.ok IQ λvs H Q E h=>?_;obtain⟨rfl,q⟩:=h;refine⟨rfl,λY A outer s nd hr hu=>?_⟩;refine⟨_,(eA (eO (gW (gx (pv 0))) (eA mR) eQ)),?_⟩
 ac_rfl
 exact(Zr rfl ⟨true,rfl,e_ q⟩)
end Pb
namespace Pb
open L2
def ue:Sp:=λvs H Q _=>∃J U ps k I,vs=[.ref J,U]/\H J=some (.tup (ps.map V.str))/\KA H U k/\k.W/\iV ps k=some I/\∀u,KA H u I->I.W->Q u H
def uf:Sp:=λvs H Q _=>∃l J I u k,vs=[.ref l,u]/\H l=some (.tup (Lk.tup J I))/\KA H u k/\k.W/\I.ok k/\∀H',Same H H'->Q (.bl true) H'
def pd (n:Nat):Sp:=λvs H Q _=>∃lv I L k,vs=[lv,I]/\fo H lv L/\KA H I k/\k.W/\L.ok k/\L.dp<n/\∀H',Same H H'->Q .non H'
def Cq (n:Nat):Sp:=λvs H Q _=>∃l xs u I L k,∃i:Nat,vs=[.ref l,.int i,I]/\H l=some (.tup xs)/\xs[i]? =some u/\fo H u L/\KA H I k/\k.W/\L.ok k/\L.dp<n/\∀H',Same H H'->Q .non H'
variable {P:Program}{w:World}{K:W.Frag}{mg:Str->Option Value}{base:Heap}
theorem IT:fv ["path","kind","there","name"] ["path","kind"] (eS (top 25)):=fC
theorem IU (T:Tb mg)(I:Dn K mg "kind_along" ny (top 25) J U)(aa:Dn K mg "kind_at" kh (top 6) ab ac)(ae:en P w K mg base eu (1) ab ac kh (qW K)):en P w K mg base eu (2) J U ny (ue):=by
 refine I.F.ok IT λvs H Q E h=>?_;obtain⟨pp,kv,ps,k,kl,rfl,ai,hk,hW,Y,q⟩:=h;refine⟨rfl,λak A outer s nd hr hu=>?_⟩
 refine⟨_,(eh (eN 2 nd (pv 1))
  (eh (hX PassesOwn.never rfl (jv (pv 0)) (fL (i:=3) nd rfl gc) (eh (eO (PW.pt (g9 (eM lL (pv 2) gP (eK _)) (hU (eM jw (eI (pv 2) b_) eY (eK _))))) (eA (eJ gP)) eQ)
  (eA (eN 2 nd (eL ae hr aa (a_ (eI (pv 2) b_) (a_ (pv 3) c_)))))))
  (eA (eJ (pv 2))))),?_⟩
 ac_rfl
 refine(Zr rfl ?_);refine(Zr rfl ⟨pp,rfl,⟨_,d_.of ai⟩,kB (xs:=ps.map V.str) (λi σ H'=>H'=H/\∃x u k',σ=[some (.ref pp),some kv,some u,x]/\KA H u k'/\k'.W/\iV (ps.drop i) k'=some kl) ⟨rfl,_,kv,k,rfl,hk,hW,Y⟩ ?_ ?_ ?_⟩)
 . rintro i σ H' _ ⟨rfl,_⟩;exact d_.of ai
 . intro i x σ H' hx zq;obtain⟨rfl,x0,u,k',rfl,ag,af,Y⟩:=zq;rw[Q0q] at hx;obtain⟨y,hy,rfl⟩:=Option.map_eq_some_iff.mp hx;obtain⟨hi,rfl⟩:=List.getElem?_eq_some_iff.mp hy;rw[Q28 hi] at Y;obtain⟨fs,k2,rfl,h1,h2⟩:=qQ Y;unfold KA at ag;obtain⟨c,b,vs,rfl,hc,hb,aj⟩:=ag;unfold Kd.W at af;refine(Zr rfl ⟨rfl,Zr rfl ?_⟩);rw[decide_eq_false (by intro z;cases z)];refine e_ (Zr rfl ⟨c,_,_,Zr rfl ⟨rfl,d_.of hc,rfl,rfl,Zr rfl ?_⟩⟩);rw[decide_eq_true rfl];refine e_ (Zr rfl ⟨c,_,_,Zr rfl ⟨rfl,d_.of hc,rfl,Zr rfl ⟨b,.str ps[i],vs,fs,some ps[i],rfl,hb,aj,af.1,rfl,λu' ah=>?_⟩⟩⟩)
   have ah:KA H' u' k2:=by
    have e:(some ps[i]).bind fs.get=some k2:=h1;rw[e] at ah;exact ah
   exact⟨rfl,_,u',k2,rfl,ah,Fs.o7 af.2.2 h1,h2⟩
 . intro σ H' zq;obtain⟨rfl,x0,u,k',rfl,ag,af,Y⟩:=zq;rw[Q04,Q29] at Y
   cases Y;exact(Zr rfl (q u ag af))
theorem IV:fv ["look","there","form"] Xh (eS (top 26)):=fC
theorem IW (n j:Nat)(T:Tb mg)(I:Dn K mg "stands_on" jC (top 26) J U)(ae:Dn K mg "kind_at" kh (top 6) af ag)(ah:en P w K mg base eu (1) af ag kh (qW K))(Y:Dn K mg "is_plain" ["kind"] (top 5) aa ab)(ac:en P w K mg base eu (1) aa ab ["kind"] (Co))(aj:Dn K mg "misfit" iA (top 8) ak al)(am:en P w K mg base eu (j+3) ak al iA (k9 (n+1))):en P w K mg base eu (j+4) J U jC (uf):=by
 refine I.F.ok IV λvs H Q E h=>?_;obtain⟨l,pp,lk,u,k,rfl,hl,hk,hW,ai,q⟩:=h;refine⟨rfl,λau A outer s nd hr hu=>?_⟩
 refine⟨_,(eh (eN 2 nd (eI (pv 0) b_))
  (eh (eO (eM lL (pv 1) gP (eK _)) (eA (eJ g8)) eQ)
  (eh (eO (eM fc (pv 2) eY (eK _)) (eA (eJ (ju (gU fc (eI (pv 1) b_) eY (eK _)) (iO (gU kG (eL ah hr ae (a_ (eI (pv 1) b_) (a_ (eI (pv 0) b_) c_))) gP (eK _)))))) eQ)
  (eh (eO (eM fc (pv 2) eY (eK _)) (eA (eJ (pK (gU fc (eI (pv 1) b_) eY (eK _)) (iO (gU fc (eI (pv 1) b_) eY (eK _)))))) eQ)
  (eA (eJ (ju (eL ac hr Y (a_ (pv 1) c_)) (iO (gU lL (eL am hr aj (a_ (pv 1) (a_ (eI (pv 0) b_) c_))) gP (eK _)))))))))),?_⟩
 ac_rfl
 have ap:(∃c nm v d,u=.ref c/\Lk.tup pp lk=[.str nm,.ref pp,v]/\decide (V.str nm=V.str "is")=false/\decide (V.str nm=V.str "some")=false/\jF k=true/\Own H v d []/\Rs (n+1) k d none)\/(∃x,lk=.is x)\/lk=.some_:=by
  have num:∀z:Int,Rs (n+1) .num (.int z) none:=λz=>⟨by show eT _ _;unfold eT;exact⟨z,rfl⟩,Q2c (Q07 _),by unfold D.Sm;trivial⟩;have fy:∀z:Str,Rs (n+1) .fy (.str z) none:=λz=>⟨by show eT _ _;unfold eT;exact⟨z,rfl⟩,Q2c (Q07 _),by unfold D.Sm;trivial⟩
  cases lk with
  |is x=>exact .inr (.inl ⟨x,rfl⟩)
  |some_=>exact .inr (.inr rfl)
  |mx z=>
   cases ai;obtain⟨c,_,e,_⟩:=hk.head;exact .inl ⟨c,_,_,.int z,e,rfl,by decide +kernel,by decide +kernel,rfl,by unfold Own;exact⟨rfl,rfl⟩,num z⟩
  |my z=>
   cases ai;obtain⟨c,_,e,_⟩:=hk.head;exact .inl ⟨c,_,_,.int z,e,rfl,by decide +kernel,by decide +kernel,rfl,by unfold Own;exact⟨rfl,rfl⟩,num z⟩
  |mz z=>
   cases ai;obtain⟨c,_,e,_⟩:=hk.head;exact .inl ⟨c,_,_,.str z,e,rfl,by decide +kernel,by decide +kernel,rfl,by unfold Own;exact⟨rfl,rfl⟩,fy z⟩
  |mC z=>
   cases ai;obtain⟨c,_,e,_⟩:=hk.head;exact .inl ⟨c,_,_,.str z,e,rfl,by decide +kernel,by decide +kernel,rfl,by unfold Own;exact⟨rfl,rfl⟩,fy z⟩
 rcases ap with⟨c,nm,v,d,rfl,el,e1,e2,aq,ho,hR⟩|⟨x,rfl⟩|rfl
 . rw[el] at hl;refine(Zr rfl ⟨l,_,_,Zr rfl ⟨rfl,d_.of hl,rfl,?_⟩⟩);refine(Zr rfl ⟨rfl,Zr rfl ?_⟩);rw[decide_eq_false (by intro z;cases z)];refine e_ (gf rfl e1 (gf rfl e2 ?_));refine(Zr rfl ⟨.ref c,k,rfl,hk,λH1 s1=>(Zr rfl ?_)⟩);rw[aq];refine fw (Zr rfl (Zr rfl ⟨l,_,_,Zr rfl ⟨rfl,d_.of (s1 _ _ hl),rfl,.ref c,v,k,d,[],none,rfl,KA.mono (Tu.of s1) _ hk,hW,ho.same s1,hR,λu2 H2 s2 ao=>?_⟩⟩));have ao:u2=.non:=ao;subst ao;exact⟨rfl,by rw[decide_eq_true rfl];exact q _ (s1.trans s2)⟩
 . obtain⟨fs,rfl,hx⟩:=ai;unfold KA at hk;obtain⟨c,b,vs,rfl,hc,hb,ar⟩:=hk;unfold Kd.W at hW;refine(Zr rfl ⟨l,_,_,Zr rfl ⟨rfl,d_.of hl,rfl,?_⟩⟩);refine(Zr rfl ⟨rfl,Zr rfl ?_⟩);rw[decide_eq_false (by intro z;cases z)];refine e_ (ip rfl (by decide +kernel) ?_);refine(Zr rfl ⟨c,_,_,Zr rfl ⟨rfl,d_.of hc,rfl,rfl,Zr rfl ?_⟩⟩);rw[decide_eq_true rfl];refine fw (Zr rfl ⟨c,_,_,Zr rfl ⟨rfl,d_.of hc,rfl,Zr rfl ⟨l,_,_,Zr rfl ⟨rfl,d_.of hl,rfl,b,.str x,vs,fs,some x,rfl,hb,ar,hW.1,rfl,λu' an=>⟨rfl,?_⟩⟩⟩⟩⟩);obtain⟨k',hg⟩:=Option.isSome_iff_exists.mp hx
   have an:KA H u' k':=by
    have e:(some x).bind fs.get=some k':=hg;rw[e] at an;exact an
   obtain⟨a2,_,e2,_⟩:=an.head;rw[e2,decide_eq_false (by intro z;cases z)];exact q _ (Same.refl _)
 . rcases ai with⟨key,by_,fs,rfl⟩|⟨k',rfl⟩
   . unfold KA at hk;obtain⟨c,b,vs,rfl,hc,_⟩:=hk;refine(Zr rfl ⟨l,_,_,Zr rfl ⟨rfl,d_.of hl,rfl,?_⟩⟩);refine(Zr rfl ⟨rfl,Zr rfl ?_⟩);rw[decide_eq_false (by intro z;cases z)];refine e_ (gf rfl (by decide +kernel) (ip rfl (by decide +kernel) ?_));refine(Zr rfl ⟨c,_,_,Zr rfl ⟨rfl,d_.of hc,rfl,rfl,Zr rfl ?_⟩⟩);rw[decide_eq_true rfl];exact fw (q _ (Same.refl _))
   . unfold KA at hk;obtain⟨c,b,rfl,hc,_⟩:=hk;refine(Zr rfl ⟨l,_,_,Zr rfl ⟨rfl,d_.of hl,rfl,?_⟩⟩);refine(Zr rfl ⟨rfl,Zr rfl ?_⟩);rw[decide_eq_false (by intro z;cases z)];refine e_ (gf rfl (by decide +kernel) (ip rfl (by decide +kernel) ?_));refine(Zr rfl ⟨c,_,_,Zr rfl ⟨rfl,d_.of hc,rfl,rfl,Zr rfl ?_⟩⟩);rw[show decide (V.str "tree"=V.str "rows")=false by decide +kernel];refine e_ (Zr rfl ⟨c,_,_,Zr rfl ⟨rfl,d_.of hc,rfl,rfl,?_⟩⟩);rw[decide_eq_true rfl];exact q _ (Same.refl _)
theorem IX:fv ["look","number","kind","place"] Xm (eS (top 24)):=fC
theorem IY (n j:Nat)(T:Tb mg)(I:Dn K mg "inner_place" oX (top 24) J U)(Y:Dn K mg "unsound" k5 (top 23) aa ab)(ac:en P w K mg base eu (j) aa ab k5 (pd n)):en P w K mg base eu (j+1) J U oX (Cq n):=by
 refine I.F.ok IX λvs H Q E h=>?_;obtain⟨l,xs,u,kv,L,k,i,rfl,hl,hi,hL,hk,hW,ae,af,q⟩:=h;refine⟨rfl,λag A outer s nd hr hu=>?_⟩
 refine⟨_,(eh (eN 3 nd (eL ac hr Y (a_ (eI (pv 0) (pv 1)) (a_ (pv 2) c_))))
  (eA (eJ (mQ (eM lL (pv 3) gP (eK _)) gP (eG jN (gi (a_ (pv 1) c_)) (pv 3)))))),?_⟩
 ac_rfl
 refine(Zr rfl (Zr rfl ⟨l,_,_,Zr rfl ⟨rfl,d_.of hl,gz hi,Zr rfl ⟨u,kv,L,k,rfl,hL,hk,hW,ae,af,λH1 s1=>?_⟩⟩⟩));refine(Zr rfl ⟨rfl,Zr rfl ?_⟩);rw[decide_eq_true rfl];exact fw (q _ s1)
theorem IZ:fv ["look","kind","form","place"] ["look","kind"] (eS (top 23)):=fC
theorem I0 (n j:Nat)(T:Tb mg)(aj:Dn K mg "unsound" k5 (top 23) ak al)(I:Dn K mg "inner_place" oX (top 24) U Y)(J:en P w K mg base eu (j) U Y oX (Cq n))(af:Dn K mg "stands_on" jC (top 26) ag ah)(ai:en P w K mg base eu (j) ag ah jC (uf))(aa:Dn K mg "kind_along" ny (top 25) ab ac)(ae:en P w K mg base eu (2) ab ac ny (ue))(hj:2<=j):en P w K mg base eu (j+1) ak al k5 (pd (n+1)):=by
 refine aj.F.ok IZ λvs H Q E h=>?_;obtain⟨lv,kv,L,k,rfl,hL,hk,hW,am,an,q⟩:=h;refine⟨rfl,λau A outer s nd hr hu=>?_⟩
 refine⟨_,(eh (eN 2 nd (eI (pv 0) b_))
  (eh (eO (eM fc (pv 2) eY (eK _)) (eA (eJ (eL J hr I (a_ (pv 0) (a_ b_ (a_ (pv 1) c_)))))) eQ)
  (eh (eO (PW.pt (g9 (eM fc (pv 2) eY (eK _)) (hU (eM fc (pv 2) eY (eK _))))) (eh (eN 3 nd (eL J hr I (a_ (pv 0) (a_ b_ (a_ (pv 1) c_)))))
  (eA (eJ (mQ (eM lL (pv 3) gP (eK _)) (eL J hr I (a_ (pv 0) (a_ b_ (a_ (pv 1) c_)))) (pv 3))))) eQ)
  (eA (eJ (mQ (gx (eL ai hr af (a_ (pv 0) (a_ (eL ae hr aa (a_ (eI (pv 0) b_) (a_ (pv 1) c_))) c_)))) gP (gi c_))))))),?_⟩
 ac_rfl
 cases L with
 |leaf ps lk=>
  unfold fo at hL;obtain⟨l,pp,rfl,hl,ao⟩:=hL;obtain⟨kl,ap,aq⟩:=am;obtain⟨nm,n0,n1,n2,n3⟩:=Lk.tQ pp lk;refine(Zr rfl ⟨l,_,_,Zr rfl ⟨rfl,d_.of hl,gz (j:=0) n0,?_⟩⟩);refine gf rfl n1 ?_;refine(Zr rfl ⟨rfl,Zr rfl ?_⟩);rw[n2];refine e_ (Zr rfl ⟨rfl,Zr rfl ?_⟩);rw[n3];refine e_ (Zr rfl (Zr rfl ⟨l,_,_,Zr rfl ⟨rfl,d_.of hl,gz (j:=1) (Lk.tO pp lk),Zr rfl ⟨pp,kv,ps,k,kl,rfl,ao,hk,hW,ap,λu hu ar=>?_⟩⟩⟩));exact⟨l,pp,lk,u,kl,rfl,hl,hu,ar,aq,λH1 s1=>⟨true,rfl,fw (q _ s1)⟩⟩
 |not x=>
  unfold fo at hL;obtain⟨l,u,rfl,hl,hx⟩:=hL;simp only[Lo.dp] at an;refine(Zr rfl ⟨l,_,_,Zr rfl ⟨rfl,d_.of hl,rfl,?_⟩⟩);refine ip rfl (by decide +kernel) ?_;exact(Zr rfl (Zr rfl ⟨l,_,u,kv,x,k,1,rfl,hl,rfl,hx,hk,hW,am,by omega,q⟩))
 |and x y=>
  unfold fo at hL;obtain⟨l,u,u',rfl,hl,hx,hy⟩:=hL;simp only[Lo.dp] at an;refine(Zr rfl ⟨l,_,_,Zr rfl ⟨rfl,d_.of hl,rfl,?_⟩⟩);refine gf rfl (by decide +kernel) ?_;refine(Zr rfl ⟨rfl,Zr rfl ?_⟩);rw[decide_eq_true rfl];refine fw (Zr rfl (Zr rfl ⟨l,_,u,kv,x,k,1,rfl,hl,rfl,hx,hk,hW,am.1,by omega,λH1 s1=>?_⟩));refine(Zr rfl ⟨rfl,Zr rfl ?_⟩);rw[decide_eq_true rfl];exact fw (Zr rfl (Zr rfl ⟨l,_,u',kv,y,k,2,rfl,s1 _ _ hl,rfl,fo.mono (Tu.of s1) y hy,KA.mono (Tu.of s1) k hk,hW,am.2,by omega,λH2 s2=>q _ (s1.trans s2)⟩))
 |or x y=>
  unfold fo at hL;obtain⟨l,u,u',rfl,hl,hx,hy⟩:=hL;simp only[Lo.dp] at an;refine(Zr rfl ⟨l,_,_,Zr rfl ⟨rfl,d_.of hl,rfl,?_⟩⟩);refine gf rfl (by decide +kernel) ?_;refine(Zr rfl ⟨rfl,Zr rfl ?_⟩);rw[show decide (V.str "or"=V.str "and")=false by decide +kernel];refine e_ (Zr rfl ⟨rfl,Zr rfl ?_⟩);rw[decide_eq_true rfl];refine fw (Zr rfl (Zr rfl ⟨l,_,u,kv,x,k,1,rfl,hl,rfl,hx,hk,hW,am.1,by omega,λH1 s1=>?_⟩));refine(Zr rfl ⟨rfl,Zr rfl ?_⟩);rw[decide_eq_true rfl];exact fw (Zr rfl (Zr rfl ⟨l,_,u',kv,y,k,2,rfl,s1 _ _ hl,rfl,fo.mono (Tu.of s1) y hy,KA.mono (Tu.of s1) k hk,hW,am.2,by omega,λH2 s2=>q _ (s1.trans s2)⟩))
theorem Cr (j:Nat)(hj:2<=j)(T:Tb mg)(Y:Dn K mg "unsound" k5 (top 23) ah ai)(I:Dn K mg "inner_place" oX (top 24) aj ak)(aa:Dn K mg "stands_on" jC (top 26) af ag)(ab:en P w K mg base eu (j) af ag jC (uf))(J:Dn K mg "kind_along" ny (top 25) ac ae)(U:en P w K mg base eu (2) ac ae ny (ue)):∀n:Nat,en P w K mg base eu (j+2 * n) ah ai k5 (pd n)
 |0=>by
  have no:∀vs H Q E,¬pd 0 vs H Q E:=λvs H Q E h=>by
   obtain⟨_,_,L,_,_,_,_,_,_,hd,_⟩:=h;omega
  exact⟨λvs H Q E h=>absurd h (no vs H Q E),λA outer s H args us vs Q E _ _ _ _ h=>absurd h (no vs H Q E)⟩
 |n+1=>I0 n (j+2 * n+1) T Y I (IY n (j+2 * n) T I Y (Cr j hj T Y I aa ab J U n)) aa (ab.mono (by omega)) J U (by omega)
end Pb
namespace Pb
open L2 PyProof.Rows
structure Dm (K:W.Frag) (x qual:Str) (ps:List Str) (st:Stmt) (f:Addr) (fd:FuncData):Prop where
 F:jO K x qual st f fd
 b:Binds K fd ps []
structure Cs (K:W.Frag) (mg:Str->Option Value) (C:Addr):Prop where
 m:mg "CantPut"=some (.ref C)
 ty:W.typeIn K (.ref C)=some (.type "type")
 is:(W.clsIn K C).isSome=true
 bx:W.subIn K (.ref C) (.type "BaseException")=some true
structure mJ (K:W.Frag) (mg:Str->Option Value) (C fI fB fS fP fG fK:Addr):Prop where
 ct:Cls K C
 na:lQ K C "look"
 I_:Mk K C fI
 m:mg "Keep"=some (.ref C)
 b:Meth K C "behind" fB
 s:Meth K C "see" fS
 p:Meth K C "put" fP
 g:Meth K C "grade" fG
 k:Meth K C "keeps" fK
abbrev pf (H:Hp) (C v dx:Addr) (lv:V):Prop:=H v=some (.ins C dx [("look",lv)])
abbrev ph (H:Hp) (pk pb:Addr) (key by_:Str):Prop:=H pk=some (.tup [.str "rows",.str key,.str by_,.ref pb])
structure lh (H:Hp) (lv:V) (L:Lo) (fs:Fs):Prop where
 at_:fo H lv L
 ok:L.ok (.eX fs)
 dp:L.dp<3
theorem lh.mono {H H':Hp}{lv:V}{L:Lo}{fs:Fs}(h:lh H lv L fs)(t:Tu H H'):lh H' lv L fs:=⟨fo.mono t L h.at_,h.ok,h.dp⟩
structure iC (H:Hp) (pk pb:Addr) (key by_:Str) (xs:List V) (fs:Fs):Prop where
 at_:ph H pk pb key by_
 tu:H pb=some (.tup xs)
 fa:FA H xs fs
 W:(Kd.rows key by_ fs).W
theorem iC.mono {H H':Hp}{pk pb:Addr}{key by_:Str}{xs:List V}{fs:Fs}(h:iC H pk pb key by_ xs fs)(t:Tu H H'):iC H' pk pb key by_ xs fs:=⟨t _ _ h.at_,t _ _ h.tu,FA.mono t fs h.fa,h.W⟩
theorem iC.ka {H:Hp}{pk pb:Addr}{key by_:Str}{xs:List V}{fs:Fs}(h:iC H pk pb key by_ xs fs):KA H (.ref pk) (.rows key by_ fs):=by
 unfold KA;exact⟨pk,pb,xs,rfl,h.at_,h.tu,h.fa⟩
theorem iC.w5 {H:Hp}{pk pb:Addr}{key by_:Str}{xs:List V}{fs:Fs}(h:iC H pk pb key by_ xs fs):fs.names.Nodup/\fs.names.length<=12/\fs.W/\fs.pl key/\(by_=""\/fs.pl by_):=by
 have:=h.W;unfold Kd.W at this;exact this
theorem iC.wr {H:Hp}{pk pb:Addr}{key by_:Str}{xs:List V}{fs:Fs}(h:iC H pk pb key by_ xs fs):(Kd.eX fs).W:=by
 have:=h.w5;unfold Kd.W;exact⟨this.1,this.2.1,this.2.2.1⟩
noncomputable def ft {α:Type}(p:Ds->Bool):List Ds->List α->List α
 |m::ms,w::ws=>if p m then w::ft p ms ws else ft p ms ws
 |_,_=>[]
theorem Ct {α:Type}{p:Ds->Bool}{m:Ds}{w:α}:∀{ms:List Ds}{ws:List α},ms.length=ws.length->ft p (ms++[m]) (ws++[w])=ft p ms ws++if p m then [w] else []
 |[],[],_=>by
  show(if p m then w::[] else [])=[]++_;rw[List.nil_append]
 |[],_::_,h=>by cases h
 |_::_,[],h=>by cases h
 |x::ms,y::ws,h=>by
  have I:=Ct (p:=p) (m:=m) (w:=w) (ms:=ms) (ws:=ws) (Nat.succ.inj h);show(if p x then y::ft p (ms++[m]) (ws++[w]) else ft p (ms++[m]) (ws++[w]))=(if p x then y::ft p ms ws else ft p ms ws)++_;rw[I]
  cases p x <;> rfl
theorem Cu {α:Type}{p:Ds->Bool}{ms:List Ds}{ws:List α}{i:Nat}{m:Ds}{w:α}(hl:ms.length=ws.length)(I:ms[i]? =some m)(hw:ws[i]? =some w):ft p (ms.take (i+1)) (ws.take (i+1))=ft p (ms.take i) (ws.take i)++if p m then [w] else []:=by
 rw[take_add I,take_add hw];exact Ct (by rw[Q0n,Q0n,hl])
theorem pj {α:Type}{p:Ds->Bool}{ms:List Ds}{ws:List α}{i:Nat}{m:Ds}{w:α}(hl:ms.length=ws.length)(I:ms[i]? =some m)(hw:ws[i]? =some w)(c:p m=true):ft p (ms.take (i+1)) (ws.take (i+1))=ft p (ms.take i) (ws.take i)++[w]:=by
 rw[Cu hl I hw,if_pos c]
theorem nK {α:Type}{p:Ds->Bool}{ms:List Ds}{ws:List α}{i:Nat}{m:Ds}{w:α}(hl:ms.length=ws.length)(I:ms[i]? =some m)(hw:ws[i]? =some w)(c:¬p m=true):ft p (ms.take (i+1)) (ws.take (i+1))=ft p (ms.take i) (ws.take i):=by
 rw[Cu hl I hw,if_neg c,Q18]
theorem pq {α:Type}{p:Ds->Bool}{ms:List Ds}{ws:List α}(hl:ms.length=ws.length):ft p (ms.take ws.length) (ws.take ws.length)=ft p ms ws:=by
 rw[Q0r,<-hl,Q0r]
theorem eR.iw {H:Hp}{p:Ds->Bool}:∀{ws:List V}{ms:List Ds}{I:List (List Addr)},eR H ws ms I->eR H (ft p ms ws) (ms.filter p) (ft p ms I)
 |_,_,_,.nil=>.nil
 |_,_,_,.cons (b:=m) h r=>by
  have J:=eR.iw (p:=p) r;show eR H (if p m then _ else _) (List.filter p (m::_)) (if p m then _ else _);rw[List.filter_cons];by_cases c:p m=true
  . rw[if_pos c,if_pos c,if_pos c];exact .cons h J
  . rw[if_neg c,if_neg c,if_neg c];exact J
theorem eR.row {H:Hp}{ws:List V}{ms:List Ds}{Y:List (List Addr)}(h:eR H ws ms Y){i:Nat}{x:V}(J:ws[i]? =some x):∃m f,ms[i]? =some m/\Own H x (.dct m) f:=by
 have hi:i<ws.length:=(List.getElem?_eq_some_iff.mp J).1;have U:=A3.at (a0:=V.non) (b0:=Ds.nil) (c0:=[]) h i hi;have ex:ws.getD i .non=x:=by rw[Q0e,J];rfl
 rw[ex] at U;have I:i<ms.length:=by rw[<-(A3.len h).1];exact hi
 exact⟨_,_,by rw[Q0e,Q03 I];rfl,U⟩
theorem eR.sm {H H':Hp}{ws:List V}{ms:List Ds}{I:List (List Addr)}(h:eR H ws ms I)(s:Same H H'):eR H' ws ms I:=eR.keep (Tu.of s) h λc _ o e=>s c o e
theorem mK {fs:Fs}{m:Ds}(h:fJ fs m):eT (.eX fs) (.dct m):=by
 unfold eT;exact⟨m,rfl,h⟩
theorem qX {H:Hp}{x:V}{m:Ds}{f:List Addr}{fs:Fs}{key:Str}(Y:Own H x (.dct m) f)(hF:fJ fs m)(hk:fs.pl key):∃I,x=.ref I/\∀H',Same H H'->f_ H' I (.str key) (some (kV (keyOf m key))):=by
 unfold Own at Y;obtain⟨I,kvs,fq,rfl,J,_,U⟩:=Y;refine⟨I,rfl,λH' s=>?_⟩;have:=f_.k (k:=Sum.inr key) (s _ _ J);rw[U.key hF hk] at this;exact this
noncomputable def lb (L:Lo) (m:Ds):Bool:=L.b (.dct m)
noncomputable def fe (L:Lo) (m:Ds):Bool:= !L.b (.dct m)
def Cv (C:Addr):Sp:=λvs H Q _=>∃v dx lv,vs=[.ref v,lv]/\H v=some (.ins C dx [])/\∀H',(∀c o,c≠v->H c=some o->H' c=some o)->pf H' C v dx lv->Q .non H'
def Cw:Sp:=λvs H Q _=>∃v,vs=[v]/\Q (.str "firm") H
def Cy:Sp:=λvs H Q _=>∃v z,vs=[v,z]/\Q (.bl false) H
def Cz (C:Addr):Sp:=λvs H Q _=>∃v dx pk pb key by_ xs fs lv L,vs=[.ref v,.ref pk]/\pf H C v dx lv/\iC H pk pb key by_ xs fs/\lh H lv L fs/\∀H',Same H H'->Q (.ref pk) H'
def CA (C:Addr):Sp:=λvs H Q _=>∃v dx J D ws ms U fs lv L,vs=[.ref v,J,.ref D]/\pf H C v dx lv/\lh H lv L fs/\H D=some (.lst ws)/\eR H ws ms U/\ws.length<64/\(∀m∈ms,fJ fs m)/\
 ∀I H',Same H H'->H I=none->H' I=some (.lst (ft (lb L) ms ws))->Q (.ref I) H'
def CC:Sp:=λvs H Q _=>∃pk pb key by_ D ws ms I fs,vs=[.ref pk,.ref D]/\ph H pk pb key by_/\H D=some (.lst ws)/\eR H ws ms I/\ws.length<64/\(∀m∈ms,fJ fs m)/\fs.pl key/\(ms.map λm=>keyOf m key).Nodup/\
 ∀a kvs H',Same H H'->H' a=some (.dK kvs)->kvs.map (·.1)=ms.map (λm=>keyOf m key)->Q (.ref a) H'
def CD (n:Nat):Sp:=λvs H Q _=>∃I v k d J,vs=[I,v]/\KA H I k/\k.W/\Own H v d J/\Rs n k d none/\∀H',Same H H'->Q .non H'
section
variable {P:Program}{w:World}{K:W.Frag}{mg:Str->Option Value}{base:Heap}
variable {C Pi CF:Addr}
theorem Ja:fv Xn Xn (eS (fE 31 0)):=fC
theorem Jb (T:Tb mg)(OF:mJ K mg C I Y ac ae aa ab)(J:Dm K "__init__" "Keep.__init__" qz (fE 31 0) I U):en P w K mg base eu (1) I U qz (Cv C):=by
 refine J.F.ok Ja λvs H Q E h=>?_;obtain⟨v,dx,y,rfl,hv,q⟩:=h;refine⟨rfl,λaf A outer s nd hr hu=>?_⟩;refine⟨_,(eA (Ew (pv 0) (pv 1) rfl)),?_⟩
 ac_rfl
 refine(Zr rfl (Zr rfl ⟨v,C,dx,[],rfl,hv,OF.ct,OF.na,by decide,?_⟩));exact q _ (λc o hc e=>by rw[eE hc];exact e) eF
theorem Jc:fv ["self"] ["self"] (eS (fE 31 4)):=fC
theorem Jd (T:Tb mg)(I:Dm K "grade" "Keep.grade" ["self"] (fE 31 4) J U):en P w K mg base eu (1) J U ["self"] (Cw):=by
 refine I.F.ok Jc λvs H Q E h=>?_;obtain⟨v,rfl,q⟩:=h;refine⟨rfl,λY A outer s nd hr hu=>?_⟩;refine⟨_,(eA (eJ eY)),?_⟩
 ac_rfl
 exact q
theorem Je:fv Xo Xo (eS (fE 31 5)):=fC
theorem Jf (T:Tb mg)(I:Dm K "keeps" "Keep.keeps" qA (fE 31 5) J U):en P w K mg base eu (1) J U qA (Cy):=by
 refine I.F.ok Je λvs H Q E h=>?_;obtain⟨v,z,rfl,q⟩:=h;refine⟨rfl,λY A outer s nd hr hu=>?_⟩;refine⟨_,(eA (eJ g8)),?_⟩
 ac_rfl
 exact q
theorem Jg:fv ["self","kind","place"] ["self","kind"] (eS (fE 31 1)):=fC
theorem Jh (j:Nat)(T:Tb mg)(OF:mJ K mg C ai I al am aj ak)(J:Dm K "behind" "Keep.behind" qB (fE 31 1) I U)(Y:Dn K mg "ask_stands" ["stands"] (top 20) aa ab)(ac:en P w K mg base eu (1) aa ab ["stands"] (Cp))(ae:Dn K mg "unsound" k5 (top 23) af ag)(ah:en P w K mg base eu (j) af ag k5 (pd 3))(hj:1<=j):en P w K mg base eu (j+1) I U qB (Cz C):=by
 refine J.F.ok Jg λvs H Q E h=>?_;obtain⟨v,dx,pk,pb,key,by_,xs,fs,lv,L,rfl,hV,hK,hL,q⟩:=h;refine⟨rfl,λan A outer s nd hr hu=>?_⟩
 refine⟨_,(eh (j1 (eL ac hr Y (a_ (gU fc (eI (pv 1) b_) eY (eK _)) c_)))
  (eh (eN 2 nd (eL ah hr ae (a_ (pW (pv 0) rfl) (a_ (gd (a_ eY (a_ (eI (pv 1) b_) c_))) c_))))
  (eh (eO (eM kG (pv 2) gP (eK _)) (eA mR) eQ)
  (eA (eJ (pv 1)))))),?_⟩
 ac_rfl
 refine(Zr rfl ⟨pk,_,_,Zr rfl ⟨rfl,d_.of hK.at_,rfl,rfl,?_⟩⟩);rw[decide_eq_true rfl];refine⟨rfl,?_⟩;refine(Zr rfl ⟨v,C,dx,_,Zr rfl ⟨hV,OF.ct,OF.na,rfl,Zr rfl ⟨pk,_,_,Zr rfl ⟨rfl,d_.of hK.at_,rfl,gh,λt ht=>?_⟩⟩⟩⟩);have s1:Same H (upd H t (.tup [.str "record",.ref pb])):=Same.new ht;refine⟨lv,.ref t,L,.eX fs,rfl,fo.mono (Tu.of s1) L hL.at_,by unfold KA;exact⟨t,pb,xs,rfl,eF,s1 _ _ hK.tu,FA.mono (Tu.of s1) fs hK.fa⟩,hK.wr,hL.ok,hL.dp,λH2 s2=>?_⟩;refine(Zr rfl ⟨rfl,Zr rfl ?_⟩);rw[decide_eq_true rfl];exact e_ (Zr rfl (q _ (s1.trans s2)))
theorem Ji:fv XZ XZ (eS (fE 31 2)):=fC
theorem Jj (T:Tb mg)(OF:mJ K mg C Y aa I ak ai aj)(J:Dm K "see" "Keep.see" qC (fE 31 2) I U)(ae:Dn K mg "holds" kf (top 27) af ag)(ah:en P w K mg base eu (5) af ag kf (jU 3)):en P w K mg base eu (6) I U qC (CA C):=by
 refine J.F.ok Ji λvs H Q E h=>?_;obtain⟨v,dx,kv,D,ws,ms,fl,fs,lv,L,rfl,hV,hL,hD,ac,am,al,q⟩:=h;refine⟨rfl,λan A outer s nd hr hu=>?_⟩;refine⟨_,(eA (eJ (kL (g:=(gS 0)) (tt:=(tB (jg _ _ _ (gy (rK K (fT 1) "look") (gy (fT 0) iz))))) (te:=(fT 0)) (own:=["row"]) rfl (i5 (N:=XZ) (sc:=eS (fE 31 2))) (j3 (pv 2)) (λ_ _ _ _ _=>(fL (i:=0) (show(["row","self","kind","source"]:List Str).Nodup by decide +kernel) rfl (Or.inl rfl) (.inr rfl))) (λ_ _ _ _ _=>(lX (gx (eL ah hr ae (a_ (pW (pv 1) rfl) (a_ (pv 0) c_)))))) (λ_ _ _ _ _=>(pv 0))))),?_⟩
 ac_rfl
 have ab:=(A3.len ac).1;refine(Zr rfl ⟨D,rfl,⟨_,eB.of hD⟩,k_ (nH (eB.of hD)) (λi=>ft (lb L) (ms.take i) (ws.take i)) (by omega) (λp hp=>?_) (λi x hx add skip=>?_)⟩)
 . rw[pq ab.symm];exact q p _ (Same.new hp) hp eF
 . obtain⟨m,f,hm,ho⟩:=ac.row hx;refine⟨rfl,Zr rfl ⟨v,C,dx,_,Zr rfl ⟨hV,OF.ct,OF.na,rfl,Zr rfl ⟨lv,x,L,.eX fs,.dct m,f,rfl,hL.at_,hL.ok,ho,mK (al m (Q0m hm)),hL.dp,Zr rfl (fW (λc=>(Zr rfl (add _ (pj ab.symm hm hx c)))) (λc=>skip (nK ab.symm hm hx c)))⟩⟩⟩⟩
theorem Jk:fv ["kind","rows","found","row"] XU (eS (top 17)):=fC
theorem Jl (T:Tb mg)(J:Dn K mg "by_key" iT (top 17) U Y):en P w K mg base eu (1) U Y iT (CC):=by
 refine J.F.ok Jk λvs H Q E h=>?_;obtain⟨pk,pb,key,by_,D,ws,ms,fl,fs,rfl,ah,hD,aa,am,ac,ae,ai,q⟩:=h;refine⟨rfl,λan A outer s nd hr hu=>?_⟩
 refine⟨_,(eh (eN 2 nd pZ)
  (eh (hX PassesOwn.never rfl (j3 (pv 1)) (fL (i:=3) nd rfl gc) (eA (m7 hu (pv 2) (hZ hu (pv 3) (eI (pv 0) b_) (λ_ _=>rfl)) (pv 3) rfl)))
  (eA (eJ (pv 2))))),?_⟩
 ac_rfl
 have af:=(A3.len aa).1;intro p hp;have s0:Same H (upd H p (.dK [])):=Same.new hp;refine(Zr rfl ⟨D,rfl,⟨_,eB.of (s0 _ _ hD)⟩,yW (xs:=ws) (λi σ H'=>i<=ws.length/\∃y ek,σ=[some (.ref pk),some (.ref D),some (.ref p),y]/\Same H H'/\H' p=some (.dK ek)/\ek.map (·.1)=(ms.take i).map λm=>keyOf m key) ⟨Q07 _,_,[],rfl,s0,eF,rfl⟩ ?_ ?_ ?_⟩)
 . intro i σ H' _ zq;obtain⟨_,y,ek,rfl,s2,_⟩:=zq;exact eB.of (s2 _ _ hD)
 . intro i x σ H' hx zq;obtain⟨_,y,ek,rfl,s2,ab,I⟩:=zq;have hi:i<ws.length:=(List.getElem?_eq_some_iff.mp hx).1;obtain⟨m,f,hm,ho⟩:=aa.row hx;obtain⟨rr,rfl,gk⟩:=qX ho (ac m (Q0m hm)) ae
   have aj:gD ek (keyOf m key)=none:=by
    have sv:=qN I (keyOf m key)
    have:jB key (ms.take i) (keyOf m key)=false:=by
     cases z:jB key (ms.take i) (keyOf m key) with
     |false=>rfl
     |true=>
      obtain⟨m',ak,e⟩:=List.any_eq_true.mp z;have e:=of_decide_eq_true e;obtain⟨j,hj,ej⟩:=Q16 ak;rw[Q0n] at hj;rw[Q12] at ej;have al:i<ms.length:=by omega
      have:=List.pairwise_iff_getElem.mp (List.pairwise_map.mp ai) j i (by omega) al (by omega);rw[ej,(List.getElem?_eq_some_iff.mp hm).2] at this;exact absurd e this
    rw[this] at sv
    cases z:gD ek (keyOf m key) with
    |none=>rfl
    |some o=>rw[z] at sv;cases sv
   have ag:ek.length<sizeLine:=by
    have:=congrArg List.length I;rw[Q04,Q04,Q0n] at this;exact gE (by omega)
   refine(Zr rfl (Zr rfl (Zr rfl (Zr rfl ⟨pk,_,_,Zr rfl ⟨rfl,d_.of (s2 _ _ ah),rfl,rr,Zr rfl ⟨gk _ s2,p,Zr rfl ⟨jy.k ab ag,?_⟩⟩⟩⟩))));rw[oO aj];refine⟨hi,_,Zr rfl ⟨λc o e=>by rw[eE (eP e hp)];exact s2 _ _ e,eF,?_⟩⟩;rw[Q0j,I,take_add hm,Q0j];rfl
 . intro σ H' zq;obtain⟨_,y,ek,rfl,s2,ab,I⟩:=zq;rw[af,Q0r] at I;exact(Zr rfl (q p ek _ s2 ab I))
theorem Jm:fv ["kind","seen","place"] ["kind","seen"] (eS (top 19)):=fC
theorem Jn (n j:Nat)(T:Tb mg)(I:Dn K mg "ask_fit" qD (top 19) J U)(Y:Dn K mg "misfit" iA (top 8) aa ab)(ac:en P w K mg base eu (j) aa ab iA (k9 n)):en P w K mg base eu (j+1) J U qD (CD n):=by
 refine I.F.ok Jm λvs H Q E h=>?_;obtain⟨kv,v,k,d,fp,rfl,hk,hW,hO,hR,q⟩:=h;refine⟨rfl,λae A outer s nd hr hu=>?_⟩
 refine⟨_,(eh (eN 2 nd (eL ac hr Y (a_ (pv 0) (a_ (pv 1) c_))))
  (eA (eO (eM kG (pv 2) gP (eK _)) (eA mR) eQ))),?_⟩
 ac_rfl
 refine(Zr rfl (Zr rfl ⟨kv,v,k,d,fp,none,rfl,hk,hW,hO,hR,λu H1 s1 hu=>?_⟩));have hu:u=.non:=hu;subst hu;refine(Zr rfl ⟨rfl,Zr rfl ?_⟩);rw[decide_eq_true rfl];exact e_ (q _ s1)
end
end Pb
namespace L2
open Spec PyProof.Rows
section
variable {X:Cx}{N':List Str}{e:Expr}{t:TE}
structure nL (X:Cx) (N':List Str):Prop where
 len:N'.length=X.N.length
 old:∀(i:Nat) y,N'[i]? =some y->X.N[i]? =some y\/¬pG X.env.scope y
theorem Inv.Jo {pins:List (Addr × Obj)}{σ:St}{H:Hp}{s:Shared}(r:nL X N')(I:Inv X pins σ H s):Inv { X with N:=N' } pins σ H s:=by
 refine⟨⟨I.ok.mod,I.ok.kind,I.ok.glob,I.ok.blt,I.ok.above,I.ok.inj,I.ok.has,I.ok.cab,I.ok.hd,I.ok.frames,I.ok.stk,I.ok.n9,I.ok.bs,I.ok.iX,I.ok.kx,I.ok.lB,I.ok.iF,I.ok.jI⟩,I.os,I.bare,I.base,?_,I.cell,I.free,I.ij,I.pin,I.hok,I.len.trans r.len.symm⟩;obtain⟨m,h1,h2⟩:=I.loc;refine⟨m,h1,λi x v hi U J=>?_⟩;rcases r.old i x hi with h|h
 . exact h2 i x v h U J
 . exact absurd J h
theorem Inv.Jp {pins:List (Addr × Obj)}{σ:St}{H:Hp}{s:Shared}(r:nL X N')(U:∀(i:Nat) v,X.N[i]? ≠N'[i]? ->σ[i]? ≠some (some v))(I:Inv { X with N:=N' } pins σ H s):Inv X pins σ H s:=by
 refine⟨⟨I.ok.mod,I.ok.kind,I.ok.glob,I.ok.blt,I.ok.above,I.ok.inj,I.ok.has,I.ok.cab,I.ok.hd,I.ok.frames,I.ok.stk,I.ok.n9,I.ok.bs,I.ok.iX,I.ok.kx,I.ok.lB,I.ok.iF,I.ok.jI⟩,I.os,I.bare,I.base,?_,I.cell,I.free,I.ij,I.pin,I.hok,I.len.trans r.len⟩;obtain⟨m,h1,h2⟩:=I.loc;refine⟨m,h1,λi x v hi Y J=>?_⟩;by_cases hn:X.N[i]? =N'[i]?
 . exact h2 i x v (by rw[<-hn];exact hi) Y J
 . exact absurd Y (U i v hn)
theorem nL.of {N:List Str}{sc:Scope}(U:X.N=N)(Y:X.env.scope=sc)(hl:N'.length=N.length)(hb:(List.zip N' N).all (λp=>p.1 == p.2 || ((sc.names.lookup p.1 != some .local) && (sc.names.lookup p.1 != some .cell) && (sc.names.lookup p.1 != some .free)))=true):nL X N':=by
 subst U;subst Y;refine⟨hl,λi y I=>?_⟩;have hi:=(List.getElem?_eq_some_iff.mp I).1;have J:X.N[i]? =some (X.N[i]'(by omega)):=Q03 _
 have hm:(y,X.N[i]'(by omega))∈List.zip N' X.N:=by
  refine Q0m (i:=i) ?_;rw[List.getElem?_zip_eq_some];exact⟨I,J⟩
 have:=List.all_eq_true.mp hb _ hm;simp only[Bool.or_eq_true,Bool.and_eq_true,beq_iff_eq,bne_iff_ne] at this;rcases this with h|⟨⟨h1,h2⟩,h3⟩
 . exact .inl (by rw[J,h])
 . exact .inr λz=>z.elim h1 λz=>z.elim h2 h3
end
def Jq (N N':List Str) (t:TS):TS:=λD σ H=>t { nx:=λI H'=>(∀(i:Nat) v,N[i]? ≠N'[i]? ->I[i]? ≠some (some v))/\D.nx I H',rt:=λ_ _=>False } σ H
theorem Jr {X:Cx}{N':List Str}{st:Stmt}{t:TS}(r:nL X N')(h:PS { X with N:=N' } st t):PS X st (Jq X.N N' t):=by
 intro pins s σ H D I q;refine eZ (h pins s σ H _ (I.Jo r) q) λf s1 z=>?_
 cases f with
 |next=>
  obtain⟨J,H',U,Y,q'⟩:=z;exact⟨J,H',U.Jp r Y,q'⟩
 |ret u=>
  obtain⟨_,_,_,_,_,z⟩:=z;exact z.elim
 |brk=>
  obtain⟨_,_,_,z⟩:=z;exact z.elim
 |cont=>
  obtain⟨_,_,_,z⟩:=z;exact z.elim
theorem Js {N N':List Str}{k:Nat}{z:Str}{σ:St}(e:N'=N.set k z)(J:σ[k]? =some none):∀(i:Nat) v,N[i]? ≠N'[i]? ->σ[i]? ≠some (some v):=λi v I h=>by
 by_cases c:i=k
 . rw[c,J] at h
   cases h
 . exact I (by rw[e,Q1j (Ne.symm c)])
end L2
namespace Pb
open L2 PyProof.Rows
def Kn (H H':Hp):Prop:=∀c o,(∀ps,o≠ .gA ps)->H c=some o->H' c=some o
theorem Kn.of {H H':Hp}(s:Same H H'):Kn H H':=λc o _ e=>s c o e
theorem Kn.ja {P:Addr}{I:Pos}{J:Str}{H H':Hp}(k:jW P H H')(hT:eU P I J H):Kn H H':=λc o U e=>by
 obtain⟨ps,Y⟩:=hT.tab;exact k c o (gO e Y (U ps)) e
theorem Kn.tu {H H':Hp}(k:Kn H H'):Tu H H':=λc xs e=>k c _ (by intro ps z;cases z) e
theorem Kn.lst {H H':Hp}(k:Kn H H'){c:Addr}{xs:List V}(e:H c=some (.lst xs)):H' c=some (.lst xs):=k c _ (by intro ps z;cases z) e
theorem eR.kn {H H':Hp}{vs:List V}{rs:List Ds}{I:List (List Addr)}(h:eR H vs rs I)(k:Kn H H'):eR H' vs rs I:=eR.keep k.tu h λc hc o e=>k c o (by
 intro ps z;rcases eR.mu h c hc with⟨_,q⟩|⟨_,q⟩ <;> rw[e] at q <;> rw[z] at q <;> cases q) e
theorem jc {H:Hp}{D:Addr}{vs:List V}{ms:List Ds}{I:List (List Addr)}(J:H D=some (.lst vs))(h:eR H vs ms I):Own H (.ref D) (.lst (gm ms)) (D::I.flatten):=by
 unfold Own;exact⟨D,vs,Zr rfl ⟨J,rfl,eR.own h⟩⟩
theorem eR.app {H:Hp}{v2:List V}{I:List Ds}{f2:List (List Addr)}(h2:eR H v2 I f2):∀{v1:List V}{J:List Ds}{f1:List (List Addr)},eR H v1 J f1->eR H (v1++v2) (J++I) (f1++f2)
 |_,_,_,.nil=>h2
 |_,_,_,.cons h r=>.cons h (eR.app h2 r)
structure CG (n:Nat) (C:Addr) (H:Hp) (v dx pk pb:Addr) (key by_:Str) (xs:List V) (fs:Fs) (lv:V) (L:Lo) (D:Addr) (ws:List V) (ms:List Ds) (fl:List (List Addr)) (D2:Addr) (w2:List V) (ss:List Ds) (f2:List (List Addr)):Prop where
 v:pf H C v dx lv
 k:iC H pk pb key by_ xs fs
 l:lh H lv L fs
 a1:H D=some (.lst ws)
 r1:eR H ws ms fl
 l1:ws.length<=30
 CH:∀m∈ms,fJ fs m
 a2:H D2=some (.lst w2)
 r2:eR H w2 ss f2
 l2:w2.length<=30
 ug:∀m∈ss,fJ fs m
 rs:Rs n (.rows key by_ fs) (.lst (gm ss)) none
 all:∀m∈ss,lb L m=true
 kn:((ss++ms.filter (fe L)).map λm=>keyOf m key).Nodup
def CI (n:Nat) (Pi C:Addr):Sp:=λvs H Q _=>∃v dx pk pb key by_ xs fs lv L D ws ms Y D2 w2 ss f2,vs=[.ref v,.ref pk,.ref D,.ref D2]/\CG n C H v dx pk pb key by_ xs fs lv L D ws ms Y D2 w2 ss f2/\eU Pi jX jY H/\
 ∀U I J H',jW Pi H H'->eU Pi jX jY H'->H' U=some (.lst I)->eR H' I (gw key by_ (ss++ms.filter (fe L))) J->Q (.ref U) H'
def CJ (n:Nat) (Pi C:Addr):Sp:=λvs H Q _=>∃v dx pk pb key by_ xs fs lv L D ws ms fl D2 w2 ss f2,vs=[.ref v,.ref pk,.ref D,.ref D2]/\CG n C H v dx pk pb key by_ xs fs lv L D ws ms fl D2 w2 ss f2/\eU Pi jX jY H/\
 ∀U I J Y H',jW Pi H H'->eU Pi jX jY H'->H' U=some (.lst I)->eR H' I (gw key by_ (ss++ms.filter (fe L))) J->H' Y=some (.tup [.str "done",.ref U])->Q (.ref Y) H'
def CK (n:Nat):Sp:=λvs H Q _=>∃I J U k Y u2 d f1 f2,vs=[I,.ref J,.ref U]/\KA H I k/\k.W/\H J=some (.tup [.str "done",Y])/\H U=some (.tup [.str "done",u2])/\Own H Y d f1/\Own H u2 d f2/\eT k d/\d.dep<=n/\d.Sm/\∀H',Same H H'->Q (.bl true) H'
section
variable {P:Program}{w:World}{K:W.Frag}{mg:Str->Option Value}{base:Heap}
variable {C Pi CF:Addr}
theorem Jt:fv Xf Xj (eS (fE 31 3)):=fC
theorem Ju (n j:Nat)(T:Tb mg)(OF:mJ K mg C ak ap aC I ax ay)(J:Dm K "put" "Keep.put" qE (fE 31 3) I U)(ag:Dn K mg "ask_fit" qD (top 19) ah ai)(aj:en P w K mg base eu (j) ah ai qD (CD n))(Y:Dn K mg "holds" kf (top 27) av aw)(aa:en P w K mg base eu (5) av aw kf (jU 3))(al:Dn K mg "by_key" iT (top 17) am an)(ao:en P w K mg base eu (1) am an iT (CC))(ab:Dn K mg "in_order" iT (top 16) ac ae)(af:en P w K mg base eu (8) ac ae iT (qU Pi jX jY))(hj:8<=j):en P w K mg base eu (j+1) I U qE (CI n Pi C):=by
 refine J.F.ok Jt λvs H Q E h=>?_;obtain⟨v,dx,pk,pb,key,by_,xs,fs,lv,L,D,ws,ms,fl,D2,w2,ss,f2,rfl,X,hT,q⟩:=h;refine⟨rfl,λa7 A outer s nd hr hu=>?_⟩
 refine⟨_,(eh (j1 (eL aj hr ag (a_ (pv 1) (a_ (pv 3) c_))))
  (eh (Jr (N':=["self","kind","source","seen","hidden","hidden_keys","number","~7"]) (nL.of (N:=Xf) (sc:=eS (fE 31 3)) rfl rfl rfl (by decide +kernel)) (oH (i:=4) (show(["self","kind","source","seen","hidden","hidden_keys","number","~7"]:List Str).Nodup by decide +kernel) rfl (Or.inl rfl) (g:=(gS 0)) (tt:=(rq (tB (jg _ _ _ (gy (rK K (fT 1) "look") (gy (fT 0) iz)))))) (te:=(fT 0)) (own:=["row"]) rfl (i5 (N:=["self","kind","source","seen","hidden","hidden_keys","number","~7"]) (sc:=eS (fE 31 3))) (j3 (pv 2)) (λ_ _ _ _ _=>(fL (i:=0) (show(["row","self","kind","source","seen","hidden","hidden_keys","number","~7"]:List Str).Nodup by decide +kernel) rfl (Or.inl rfl) (.inr rfl))) (λ_ _ _ _ _=>(lX (gW (gx (eL aa hr Y (a_ (pW (pv 1) rfl) (a_ (pv 0) c_))))))) (λ_ _ _ _ _=>(pv 0))))
  (eh (eN 5 nd (eL ao hr al (a_ (pv 1) (a_ (pv 4) c_))))
  (eh (hX PassesOwn.never rfl (r8 rfl T.sS (a_ (pv 3) c_)) (iZ rfl (gQ (fL (i:=6) nd rfl gc) (gQ (fL (i:=7) nd rfl gc) iY))) (eA (eO (PW.pt (g9 (gW (gx (eL aa hr Y (a_ (pW (pv 0) rfl) (a_ (pv 7) c_))))) (hU (pI (rV hu (hZ hu (pv 7) (eI (pv 1) b_) (λ_ _=>rfl)) (pv 5)) (by with_unfolding_all rfl))))) (eA mR) eQ)))
  (eA (eJ (eL af hr ab (a_ (pv 1) (a_ (eG jN (pv 3) (pv 4)) c_))))))))),?_⟩
 ac_rfl
 obtain⟨a8,a9,ba,ar,aL⟩:=X.k.w5;have au:=(A3.len X.r1).1;have a5:=(A3.len X.r2).1;have bb:=X.l1;have bc:=X.l2;refine(Zr rfl (Zr rfl ⟨.ref pk,.ref D2,_,_,Zr rfl ⟨X.k.ka,X.k.W,jc X.a2 X.r2,X.rs,λH1 s1=>?_⟩⟩));have aG:=s1 _ _ X.v;have az:=X.l.mono (Tu.of s1);have fF:=X.r1.sm s1;refine(Zr rfl ⟨D,rfl,⟨_,eB.of (s1 _ _ X.a1)⟩,k_ (nH (eB.of (s1 _ _ X.a1))) (λi=>ft (fe L) (ms.take i) (ws.take i)) (by omega) (λp hp=>?_) (λi x hx add skip=>?_)⟩)
 case refine_2=>
  obtain⟨m,f,hm,ho⟩:=fF.row hx;refine⟨rfl,Zr rfl ⟨v,C,dx,_,Zr rfl ⟨aG,OF.ct,OF.na,rfl,Zr rfl ⟨lv,x,L,.eX fs,.dct m,f,rfl,az.at_,az.ok,ho,mK (X.CH m (Q0m hm)),az.dp,Zr rfl (fW (λc=>(Zr rfl (add _ (pj au.symm hm hx c)))) (λc=>skip (nK au.symm hm hx c)))⟩⟩⟩⟩
 rw[pq au.symm];refine⟨Js (k:=7) (z:="~7") rfl rfl,?_⟩;have s2:=s1.trans (Same.new (o:=.lst (ft (fe L) ms ws)) hp);have aD:=eF (H:=H1) (a:=p) (o:=.lst (ft (fe L) ms ws));generalize upd H1 p (.lst (ft (fe L) ms ws))=H2 at s2 aD;have aE:eR H2 (ft (fe L) ms ws) (ms.filter (fe L)) (ft (fe L) ms fl):=(X.r1.sm s2).iw;have a6:=(A3.len aE).1;have bd:(ms.filter (fe L)).length<=30:=Q0f (Q2d _ _) (by omega);have aH:∀m∈ms.filter (fe L),fJ fs m:=λm hm=>X.CH m (List.mem_filter.mp hm).1;have aI:=X.kn;rw[Q0j] at aI;obtain⟨be,aM,aP⟩:=List.nodup_append.mp aI;clear aG az fF s1;refine(Zr rfl (Zr rfl ⟨pk,pb,key,by_,p,_,_,_,fs,rfl,s2 _ _ X.k.at_,aD,aE,by omega,aH,ar,aM,λa kvs H3 s3 ha aQ=>?_⟩));have aq:=s2.trans s3;have aT:=X.r2.sm aq;refine(Zr rfl ⟨D2,rfl,⟨_,eB.of (aq _ _ X.a2)⟩,t8 (xs:=w2) (λi σ H'=>∃x y,σ=[some (.ref v),some (.ref pk),some (.ref D),some (.ref D2),some (.ref p),some (.ref a),x,y]/\Same H3 H') ⟨_,Zr rfl (Same.refl _)⟩ ?_ ?_ ?_⟩)
 . rintro i σ H' _ ⟨x,y,rfl,s4⟩;exact eB.of (s4 _ _ (aq _ _ X.a2))
 . rintro i x σ H' t hx ⟨_,_,rfl,s4⟩ ht;have s5:=s4.trans (Same.new (o:=.tup [.int i,x]) ht);refine⟨t,Zr rfl ⟨d_.of eF,rfl,_,Zr rfl ⟨_,Zr rfl ⟨rfl,?_⟩⟩⟩⟩;have aF:=aq.trans s5;obtain⟨m,f,hm,ho⟩:=aT.row hx;have aA:=Q0m hm;refine(Zr rfl ⟨v,C,dx,_,Zr rfl ⟨aF _ _ X.v,OF.ct,OF.na,rfl,Zr rfl ⟨lv,x,L,.eX fs,.dct m,f,rfl,(X.l.mono (Tu.of aF)).at_,X.l.ok,ho.same s5,mK (X.ug m aA),X.l.dp,?_⟩⟩⟩);rw[show L.b (.dct m)=true from X.all m aA];refine⟨true,rfl,e_ ?_⟩;obtain⟨rr,rfl,gk⟩:=qX ho (X.ug m aA) ar
   have aU:gD kvs (keyOf m key)=none:=by
    have sv:=qN aQ (keyOf m key)
    cases z:jB key (ms.filter (fe L)) (keyOf m key) with
    |false=>
     rw[z] at sv
     cases y:gD kvs (keyOf m key) with
     |none=>rfl
     |some o=>rw[y] at sv;cases sv
    |true=>
     obtain⟨m',aV,e⟩:=List.any_eq_true.mp z;exact absurd (of_decide_eq_true e).symm (aP _ (Q11 (f:=λm=>keyOf m key) aA) _ (Q11 (f:=λm=>keyOf m key) aV))
   refine(Zr rfl (Zr rfl ⟨pk,_,_,Zr rfl ⟨rfl,d_.of (aF _ _ X.k.at_),rfl,rr,Zr rfl ⟨gk _ s5,Zr rfl ⟨a,Zr rfl ⟨f_.k (s5 _ _ ha),Zr rfl ?_⟩⟩⟩⟩⟩));rw[aU];exact e_ ⟨_,Zr rfl s5⟩
 . rintro σ H' ⟨_,_,rfl,s4⟩;have aJ:=aq.trans s4;have aK:=(s3.trans s4) _ _ aD;refine(Zr rfl (Zr rfl (Zr rfl ⟨D2,p,_,Zr rfl ⟨rfl,aJ _ _ X.a2,aK,Q0k (gE (by omega)),λl hl=>?_⟩⟩)));have s6:Same H' (upd H' l (.lst (w2++ft (fe L) ms ws))):=Same.new hl;have aB:=aJ.trans s6;refine⟨pk,l,pb,key,by_,fs,_,ss++ms.filter (fe L),Zr rfl ⟨aB _ _ X.k.at_,eF,eR.app ((aE.sm (s3.trans s4)).sm s6) (X.r2.sm aB),by rw[Q0d];omega,hT.same aB,?_,ar,aL,X.kn,λD' aW aX H7 aY aZ _ a3 a4 _=>q D' aW aX H7 (λc o hc e=>aY c o hc (aB c o e)) aZ a3 a4⟩⟩;intro m hm;rcases List.mem_append.mp hm with e|e
   . exact X.ug m e
   . exact aH m e
theorem Jv:fv ["_law_view","_law_kind_here","_law_source","_law_seen","_law_way_here","_law_made","e"] XS (eS (top 54)):=fC
theorem Jw (n j:Nat)(T:Tb mg)(OF:mJ K mg C ae af aj I ag ah)(XC:Cs K mg CF)(aa:Dn K mg "_law_put" qF (top 54) ab ac)(J:Dm K "put" "Keep.put" qE (fE 31 3) I U)(Y:en P w K mg base eu (j) I U qE (CI n Pi C)):en P w K mg base eu (j+1) ab ac qF (CJ n Pi C):=by
 have CT:=OF.ct;have ai:=OF.p;refine aa.F.ok Jv λvs H Q E h=>?_;obtain⟨v,dx,pk,pb,key,by_,xs,fs,lv,L,D,ws,ms,fl,D2,w2,ss,f2,rfl,X,hT,q⟩:=h;refine⟨rfl,λaq A outer s nd hr hu=>?_⟩
 refine⟨_,(eh (eN 4 nd gP)
  (eh (eN 5 nd gP)
  (eh (II (Ek:=λ_ _ _=>False) (i:=6) rfl rfl (IF (i:=5) nd rfl (.inl rfl) (IJ (om (pv 0) CT ai Y (hr.mono (by omega)) J.b .nil jh (a_ (pv 1) (a_ (pv 2) (a_ (pv 3) c_)))))) rfl XC.m XC.ty XC.is XC.bx (λ_ _ _ z=>z.elim) nd rfl rfl (λa=>yT))
  (eh (eO (eM lL (pv 4) gP (eK _)) (eA (eJ (gd (a_ eY (a_ (pv 5) c_))))) eQ)
  (eA mR))))),?_⟩
 ac_rfl
 refine⟨?_,λa C' dd H' na hE=>hE.elim⟩;refine(Zr rfl ⟨v,dx,Zr rfl ⟨X.v,rfl,Zr rfl (Zr rfl (Zr rfl ⟨v,dx,pk,pb,key,by_,xs,fs,lv,L,D,ws,ms,fl,D2,w2,ss,f2,rfl,X,hT,λD' ak al H' kp am an ao=>?_⟩))⟩⟩);refine(Zr rfl ⟨rfl,Zr rfl (fw (Zr rfl ⟨gh,λtq ap=>?_⟩))⟩);have s1:Same H' (upd H' tq (.tup [.str "done",.ref D'])):=Same.new ap;exact q D' ak al tq _ (kp.trans (Kp.of s1)) (am.same s1) (s1 _ _ an) (ao.sm s1) eF
theorem Jx:fv XG XG (eS (top 55)):=fC
theorem Jy (n:Nat)(T:Tb mg)(I:Dn K mg "_law_same_end" i7 (top 55) J U)(Y:Dn K mg "_law_alike" i7 (top 44) aa ab)(ac:en P w K mg base eu (n+1) aa ab i7 (nI n)):en P w K mg base eu (n+2) J U i7 (CK n):=by
 refine I.F.ok Jx λvs H Q E h=>?_;obtain⟨kv,t1,t2,k,u1,u2,d,f1,f2,rfl,hk,hW,h1,h2,o1,o2,hF,hd,ae,q⟩:=h;refine⟨rfl,λaf A outer s nd hr hu=>?_⟩
 refine⟨_,(eh (eO (eM jw (eI (pv 1) b_) (eI (pv 2) b_) (eK _)) (eA (eJ g8)) eQ)
  (eh (eO (eM fc (eI (pv 2) b_) eY (eK _)) (eA mR) eQ)
  (eA (eJ (eL ac hr Y (a_ (pv 0) (a_ (eI (pv 1) b_) (a_ (eI (pv 2) b_) c_)))))))),?_⟩
 ac_rfl
 refine(Zr rfl ⟨t1,_,_,Zr rfl ⟨rfl,d_.of h1,rfl,Zr rfl ⟨t2,_,_,Zr rfl ⟨rfl,d_.of h2,rfl,rfl,Zr rfl (kJ rfl ?_)⟩⟩⟩⟩);refine(Zr rfl ⟨t2,_,_,Zr rfl ⟨rfl,d_.of h2,rfl,rfl,Zr rfl ?_⟩⟩);rw[show decide (V.str "done"=V.str "refused")=false by decide +kernel];refine e_ ?_;exact(Zr rfl (Zr rfl ⟨t1,_,_,Zr rfl ⟨rfl,d_.of h1,rfl,Zr rfl ⟨t2,_,_,Zr rfl ⟨rfl,d_.of h2,rfl,kv,u1,u2,k,d,f1,f2,rfl,hk,hW,o1,o2,hF,hd,ae,q⟩⟩⟩⟩))
end
end Pb
namespace L2
open Spec PyProof.Rows
theorem Jz {X:Cx}:gn X (compareOp .IsNot) (λx y H Q=>x=.bl false/\y=.bl false/\Q (.bl false) H):=by
 intro pins s σ H x y v u Q I J U h;obtain⟨rfl,rfl,q⟩:=h
 cases J
 cases U
 have e:compareOp .IsNot (.bool false) (.bool false)=(pure (.bool false):Sem Value):=by
  unfold compareOp isSame;rfl
 show wpAny _ _ (compareOp .IsNot (Value.bool false) (Value.bool false)) _ _ _;rw[e];exact Q0c ⟨.bl false,H,I,rfl,q⟩
end L2
namespace Pb
open L2 PyProof.Rows
def Kt (b:Addr) (H H':Hp):Prop:=∀c o,c≠b->(∀ps,o≠ .gA ps)->H c=some o->H' c=some o
theorem Kt.of {b:Addr}{H H':Hp}(s:Same H H'):Kt b H H':=λc o _ _ e=>s c o e
theorem Kt.trans {b:Addr}{H H1 H2:Hp}(x:Kt b H H1)(y:Kt b H1 H2):Kt b H H2:=λc o hc I e=>y c o hc I (x c o hc I e)
theorem Kt.tu {b:Addr}{H H':Hp}{l:List V}(k:Kt b H H')(I:H b=some (.lst l)):Tu H H':=λc xs e=>k c _ (gO e I (by intro z;cases z)) (by intro ps z;cases z) e
theorem Kt.lst {b c:Addr}{H H':Hp}{xs:List V}(k:Kt b H H')(hc:c≠b)(e:H c=some (.lst xs)):H' c=some (.lst xs):=k c _ hc (by intro ps z;cases z) e
theorem eR.kt {b:Addr}{H H':Hp}{l vs:List V}{rs:List Ds}{I:List (List Addr)}(h:eR H vs rs I)(k:Kt b H H')(J:H b=some (.lst l))(U:b ∉ I.flatten):eR H' vs rs I:=eR.keep (k.tu J) h λc hc o e=>k c o (λz=>U (by rw[<-z];exact hc)) (by
 intro ps z;rcases eR.mu h c hc with⟨_,q⟩|⟨_,q⟩ <;> rw[e] at q <;> rw[z] at q <;> cases q) e
structure nM (n:Nat) (key y:Str) (fs:Fs) (ms:List Ds):Prop where
 ok:∀m∈ms,fJ fs m/\m.dep<=n/\m.Sm
 px:ms.Pairwise (jj key y)
 kn:(ms.map λm=>keyOf m key).Nodup
 len:ms.length<=60
structure Fr (Pt Ps Pi Po:Addr):Prop where
 ts:Pt≠Ps
 ti:Pt≠Pi
 to:Pt≠Po
 si:Ps≠Pi
 so:Ps≠Po
 io:Pi≠Po
structure RW (K:W.Frag) (Pt Ps Pi Po a b:Addr) (ns:List Int) (n:Int) (H:Hp):Prop where
 g:G0 K H a b ns n
 v:eU Pt gH gI H
 s:eU Ps mF mG H
 i:eU Pi jX jY H
 o:eU Po nF nG H
section
variable {K:W.Frag}{Pt Ps Pi Po a b:Addr}{ns:List Int}{n n':Int}{H H':Hp}
theorem RW.same (h:RW K Pt Ps Pi Po a b ns n H)(s:Same H H'):RW K Pt Ps Pi Po a b ns n H':=⟨h.g.go (SB.of s) (s _ _ h.g.at_) (Q13 _),h.v.same s,h.s.same s,h.i.same s,h.o.same s⟩
theorem RW.sb (h:RW K Pt Ps Pi Po a b ns n H)(s:SB b H H')(I:H' b=some (.lst [.int n']))(J:n<=n'):RW K Pt Ps Pi Po a b ns n' H':=⟨h.g.go s I J,h.v.sb h.g.at_ s,h.s.sb h.g.at_ s,h.i.sb h.g.at_ s,h.o.sb h.g.at_ s⟩
theorem RW.fh (F:Fr Pt Ps Pi Po)(h:RW K Pt Ps Pi Po a b ns n H)(x:ff b Pt H H')(I:H' b=some (.lst [.int n']))(J:n<=n')(hT:eU Pt gH gI H'):RW K Pt Ps Pi Po a b ns n' H':=
 ⟨ff.g0 x h.g h.v I J,hT,h.s.kp x h.g.at_ h.v F.ts,h.i.kp x h.g.at_ h.v F.ti,h.o.kp x h.g.at_ h.v F.to⟩
theorem _root_.L2.eU.jb {P I J c:Addr}{lp U Y:Pos}{ql aa ab:Str}{l:List V}(h:eU P lp ql H)(x:jn c I J H H')(hc:H c=some (.lst l))(h1:eU I U aa H)(h2:eU J Y ab H)(n1:I≠P)(n2:J≠P):eU P lp ql H':=by
 obtain⟨p1,e1⟩:=h1.tab;obtain⟨p2,e2⟩:=h2.tab;have k:∀d o,d≠I->d≠J->(∀xs,o≠ .lst xs)->H d=some o->H' d=some o:=λd o a b ho e=>x d o (λz=>z.elim (λz=>by rw[z,hc] at e;cases e;exact ho _ rfl) λz=>z.elim a b) e;rcases h with e|⟨d,e,f⟩
 . exact .inl (k _ _ (Ne.symm n1) (Ne.symm n2) (by intro xs z;cases z) e)
 . exact .inr ⟨d,k _ _ (Ne.symm n1) (Ne.symm n2) (by intro xs z;cases z) e,k _ _ (gO f e1 (by intro z;cases z)) (gO f e2 (by intro z;cases z)) (by intro xs z;cases z) f⟩
theorem jn.kt {c:Addr}(x:jn c Pt Ps H H')(h1:eU Pt gH gI H)(h2:eU Ps mF mG H):Kt c H H':=λd o hc I e=>by
 obtain⟨J,U⟩:=h1.tab;obtain⟨p2,Y⟩:=h2.tab;exact x d o (λz=>z.elim hc λz=>z.elim (gO e U (I J)) (gO e Y (I p2))) e
theorem RW.jb (F:Fr Pt Ps Pi Po)(h:RW K Pt Ps Pi Po a b ns n H)(x:jn b Pt Ps H H')(I:H' b=some (.lst [.int n']))(U:n<=n')(hT:eU Pt gH gI H')(J:eU Ps mF mG H'):RW K Pt Ps Pi Po a b ns n' H':=by
 have k:=jn.kt x h.v h.s;refine⟨⟨?_,h.g.len,I,by have:=h.g.pos;omega⟩,hT,J,h.i.jb x h.g.at_ h.v h.s F.ti F.si,h.o.jb x h.g.at_ h.v h.s F.to F.so⟩;rcases h.g.iB with⟨o,e⟩|e
 . exact .inl ⟨o,k a _ (gO e h.g.at_ (by intro z;cases z)) (by intro ps z;cases z) e⟩
 . exact .inr e
theorem RW.oth (F:Fr Pt Ps Pi Po){J:Addr}{l:List V}(h:RW K Pt Ps Pi Po a b ns n H)(x:jn J Pt Ps H H')(I:H J=some (.lst l))(U:b≠J)(hT:eU Pt gH gI H')(Y:eU Ps mF mG H'):RW K Pt Ps Pi Po a b ns n H':=by
 have k:=jn.kt x h.v h.s;refine⟨⟨?_,h.g.len,k.lst U h.g.at_,h.g.pos⟩,hT,Y,h.i.jb x I h.v h.s F.ti F.si,h.o.jb x I h.v h.s F.to F.so⟩;rcases h.g.iB with⟨o,e⟩|e
 . exact .inl ⟨o,k a _ (gO e I (by intro z;cases z)) (by intro ps z;cases z) e⟩
 . exact .inr e
theorem RW.ki (F:Fr Pt Ps Pi Po)(h:RW K Pt Ps Pi Po a b ns n H)(x:jW Pi H H')(hT:eU Pi jX jY H'):RW K Pt Ps Pi Po a b ns n H':=by
 obtain⟨ps,I⟩:=h.i.tab;have k:=Kn.ja x h.i;refine⟨⟨?_,h.g.len,k.lst h.g.at_,h.g.pos⟩,h.v.ja x I (Ne.symm F.ti),h.s.ja x I (Ne.symm F.si),hT,h.o.ja x I F.io⟩;rcases h.g.iB with⟨o,e⟩|e
 . exact .inl ⟨o,k a _ (by intro ps z;cases z) e⟩
 . exact .inr e
theorem RW.ko (F:Fr Pt Ps Pi Po)(h:RW K Pt Ps Pi Po a b ns n H)(x:jW Po H H')(hT:eU Po nF nG H'):RW K Pt Ps Pi Po a b ns n H':=by
 obtain⟨ps,I⟩:=h.o.tab;have k:=Kn.ja x h.o;refine⟨⟨?_,h.g.len,k.lst h.g.at_,h.g.pos⟩,h.v.ja x I (Ne.symm F.to),h.s.ja x I (Ne.symm F.so),h.i.ja x I (Ne.symm F.io),hT⟩;rcases h.g.iB with⟨o,e⟩|e
 . exact .inl ⟨o,k a _ (by intro ps z;cases z) e⟩
 . exact .inr e
end
structure Rr (key by_:Str) (fs:Fs) (ms:List Ds):Prop where
 ok:∀m∈ms,kr fs m
 kn:(ms.map λm=>keyOf m key).Nodup
 len:ms.length<=30
 px:ms.Pairwise (jj key by_)
theorem Rr.of {key by_:Str}{fs:Fs}{room:Nat}{ps:List Key}{n:Int}{q:List Ds × Int}(h:nE fs key room ps n q)(U:ps.Nodup)(aa:ps.length<=30):Rr key by_ fs (gw key by_ q.1):=by
 have J:=iM key by_ q.1;have kn:=h.keys.nodup U;have I:((gw key by_ q.1).map λm=>keyOf m key).Nodup:=(J.map _).nodup_iff.mpr kn;refine⟨λm Y=>h.ok m (J.mem_iff.mp Y),I,?_,oM (l9 key by_ q.1) I⟩;have:=h.keys.length_le;rw[Q04] at this;rw[J.length_eq];omega
theorem Rr.ms {key by_:Str}{fs:Fs}{ms:List Ds}(h:Rr key by_ fs ms)(hd:fs.dB<=12):nM (12+1) key by_ fs ms:=
 ⟨λm I=>by
   have:=h.ok m I;have s:=this.2.2;unfold D.Sm at s;exact⟨this.1,by have:=this.2.1;omega,s.2⟩,h.px,h.kn,by have:=h.len;omega⟩
theorem nM.rs {N:Nat}{key y:Str}{fs:Fs}{ms:List Ds}(I:nM (N+1) key y fs ms)(U:fs.names.length<=12):Rs (N+3) (.rows key y fs) (.lst (gm ms)) none:=by
 have Y:=I.len;refine⟨?_,?_,?_⟩
 . show eT _ _;unfold eT;exact⟨ms,rfl,λm J=>(I.ok m J).1,I.px,I.kn⟩
 . have:=sL (l:=ms) (n:=N+1) λm J=>(I.ok m J).2.1;simp only[D.dep];omega
 . unfold D.Sm;refine⟨by rw[qO];omega,tJ λm J=>?_⟩;unfold D.Sm;exact⟨by rw[<-nB,(I.ok m J).1.names];omega,(I.ok m J).2.2⟩
structure RV (b:Addr) (H:Hp) (D:Addr) (vs:List V) (ms:List Ds) (fl:List (List Addr)):Prop where
 at_:H D=some (.lst vs)
 r:eR H vs ms fl
 nb:∀c∈D::fl.flatten,c≠b
theorem RV.kt {b D:Addr}{H H':Hp}{l vs:List V}{ms:List Ds}{I:List (List Addr)}(h:RV b H D vs ms I)(k:Kt b H H')(J:H b=some (.lst l)):RV b H' D vs ms I:=
 ⟨k.lst (h.nb D Q05) h.at_,h.r.kt k J λz=>h.nb b (Q0b _ z) rfl,h.nb⟩
theorem eR.JA {H:Hp}{ws:List V}{ms:List Ds}{I:List (List Addr)}(h:eR H ws ms I){i:Nat}{x:V}(J:ws[i]? =some x):∃m f,ms[i]? =some m/\f∈I/\Own H x (.dct m) f:=by
 have hi:i<ws.length:=(List.getElem?_eq_some_iff.mp J).1;have U:=A3.at (a0:=V.non) (b0:=Ds.nil) (c0:=[]) h i hi;have ex:ws.getD i .non=x:=by rw[Q0e,J];rfl
 rw[ex] at U;obtain⟨Y,l2⟩:=A3.len h;refine⟨_,_,by rw[Q0e,Q03 (by omega:i<ms.length)];rfl,?_,U⟩;rw[Q0e,Q03 (by omega:i<I.length)];exact Q0v _
theorem ff.kt {b P:Addr}{I:Pos}{J:Str}{H H':Hp}(x:ff b P H H')(hT:eU P I J H):Kt b H H':=λc o hc U e=>by
 obtain⟨ps,Y⟩:=hT.tab;exact x c o (λz=>z.elim hc (gO e Y (U ps))) e
theorem Own.kt {b:Addr}{H H':Hp}{l:List V}{v:V}{d:D}{I:List Addr}(h:Own H v d I)(k:Kt b H H')(J:H b=some (.lst l))(U:∀c∈I,c≠b):Own H' v d I:=h.keep (k.tu J) d λc hc o e=>k c o (U c hc) (by
 intro ps z;rcases Own.alive d h c hc with⟨_,q⟩|⟨_,q⟩ <;> rw[e] at q <;> rw[z] at q <;> cases q) e
structure LF (Pt b pv:Addr) (H0:Hp) (fs:Fs) (n:Int) (nv:V) (fZ:List V) (H:Hp):Prop where
 kp:ff b Pt H0 H
 hb:H b=some (.lst [.int n])
 T:eU Pt gH gI H
 at_:H pv=some (.lst fZ)
 near:∃m f,Own H nv (.dct m) f/\(∀c∈f,c≠b/\c≠pv)/\fJ fs m/\ig fs m
 lv:∀u∈fZ,∃L:Lo,fo H u L/\L.ok (.eX fs)/\L.dp<=0
section
variable {Pt b pv:Addr}{H0:Hp}{fs:Fs}{n n':Int}{nv:V}{fZ:List V}{H H':Hp}
theorem LF.mv (h:LF Pt b pv H0 fs n nv fZ H)(I:pv≠b)(x:ff b Pt H H')(J:H' b=some (.lst [.int n']))(hT:eU Pt gH gI H'):LF Pt b pv H0 fs n' nv fZ H':=by
 have k:=ff.kt x h.T;obtain⟨m,f,h1,h2,U⟩:=h.near;refine⟨h.kp.trans x,J,hT,k.lst I h.at_,⟨m,f,h1.kt k h.hb λc hc=>(h2 c hc).1,h2,U⟩,λu Y=>?_⟩;obtain⟨L,a,c⟩:=h.lv u Y;exact⟨L,fo.mono (k.tu h.hb) L a,c⟩
theorem LF.add (h:LF Pt b pv H0 fs n nv fZ H)(I:pv≠b)(U:H0 pv=none){u:V}{L:Lo}(Y:fo H u L)(J:L.ok (.eX fs))(hd:L.dp<=0):LF Pt b pv H0 fs n nv (fZ++[u]) (upd H pv (.lst (fZ++[u]))):=by
 have tu:Tu H (upd H pv (.lst (fZ++[u]))):=Tu.wr λxs z=>by rw[h.at_] at z;cases z
 obtain⟨m,f,h1,h2,h3⟩:=h.near;refine⟨λc o hc e=>by rw[eE (eP e U)];exact h.kp c o hc e,by rw[eE (Ne.symm I)];exact h.hb,h.T.wr (.inl ⟨_,h.at_⟩),eF,⟨m,f,h1.keep tu _ λc hc o e=>by rw[eE (h2 c hc).2];exact e,h2,h3⟩,λz hz=>?_⟩;rcases List.mem_append.mp hz with e|e
 . obtain⟨L,a,c⟩:=h.lv z e;exact⟨L,fo.mono tu L a,c⟩
 . rw[List.mem_singleton.mp e];exact⟨L,fo.mono tu L Y,J,hd⟩
end
def CL (K:W.Frag) (Pt:Addr):Sp:=λvs H Q _=>∃a b ns n pk pb key by_ xs fs I wr J U,vs=[.ref a,.ref b,.ref pk,.ref I]/\G0 K H a b ns n/\eU Pt gH gI H/\iC H pk pb key by_ xs fs/\fs.dep<=2/\H I=some (.lst wr)/\eR H wr J U/\(∀c∈I::U.flatten,c≠b)/\wr.length<=60/\(∀m∈J,fJ fs m/\ig fs m)/\n+20000<=1000000000000/\
 ∀lv L n' H',ff b Pt H H'->H' b=some (.lst [.int n'])->n<=n'->n'<=n+20000->eU Pt gH gI H'->lh H' lv L fs->Q lv H'
variable {P:Program}{w:World}{K:W.Frag}{mg:Str->Option Value}{base:Heap}
theorem JB:fv ["_law_script","_law_at","_law_kind_here","_law_rows_here","_law_places_here","_law_near","_law_leaves","_law_k","_law_place"] XN (eS (top 56)):=fC
theorem JC {Pt:Addr}(T:Tb mg)(U:Dn K mg "_law_look_for" qG (top 56) aa ab)(I:Dn K mg "_law_next" fg (top 33) aq ar)(J:en P w K mg base eu (1) aq ar fg (i8 K))(ac:Dn K mg "_law_places" mi (top 47) ae af)(ag:en P w K mg base eu (4) ae af mi (o6 3))(al:Dn K mg "_law_value" gZ (top 43) am an)(ao:en P w K mg base eu (125) am an gZ (kq K Pt 60))(ah:Dn K mg "_law_simple" qy (top 49) ai aj)(ak:en P w K mg base eu (47) ai aj qy (Bt K Pt))(au:Dn K mg "_law_look" kg (top 50) av aw)(ax:en P w K mg base eu (4) av aw kg (o5 K 2)):en P w K mg base eu (130) aa ab qG (CL K Pt):=by
 refine U.F.ok JB λvs H Q E h=>?_;obtain⟨a,b,ns,n,pk,pb,key,by_,xs,fs,Dr,wr,mr,fr,rfl,g,hT,hK,br,bF,a9,aC,b4,bG,hn,q⟩:=h;refine⟨rfl,λb5 A outer s nd hr hu=>?_⟩
 refine⟨_,(eh (eN 4 nd (eL ag hr ac (a_ (gd (a_ eY (a_ (eI (pv 2) b_) c_))) (a_ (gd c_) c_))))
  (eh (eN 5 nd (eL ao hr al (a_ (pv 0) (a_ (pv 1) (a_ (gd (a_ eY (a_ (eI (pv 2) b_) c_))) (a_ b_ c_))))))
  (eh (eN 6 nd (gi c_))
  (eh (hX PassesOwn.never rfl (ky rfl T.kU (a_ b_ c_)) (fL (i:=7) nd rfl gc) (eh (eO (eM jL (fM gY (by rfl) T.gM PySem.boot_len (a_ (pv 3) c_)) b_ (eK _)) (eA (eN 5 nd (gG (pv 3) (eG fA (eL J hr I (a_ (pv 0) (a_ (pv 1) c_))) (fM gY (by rfl) T.gM PySem.boot_len (a_ (pv 3) c_)))))) eQ)
  (eh (eN 8 nd (gG (pv 4) (eG fA (eL J hr I (a_ (pv 0) (a_ (pv 1) c_))) (fM gY (by rfl) T.gM PySem.boot_len (a_ (pv 4) c_)))))
  (eA (j1 (lV PySem.F.plainAttrs_list PySem.F.slot_list_append PySem.F.type_list_append lW (pv 6) (a_ (eL ak hr ah (a_ (pv 0) (a_ (pv 1) (a_ (pv 8) (a_ (pv 5) c_))))) c_)))))))
  (eA (eJ (eL ax hr au (a_ (pv 0) (a_ (pv 1) (a_ (pv 6) (a_ b_ c_))))))))))),?_⟩
 ac_rfl
 have hb:=g.at_;obtain⟨b6,bH,ba,bt,b7⟩:=hK.w5
 have b8:1<=(Kd.eX fs).lf:=by
  obtain⟨k,bI,bJ⟩:=bt;exact Fs.Bk bJ bI
 have b9:(fs.cB:Int)<=14400:=by
  have h1:=nt fs 1 ba br;have h2:CB 1=1200:=rfl;have h3:fs.names.length * CB 1<=12 * CB 1:=Q0w _ bH;omega
 have bK:mu (.eX fs) 1<=60:=by have:=qK (.eX fs) 1;simp only[Kd.dep] at this;omega
 have bu:(Kd.eX fs).dep<=3:=by simp only[Kd.dep];omega
 refine(Zr rfl ⟨pk,_,_,Zr rfl ⟨rfl,d_.of hK.at_,rfl,gh,λt ht=>⟨Q07 _,λp0 aZ=>?_⟩⟩⟩);have t1:Same H (upd H t (.tup [.str "record",.ref pb])):=Same.new ht;have a1:=eF (H:=H) (a:=t) (o:=.tup [.str "record",.ref pb]);generalize upd H t (.tup [.str "record",.ref pb])=H1 at t1 a1 aZ;have t2:Same H1 (upd H1 p0 (.tup [])):=Same.new aZ;have a2:=eF (H:=H1) (a:=p0) (o:=.tup []);generalize upd H1 p0 (.tup [])=H2 at t2 a2;have aE:=t1.trans t2
 have bb:∀H',Same H H'->∀c,H' c=some (.tup [.str "record",.ref pb])->KA H' (.ref c) (.eX fs):=λH' s' c hc=>by
  unfold KA;exact⟨c,pb,xs,rfl,hc,s' _ _ hK.tu,FA.mono (Tu.of s') fs hK.fa⟩
 refine⟨.ref t,p0,[],.eX fs,rfl,bb _ aE t (t2 _ _ a1),hK.wr,bu,by decide,by decide,a2,λlp ay H3 s3 bc aQ bv aT=>?_⟩;have a3:=aE.trans s3;have az:H2 lp=none:=bc;clear a1 a2 bc ht aZ;refine(Zr rfl (Zr rfl (Zr rfl ⟨pk,_,_,Zr rfl ⟨rfl,d_.of (a3 _ _ hK.at_),rfl,gh,λt' bd=>?_⟩⟩)));have t4:Same H3 (upd H3 t' (.tup [.str "record",.ref pb])):=Same.new bd;have a4:=eF (H:=H3) (a:=t') (o:=.tup [.str "record",.ref pb]);generalize upd H3 t' (.tup [.str "record",.ref pb])=H4 at t4 a4;have ap:=a3.trans t4;have bL:kc (.eX fs) 1<=14400:=by simp only[kc,Kd.cB];omega
 refine⟨a,b,ns,n,.ref t',.eX fs,1,rfl,g.go (SB.of ap) (ap _ _ hb) (Q13 _),hT.same ap,bb _ ap t' a4,hK.wr,by decide,bK,by omega,λbe H5 bf a5 aF aD aL ca bM=>?_⟩;have c5:=kT ns (.eX fs) 1 n (by decide);have ev:(val ns (.eX fs) 1 n).1=.dct (e9 ns fs 1 n).1:=by simp only[val]
 rw[ev] at aL;have cb:((Kd.eX fs).cB:Int)<=14400:=by simp only[Kd.cB];omega
 generalize (val ns (.eX fs) 1 n).2=n5 at *;have aK:=kQ ns fs ba 1 n (by decide);have aU:ig fs (e9 ns fs 1 n).1:=ig.val hK.wr (by decide);generalize (e9 ns fs 1 n).1=m5 at *;have aM:=ff.kt a5 (hT.same ap);have aJ:Kt b H H5:=(Kt.of ap).trans aM;have aV:ff b Pt H H5:=(Kp.of ap).trans a5;have bw:H5 lp=some (.lst ay):=aM.lst (λz=>by rw[z,aE _ _ hb] at az;cases az) (t4 _ _ aQ);have bx:lp≠b:=λz=>by rw[z,aE _ _ hb] at az;cases az
 have bz:∀v∈ay,jm H5 (.eX fs) [] v:=λv hv=>jm.mono ((Tu.of t4).trans (aM.tu (ap _ _ hb))) (aT v hv);have bg:eR H5 wr mr fr:=a9.kt aJ hb λz=>aC b (Q0b _ z) rfl;have aW:=aJ.lst (aC Dr Q05) bF;have g5:G0 K H5 a b ns n5:=ff.g0 aV g hT aF (by omega);have bh:∀c∈bf,c≠b:=λc hc z=>by have:=bM c hc;rw[z,ap _ _ hb] at this;cases this
 clear a5 aM aJ aT aQ az a4 t4 a3 s3 aE t1 t2 ev bL bd;refine⟨Q07 _,λpv aG=>?_⟩;have s6:Same H5 (upd H5 pv (.lst [])):=Same.new aG;have aA:pv≠b:=Ne.symm (eP aF aG)
 have L0:LF Pt b pv H5 fs n5 be [] (upd H5 pv (.lst [])):=⟨Kp.of s6,s6 _ _ aF,aD.same s6,eF,⟨m5,bf,aL.same s6,λc hc=>⟨bh c hc,λz=>by
  obtain⟨o,e⟩:=(Own.alive _ aL c hc).ex;rw[z,aG] at e;cases e⟩,aK,aU⟩,λu hu=>nomatch hu⟩
 clear s6 aL bh aK aU;have cc:=g5.pos;refine(Zr rfl ⟨by decide,by decide,kE (n:=Int.toNat 3) (λi σ H'=>∃(x z:Option V) (nv:V) (fZ:List V) (n6:Int),σ=[some (.ref a),some (.ref b),some (.ref pk),some (.ref Dr),some (.ref lp),some nv,some (.ref pv),x,z]/\LF Pt b pv H5 fs n6 nv fZ H'/\n5<=n6/\n6<=n5+5 * i/\fZ.length=i) ?_ ?_ ?_⟩)
 . exact⟨_,_,be,[],n5,rfl,L0,Q13 _,by omega,rfl⟩
 . intro i σ H' hi zq;obtain⟨x,z,nv,fZ,n6,rfl,X,w1,w2,aP⟩:=zq;have hi:i<3:=hi;have gg:∀{H1:Hp} {n1:Int} {aB:V} {bN:List V},LF Pt b pv H5 fs n1 aB bN H1->n5<=n1->G0 K H1 a b ns n1:=λY bO=>ff.g0 Y.kp g5 aD Y.hb bO;dsimp only[gS];refine o8 (A:=j2 _ _ _) (λbi H1=>∃aB n7 y,bi=[some (.ref a),some (.ref b),some (.ref pk),some (.ref Dr),some (.ref lp),some aB,some (.ref pv),y,z]/\LF Pt b pv H5 fs n7 aB fZ H1/\n6<=n7/\n7<=n6+1) ?_ (λhB=>?_);rotate_left
   . have bA:=(ff.kt X.kp aD).lst (aC Dr Q05) aW;refine(Zr rfl ⟨Dr,Zr rfl ⟨.inl (eB.of bA),_,Zr rfl ⟨rfl,Zr rfl (fW (λc=>?_) (λc=>hB _ _ ⟨nv,n6,Zr rfl ⟨X,Q13 _,by omega⟩⟩))⟩⟩⟩);have bB:(0:Int)<(wr.length:Int):=of_decide_eq_true c;refine(Zr rfl (Zr rfl (Zr rfl ⟨a,b,ns,n6,rfl,gg X w1,by omega,λr H1 r0 r1 bj bP=>?_⟩)));have Y:=X.mv aA (SB.fh bj) bP (X.T.sb X.hb bj);have kY:=ff.kt Y.kp aD;have aX:=kY.lst (aC Dr Q05) aW;have z0:=Q0g r (show((wr.length:Nat):Int)≠0 by omega);have z1:=Q0i r bB;obtain⟨j,hj⟩:∃j:Nat,r % ((wr.length:Nat):Int)=(j:Int):=⟨(r % ((wr.length:Nat):Int)).toNat,by omega⟩;have aH:j<wr.length:=by omega
     have bQ:eR H1 wr mr fr:=bg.kt kY aF λz=>aC b (Q0b _ z) rfl;obtain⟨m,f,hm,bR,ho⟩:=bQ.JA (Q03 aH);have bm:=bG m (Q0m hm);refine(Zr rfl ⟨Dr,Zr rfl ⟨.inl (eB.of aX),_,Zr rfl ⟨rfl,(by show(0:Int)<_;omega),Dr,_,_,wr[j],rfl,rfl,eB.of aX,(by rw[hj];exact gz (Q03 aH)),?_⟩⟩⟩);refine hB _ _ ⟨wr[j],n6+1,Zr rfl ⟨⟨Y.kp,Y.hb,Y.T,Y.at_,⟨m,f,ho,λc hc=>?_,bm.1,bm.2⟩,Y.lv⟩,by omega,Q13 _⟩⟩;have bn:c∈fr.flatten:=List.mem_flatten.mpr ⟨f,bR,hc⟩;refine⟨aC c (Q0b _ bn),λz=>?_⟩;obtain⟨o,e⟩:=(eR.mu bg c bn).ex;rw[z,aG] at e;cases e
   intro bi H1 zq;obtain⟨aB,n7,y,rfl,Y,u1,u2⟩:=zq;refine(Zr rfl (Zr rfl (Zr rfl ⟨a,b,ns,n7,rfl,gg Y (by omega),by omega,λr H2 r0 r1 aI a6=>?_⟩)));have Z:=Y.mv aA (SB.fh aI) a6 (Y.T.sb Y.hb aI);have kZ:=ff.kt Z.kp aD;have aY:=kZ.lst bx bw;have cd:(ay.length:Int)=((Kd.eX fs).lf:Int):=by rw[bv]
   have z0:=Q0g r (show((ay.length:Nat):Int)≠0 by omega);have z1:=Q0i r (show(0:Int)<((ay.length:Nat):Int) by omega);obtain⟨j,hj⟩:∃j:Nat,r % ((ay.length:Nat):Int)=(j:Int):=⟨(r % ((ay.length:Nat):Int)).toNat,by omega⟩;have aH:j<ay.length:=by omega
   obtain⟨tl,pp,bS,ps,kl,bT,et,ht,bo,bU,bC,bp,a7,a8⟩:=jm.mono (kZ.tu aF) (bz _ (Q0v aH));have a7:ps=bT:=by rw[a7];rfl
   subst a7;refine(Zr rfl ⟨lp,Zr rfl ⟨.inl (eB.of aY),_,Zr rfl ⟨rfl,(by show(0:Int)<_;omega),lp,_,_,V.ref tl,rfl,rfl,eB.of aY,(by rw[hj];exact gz (by rw[Q03 aH,et])),?_⟩⟩⟩);obtain⟨m,f,bV,bW,bX,bY⟩:=Z.near;obtain⟨e,hA,bZ⟩:=qR (mK bX) a8;refine(Zr rfl ⟨.inl ⟨rfl,_,eB.of Z.at_⟩,Zr rfl (Zr rfl (Zr rfl (Zr rfl ⟨a,b,ns,n7+1,tl,pp,bS,kl,aB,ps,.dct m,f,e,rfl,gg Z (by omega),Z.T,ht,bo,bU,bC,bp,bV,λc hc=>(bW c hc).1,hA,bZ,bY ps kl e a8 hA bp,by omega,λl lk n8 H3 jb b1 x1 x2 b2 hl bD=>?_⟩)))⟩);have Z3:=Z.mv aA jb b1 b2;have bE:=(ff.kt jb Z.T).tu Z.hb _ _ bo;refine⟨pv,_,Zr rfl ⟨rfl,Z3.at_,gE (by omega),?_⟩⟩;refine⟨_,_,aB,fZ++[.ref l],n8,rfl,Z3.add aA aG (L:=.leaf ps lk) (by unfold fo;exact⟨l,pp,rfl,hl,bE⟩) ⟨kl,a8,bD⟩ (Q00 _),by omega,by omega,by rw[Q0d,aP];rfl⟩
 . intro σ H' zq;obtain⟨x,z,nv,fZ,n6,rfl,X,w1,w2,aP⟩:=zq;have w2:n6<=n5+5 * 3:=w2;have aP:fZ.length=3:=aP;have bq:(cl 2:Int)=7:=rfl;refine(Zr rfl (Zr rfl (Zr rfl ⟨a,b,ns,n6,pv,fZ,.eX fs,rfl,ff.g0 X.kp g5 aD X.hb w1,X.at_,aA,by omega,by omega,X.lv,by rw[bq];omega,λv L n7 H2 aI a6 y1 y2 hL b3 ce=>?_⟩)));rw[bq] at y2;exact q v L n7 H2 (aV.trans (X.kp.trans (SB.fh aI))) a6 (by omega) (by omega) (X.T.sb X.hb aI) ⟨hL,b3,by omega⟩
theorem RV.pz {b c D:Addr}{H H':Hp}{l vs:List V}{ms:List Ds}{I:List (List Addr)}(h:RV b H D vs ms I)(k:Kt c H H')(hc:H c=some (.lst l))(n:∀x∈D::I.flatten,x≠c):RV b H' D vs ms I:=
 ⟨k.lst (n D Q05) h.at_,h.r.kt k hc λz=>n c (Q0b _ z) rfl,h.nb⟩
theorem RV.off {b c D:Addr}{H:Hp}{vs:List V}{ms:List Ds}{I:List (List Addr)}(h:RV b H D vs ms I)(hc:H c=none):∀x∈D::I.flatten,x≠c:=λx J z=>by
 rw[z] at J;rcases List.mem_cons.mp J with e|e
 . rw[e,h.at_] at hc;cases hc
 . obtain⟨o,e⟩:=(eR.mu h.r c e).ex;rw[hc] at e;cases e
theorem ll {c D:Addr}{H:Hp}{o:HO}{I:List (List Addr)}(h:∀x∈D::I.flatten,H x=none)(hc:H c=some o):∀x∈D::I.flatten,x≠c:=λx J z=>by
 have:=h x J;rw[z,hc] at this;cases this
def CM (K:W.Frag) (Pt Ps Pi Po:Addr):Sp:=λvs H Q _=>∃a b ns n pk pb xs key by_ fs,∃m:Nat,vs=[.ref a,.ref b,.ref pk,.int m]/\RW K Pt Ps Pi Po a b ns n H/\iC H pk pb key by_ xs fs/\fs.dep<=2/\m<=30/\n<=900000000000/\
 ∀t tl D1 v1 ms1 f1 D2 v2 ms2 f2 D3 v3 f3 D4 v4 f4 n' H',RW K Pt Ps Pi Po a b ns n' H'->n'<=n+2000000->iC H' pk pb key by_ xs fs->H' t=some (.tup [.ref D1,.ref D2,.ref tl])->H' tl=some (.lst [.ref D3,.ref D4])->tl≠b->
  RV b H' D1 v1 ms1 f1->RV b H' D2 v2 ms2 f2->RV b H' D3 v3 ms1 f3->RV b H' D4 v4 ms2 f4->Rr key by_ fs ms1->Rr key by_ fs ms2->(∀m∈ms1,ig fs m)->(∀m∈ms2,ig fs m)->Q (.ref t) H'
section
variable {P:Program}{w:World}{K:W.Frag}{mg:Str->Option Value}{base:Heap}
variable {Pt Ps Pi Po:Addr}
theorem JD:fv ["_law_script","_law_at","_law_kind_here","_law_many","_law_pool_here","_law_first","_law_source","_law_second","_law_other","_law_twins"] XF (eS (top 58)):=fC
theorem JE (F:Fr Pt Ps Pi Po)(T:Tb mg)(Y:Dn K mg "_law_case" kX (top 58) aa ab)(ac:Dn K mg "_law_pool" kX (top 52) ae af)(ag:en P w K mg base eu (130) ae af kX (Cg K Pt 60))(I:Dn K mg "_law_some" oV (top 53) ah ai)(J:en P w K mg base eu (130) ah ai oV (BN K Pt Ps 60)):en P w K mg base eu (131) aa ab kX (CM K Pt Ps Pi Po):=by
 refine Y.F.ok JD λvs H Q E h=>?_;obtain⟨a,b,ns,n,pk,pb,xs,key,by_,fs,m,rfl,W,hK,bf,hm,hn,q⟩:=h;refine⟨rfl,λbE A outer s nd hr hu=>?_⟩
 refine⟨_,(eh (eN 4 nd (eL ag hr ac (a_ (pv 0) (a_ (pv 1) (a_ (pv 2) (a_ (pv 3) c_))))))
  (eh (eN 5 nd (gi (a_ (gG (pv 1) b_) c_)))
  (eh (eN 6 nd (eL J hr I (a_ (pv 0) (a_ (pv 1) (a_ (pv 2) (a_ (pv 4) (a_ b_ c_)))))))
  (eh (eN 7 nd (gi (a_ (gG (pv 1) b_) c_)))
  (eh (eN 8 nd (eL J hr I (a_ (pv 0) (a_ (pv 1) (a_ (pv 2) (a_ (pv 4) (a_ b_ c_)))))))
  (eh (eN 9 nd (gi (a_ (eL J hr I (a_ (pv 0) (a_ (pv 5) (a_ (pv 2) (a_ (pv 4) (a_ b_ c_)))))) (a_ (eL J hr I (a_ (pv 0) (a_ (pv 7) (a_ (pv 2) (a_ (pv 4) (a_ b_ c_)))))) c_))))
  (eA (eJ (gd (a_ (pv 6) (a_ (pv 8) (a_ (pv 9) c_)))))))))))),?_⟩
 ac_rfl
 have hW:=hK.W;obtain⟨bF,bi,bj,bB,bG⟩:=hK.w5
 have bH:(fs.cB:Int)<=14400:=by
  have h1:=nt fs 1 bj bf;have h2:CB 1=1200:=rfl;have h3:fs.names.length * CB 1<=12 * CB 1:=Q0w _ bi;omega
 have au:mu (.eX fs) 2<=60:=by have:=qK (.eX fs) 2;simp only[Kd.dep] at this;omega
 refine(Zr rfl (Zr rfl (Zr rfl (Zr rfl ⟨a,b,ns,n,pk,pb,xs,key,by_,fs,m,rfl,W.g,W.v,hK.at_,hK.tu,hK.fa,hW,hm,by omega,by decide,λDp ps n3 H4 aD aM w1 w2 aP bm av U an bC aQ=>?_⟩))));have ao:=λp hp=>(aQ p hp).1;have W4:=W.fh F aD aM w1 aP;replace hK:=hK.mono (aD.tu W.g.at_ W.v);clear aD aM aP bm W;have ap:ps.length<=30:=by omega
 have bD:(ps.length:Int) * ((fs.cB:Int)+1)<=30 * 14401:=Q33 (by omega) (by omega) (by omega) (by omega)
 have so:∀n,nE fs key 2 ps n (g_ ns key by_ fs 2 ps n):=λn=>by
  have:=tY (ns:=ns) (n:=n) (room:=2) (by_:=by_) hW (by decide) ao ps.length
  rwa [Q0r] at this
 have sh:∀n,∀m∈gw key by_ (g_ ns key by_ fs 2 ps n).1,ig fs m:=λn m hm=>by
  have:=Cd (ns:=ns) (n:=n) (room:=2) (by_:=by_) hW (by decide) (λp hp=>(aQ p hp).2) ps.length m;rw[Q0r] at this;exact this ((iM key by_ _).mem_iff.mp hm)
 have rr:∀n,Rr key by_ fs (gw key by_ (g_ ns key by_ fs 2 ps n).1):=λn=>Rr.of (so n) an ap;have p3:=W4.g.pos;refine(Zr rfl ⟨b,_,_,Zr rfl ⟨rfl,eB.of W4.g.at_,rfl,iN,λb2 aw=>?_⟩⟩);have s5:Same H4 (upd H4 b2 (.lst [.int n3])):=Same.new aw;have c2:=eF (H:=H4) (a:=b2) (o:=.lst [.int n3]);have aE:b≠b2:=eP W4.g.at_ aw;have az:Dp≠b2:=eP U aw;have W5:=W4.same s5;replace hK:=hK.mono (Tu.of s5);replace U:=s5 _ _ U;generalize upd H4 b2 (.lst [.int n3])=H5 at *;clear W4 s5 aw;refine(Zr rfl (Zr rfl (Zr rfl (Zr rfl ⟨a,b,ns,n3,pk,pb,xs,key,by_,fs,Dp,ps,2,rfl,W5.g,W5.v,W5.s,F.ts,hK.at_,hK.tu,hK.fa,hW,U,av,ap,ao,an,by decide,au,by omega,λD1 v1 f1 H6 aF aT aU aV aW aX aG=>?_⟩))));have lo1:=(so n3).lo;have bI:=(so n3).hi;have ax:=jn.kt aF W5.v W5.s;have W6:=W5.jb F aF aT lo1 aU aV;have V1:RV b H6 D1 v1 (gw key by_ (g_ ns key by_ fs 2 ps n3).1) f1:=⟨aW,aX,ll aG W5.g.at_⟩;have bn:=ll aG c2;replace hK:=hK.mono (ax.tu W5.g.at_);replace U:=ax.lst av U;replace c2:=ax.lst (Ne.symm aE) c2;clear aF aT aU aV aW aX aG W5 ax;refine(Zr rfl ⟨b,_,_,Zr rfl ⟨rfl,eB.of W6.g.at_,rfl,iN,λb3 ak=>?_⟩⟩);have bo:=rr n3;have bp:=sh n3;generalize bq:g_ ns key by_ fs 2 ps n3=q1 at *;have s7:Same H6 (upd H6 b3 (.lst [.int q1.2])):=Same.new ak;have c3:=eF (H:=H6) (a:=b3) (o:=.lst [.int q1.2]);have aA:b≠b3:=eP W6.g.at_ ak;have br:b2≠b3:=eP c2 ak;have bg:Dp≠b3:=eP U ak;have bt:=V1.off ak;have W7:=W6.same s7;replace V1:=V1.kt (Kt.of s7) W6.g.at_;replace hK:=hK.mono (Tu.of s7);replace U:=s7 _ _ U;replace c2:=s7 _ _ c2;generalize upd H6 b3 (.lst [.int q1.2])=H7 at *;clear W6 s7 ak;refine(Zr rfl (Zr rfl (Zr rfl (Zr rfl ⟨a,b,ns,q1.2,pk,pb,xs,key,by_,fs,Dp,ps,2,rfl,W7.g,W7.v,W7.s,F.ts,hK.at_,hK.tu,hK.fa,hW,U,av,ap,ao,an,by decide,au,by omega,λD2 v2 f2 H8 aH aY aZ a1 a2 a3 ay=>?_⟩))));have bu:=(so q1.2).lo;have bJ:=(so q1.2).hi;have al:=jn.kt aH W7.v W7.s;have W8:=W7.jb F aH aY bu aZ a1;replace V1:=V1.kt al W7.g.at_;have V2:RV b H8 D2 v2 (gw key by_ (g_ ns key by_ fs 2 ps q1.2).1) f2:=⟨a2,a3,ll ay W7.g.at_⟩;have bv:=ll ay c2;have bw:=ll ay c3;replace hK:=hK.mono (al.tu W7.g.at_);replace U:=al.lst av U;replace c2:=al.lst (Ne.symm aE) c2;replace c3:=al.lst (Ne.symm aA) c3;clear aH aY aZ a1 a2 a3 ay W7 al;refine(Zr rfl (Zr rfl (Zr rfl (Zr rfl ⟨a,b2,ns,n3,pk,pb,xs,key,by_,fs,Dp,ps,2,rfl,⟨W8.g.iB,W8.g.len,c2,p3⟩,W8.v,W8.s,F.ts,hK.at_,hK.tu,hK.fa,hW,U,az,ap,ao,an,by decide,au,by omega,λD3 v3 f3 H9 aI bx a4 a5 a6 aJ aK=>?_⟩))));have am:=jn.kt aI W8.v W8.s;have W9:=W8.oth F aI c2 aE a4 a5;replace V1:=V1.pz am c2 bn;replace V2:=V2.pz am c2 bv;have V3:RV b H9 D3 v3 (gw key by_ q1.1) f3:=⟨a6,by rw[bq] at aJ;exact aJ,ll aK W8.g.at_⟩;have bz:=ll aK c3;replace hK:=hK.mono (am.tu c2);replace U:=am.lst az U;replace c3:=am.lst (Ne.symm br) c3;clear aI bx a4 a5 a6 aJ aK W8 am c2;refine(Zr rfl (Zr rfl (Zr rfl (Zr rfl ⟨a,b3,ns,q1.2,pk,pb,xs,key,by_,fs,Dp,ps,2,rfl,⟨W9.g.iB,W9.g.len,c3,by omega⟩,W9.v,W9.s,F.ts,hK.at_,hK.tu,hK.fa,hW,U,bg,ap,ao,an,by decide,au,by omega,λD4 v4 f4 aq ar bh aB aC a7 a8 a9=>?_⟩))));have aj:=jn.kt ar W9.v W9.s;have aL:=W9.oth F ar c3 aA aB aC;replace V1:=V1.pz aj c3 bt;replace V2:=V2.pz aj c3 bw;replace V3:=V3.pz aj c3 bz;have V4:RV b aq D4 v4 (gw key by_ (g_ ns key by_ fs 2 ps q1.2).1) f4:=⟨a7,a8,ll a9 W9.g.at_⟩;replace hK:=hK.mono (aj.tu c3);clear ar bh aB aC a7 a8 a9 W9 aj c3;refine⟨gh,λtl ba=>(Zr rfl (Zr rfl (Zr rfl ⟨kW,λt ht=>?_⟩)))⟩;have bb:Same aq (upd aq tl (.lst [.ref D3,.ref D4])):=Same.new ba;have bc:=eF (H:=aq) (a:=tl) (o:=.lst [.ref D3,.ref D4]);have bA:tl≠b:=Ne.symm (eP aL.g.at_ ba);generalize upd aq tl (.lst [.ref D3,.ref D4])=bd at bb bc ht;have be:Same bd (upd bd t (.tup [.ref D1,.ref D2,.ref tl])):=Same.new ht;have s:=bb.trans be;have hb:=aL.g.at_;exact q t tl D1 v1 _ f1 D2 v2 _ f2 D3 v3 f3 D4 v4 f4 _ _ (aL.same s) (by omega) (hK.mono (Tu.of s)) eF (be _ _ bc) bA (V1.kt (Kt.of s) hb) (V2.kt (Kt.of s) hb) (V3.kt (Kt.of s) hb) (V4.kt (Kt.of s) hb) bo (rr q1.2) bp (sh q1.2)
end
theorem JF {K:W.Frag}{H:Hp}{n:Nat}{x key y:Str}{pb:Addr}:qg K H n [.str x,.str key,.str y,.ref pb] [.str x,.str key,.str y,.ref pb] (λ_=>true):=λj a b h1 h2=>by
 rw[h1] at h2
 cases h2;have st:∀z:Str,iL K H n (.str z) (.str z) true:=λz=>by have:=iL.str (K:=K) (H:=H) (n:=n) z z;rwa [decide_eq_true rfl] at this
 match j,h1 with
 |0,h=>cases h;exact st _
 |1,h=>cases h;exact st _
 |2,h=>cases h;exact st _
 |3,h=>cases h;exact .ref _
section
variable {key by_:Str}{fs:Fs}
theorem Rr.iw {ms:List Ds}{p:Ds->Bool}(h:Rr key by_ fs ms):Rr key by_ fs (ms.filter p):=
 ⟨λm I=>h.ok m (List.mem_filter.mp I).1,h.kn.sublist (List.filter_sublist.map _),Q0f (Q2d _ _) h.len,h.px.sublist Q34⟩
theorem JG {l:List Ds}(Y:∀m∈l,kr fs m)(kn:(l.map λm=>keyOf m key).Nodup)(U:l.length<=60)(hd:fs.dB<=12):nM (12+1) key by_ fs (gw key by_ l):=by
 have J:=iM key by_ l;have I:((gw key by_ l).map λm=>keyOf m key).Nodup:=(J.map _).nodup_iff.mpr kn;refine⟨λm hm=>?_,oM (l9 key by_ l) I,I,by rw[J.length_eq];exact U⟩;have:=Y m (J.mem_iff.mp hm);have s:=this.2.2;unfold D.Sm at s;exact⟨this.1,by have:=this.2.1;omega,s.2⟩
theorem Rr.le {ms:List Ds}(h:Rr key by_ fs ms):ms.Pairwise (kP key by_):=h.px.imp λh=>Am h
theorem CN (L:Lo)(ms:List Ds):ms.filter (fe L)=ms.filter λm=> !lb L m:=rfl
theorem back_eq {ms:List Ds}{L:Lo}(h:Rr key by_ fs ms):gw key by_ (ms.filter (lb L)++ms.filter (fe L))=ms:=by
 have I:(ms.filter (lb L)++ms.filter (fe L)).Perm ms:=by
  rw[CN];exact Q35 (lb L) ms
 exact(ng I.symm h.le ((I.map _).nodup_iff.mpr h.kn)).symm
theorem swap_eq {a b:List Ds}(kn:((b++a).map λm=>keyOf m key).Nodup):gw key by_ (a++b)=gw key by_ (b++a):=
 ng ((iM key by_ (a++b)).trans List.perm_append_comm) (l9 key by_ _) kn
theorem JH {ss hd:List Ds}{L:Lo}(h:Rr key by_ fs ss)(h1:∀m∈ss,lb L m=true)(h2:∀m∈hd,lb L m=false):(gw key by_ (ss++hd)).filter (lb L)=ss:=by
 have e:(ss++hd).filter (lb L)=ss:=by
  rw[List.filter_append,List.filter_eq_self.mpr h1,List.filter_eq_nil_iff.mpr (λm I=>by rw[h2 m I];decide),Q18]
 have J:((gw key by_ (ss++hd)).filter (lb L)).Perm ss:=by
  have:=(iM key by_ (ss++hd)).filter (lb L)
  rwa [e] at this
 have a:=ng J ((l9 key by_ (ss++hd)).sublist Q34) h.kn;have b:=ng (List.Perm.refl ss) h.le h.kn;exact a.trans b.symm
noncomputable def gN (L:Lo) (key:Str) (tk:List Key) (m:Ds):Bool:=lb L m && !inV (kV (keyOf m key)) (tk.map kV)
theorem JI {L:Lo}{I J:List Ds}(h1:Rr key by_ fs I)(h2:Rr key by_ fs J):((J.filter (gN L key ((I.filter (fe L)).map λm=>keyOf m key))++I.filter (fe L)).map λm=>keyOf m key).Nodup:=by
 rw[Q0j];refine List.nodup_append.mpr ⟨h2.iw.kn,h1.iw.kn,λx Y y U e=>?_⟩;obtain⟨m,hm,rfl⟩:=List.mem_map.mp Y;have h:=(List.mem_filter.mp hm).2;unfold gN at h;rw[Bool.and_eq_true] at h;rw[<-e] at U;rw[Cf.mpr U] at h
 cases h.2
theorem JJ {L:Lo}{I:List Ds}(h1:Rr key by_ fs I):((I.filter (lb L)++I.filter (fe L)).map λm=>keyOf m key).Nodup:=by
 have J:(I.filter (lb L)++I.filter (fe L)).Perm I:=by
  rw[CN];exact Q35 (lb L) I
 exact(J.map _).nodup_iff.mpr h1.kn
end
structure RS (K:W.Frag) (Pt Ps Pi Po a b:Addr) (ns:List Int) (n:Int) (C v dx pk pb:Addr) (key by_:Str) (xs:List V) (fs:Fs) (lv:V) (L:Lo) (D1:Addr) (v1:List V) (ms1:List Ds) (f1:List (List Addr)) (D2:Addr) (v2:List V) (ms2:List Ds) (f2:List (List Addr)) (D3:Addr) (v3:List V) (f3:List (List Addr)) (D4:Addr) (v4:List V) (f4:List (List Addr)) (tl ic Dh De:Addr) (H:Hp):Prop where
 w:RW K Pt Ps Pi Po a b ns n H
 k:iC H pk pb key by_ xs fs
 l:lh H lv L fs
 v:pf H C v dx lv
 a1:H D1=some (.lst v1)
 r1:eR H v1 ms1 f1
 a2:H D2=some (.lst v2)
 r2:eR H v2 ms2 f2
 a3:H D3=some (.lst v3)
 r3:eR H v3 ms1 f3
 a4:H D4=some (.lst v4)
 r4:eR H v4 ms2 f4
 t:H tl=some (.lst [.ref D3,.ref D4])
 s:H ic=some (.lst (ft (lb L) ms1 v1))
 h:H Dh=some (.lst (ft (fe L) ms1 v1))
 e:H De=some (.lst (ft (gN L key ((ms1.filter (fe L)).map λm=>keyOf m key)) ms2 v2))
section
variable {K:W.Frag}{Pt Ps Pi Po a b:Addr}{ns:List Int}{n:Int}{C v dx pk pb:Addr}{key by_:Str}{xs:List V}{fs:Fs}{lv:V}{L:Lo}{D1:Addr}{v1:List V}{ms1:List Ds}{f1:List (List Addr)}{D2:Addr}{v2:List V}{ms2:List Ds}{f2:List (List Addr)}{D3:Addr}{v3:List V}{f3:List (List Addr)}{D4:Addr}{v4:List V}{f4:List (List Addr)}{tl ic Dh De:Addr}{H H':Hp}
theorem RS.mv (h:RS K Pt Ps Pi Po a b ns n C v dx pk pb key by_ xs fs lv L D1 v1 ms1 f1 D2 v2 ms2 f2 D3 v3 f3 D4 v4 f4 tl ic Dh De H)(k:Kn H H')(w:RW K Pt Ps Pi Po a b ns n H'):RS K Pt Ps Pi Po a b ns n C v dx pk pb key by_ xs fs lv L D1 v1 ms1 f1 D2 v2 ms2 f2 D3 v3 f3 D4 v4 f4 tl ic Dh De H':=
 ⟨w,h.k.mono k.tu,h.l.mono k.tu,k _ _ (by intro ps z;cases z) h.v,k.lst h.a1,h.r1.kn k,k.lst h.a2,h.r2.kn k,k.lst h.a3,h.r3.kn k,k.lst h.a4,h.r4.kn k,k.lst h.t,k.lst h.s,k.lst h.h,k.lst h.e⟩
theorem RS.same (h:RS K Pt Ps Pi Po a b ns n C v dx pk pb key by_ xs fs lv L D1 v1 ms1 f1 D2 v2 ms2 f2 D3 v3 f3 D4 v4 f4 tl ic Dh De H)(s:Same H H'):RS K Pt Ps Pi Po a b ns n C v dx pk pb key by_ xs fs lv L D1 v1 ms1 f1 D2 v2 ms2 f2 D3 v3 f3 D4 v4 f4 tl ic Dh De H':=h.mv (Kn.of s) (h.w.same s)
theorem RS.ki (h:RS K Pt Ps Pi Po a b ns n C v dx pk pb key by_ xs fs lv L D1 v1 ms1 f1 D2 v2 ms2 f2 D3 v3 f3 D4 v4 f4 tl ic Dh De H)(F:Fr Pt Ps Pi Po)(x:jW Pi H H')(hT:eU Pi jX jY H'):RS K Pt Ps Pi Po a b ns n C v dx pk pb key by_ xs fs lv L D1 v1 ms1 f1 D2 v2 ms2 f2 D3 v3 f3 D4 v4 f4 tl ic Dh De H':=h.mv (Kn.ja x h.w.i) (h.w.ki F x hT)
theorem RS.ko (h:RS K Pt Ps Pi Po a b ns n C v dx pk pb key by_ xs fs lv L D1 v1 ms1 f1 D2 v2 ms2 f2 D3 v3 f3 D4 v4 f4 tl ic Dh De H)(F:Fr Pt Ps Pi Po)(x:jW Po H H')(hT:eU Po nF nG H'):RS K Pt Ps Pi Po a b ns n C v dx pk pb key by_ xs fs lv L D1 v1 ms1 f1 D2 v2 ms2 f2 D3 v3 f3 D4 v4 f4 tl ic Dh De H':=h.mv (Kn.ja x h.w.o) (h.w.ko F x hT)
end
def uh (K:W.Frag):Sp:=λvs H Q E=>qI K 0 vs H Q E\/qI K 1 vs H Q E
def CO (K:W.Frag) (Pt Ps Pi Po:Addr):Sp:=λvs H Q _=>∃a b ns n,vs=[.ref a,.ref b]/\RW K Pt Ps Pi Po a b ns n H/\n<=100000000000/\∀n' H',RW K Pt Ps Pi Po a b ns n' H'->n'<=n+10000000->Q (.bl true) H'
section
variable {P:Program}{w:World}{K:W.Frag}{mg:Str->Option Value}{base:Heap}
variable {C Pt Ps Pi Po:Addr}
theorem JK:fv XA XD (eS (top 59)):=fC
theorem JL (F:Fr Pt Ps Pi Po)(T:Tb mg)(OF:mJ K mg C U ae ai ce af ag)(aV:Dn K mg "_law_round" fg (top 59) aW aX)(a7:Dn K mg "_law_next" fg (top 33) a8 a9)(ba:en P w K mg base eu (1) a8 a9 fg (i8 K))(al:Dn K mg "_law_rows_kind" iS (top 39) am an)(ao:en P w K mg base eu (7) am an iS (uh K))(bb:Dn K mg "_law_case" kX (top 58) bc bd)(be:en P w K mg base eu (131) bc bd kX (CM K Pt Ps Pi Po))(au:Dn K mg "_law_look_for" qG (top 56) av aw)(ax:en P w K mg base eu (130) av aw qG (CL K Pt))(ab:Dn K mg "_law_true" mf (top 51) bf bg)(ac:en P w K mg base eu (5) bf bg mf (jU 3))(ap:Dm K "__init__" "Keep.__init__" qz (fE 31 0) U aq)(ar:en P w K mg base eu (1) U aq qz (Cv C))
 (aC:Dm K "behind" "Keep.behind" qB (fE 31 1) ae aD) (aE:en P w K mg base eu (100) ae aD qB (Cz C)) (aH:Dm K "grade" "Keep.grade" ["self"] (fE 31 4) af aI) (aJ:en P w K mg base eu (1) af aI ["self"] (Cw)) (aK:Dm K "keeps" "Keep.keeps" qA (fE 31 5) ag aL) (aM:en P w K mg base eu (1) ag aL qA (Cy)) (aj:Dm K "see" "Keep.see" qC (fE 31 2) ai bh) (ak:en P w K mg base eu (6) ai bh qC (CA C)) (I:Dn K mg "_law_alike" i7 (top 44) aY aZ) (J:en P w K mg base eu (16) aY aZ i7 (nI 15)) (aP:Dn K mg "_law_sorted" oU (top 57) aQ aT) (aU:en P w K mg base eu (8) aQ aT oU (qU Po nF nG)) (Y:Dn K mg "_law_same_end" i7 (top 55) ay az) (aa:en P w K mg base eu (17) ay az i7 (CK 15)) (aA:Dn K mg "_law_put" qF (top 54) bo bp) (aB:en P w K mg base eu (130) bo bp qF (CJ 15 Pi C)):en P w K mg base eu (132) aW aX fg (CO K Pt Ps Pi Po):=by
 have CT:=OF.ct;have bT:=OF.I_;have cd:=OF.m;have bt:=OF.b;have bz:=OF.s;have bG:=OF.g;have bH:=OF.k;refine aV.F.ok JK λvs H Q E h=>?_;obtain⟨a,b,ns,n,rfl,W,hn,q⟩:=h;refine⟨rfl,λd3 A outer s nd hr hu=>?_⟩;have dE:=Q1b (Q1z (by decide:3<=64) _) hr.units
 refine⟨_,(eh (eN 2 nd (eL ba hr a7 (a_ (pv 0) (a_ (pv 1) c_))))
  (eh (eN 3 nd (eG iH b_ (eG fA (pv 2) b_)))
  (eh (eN 4 nd (gG (gi (a_ b_ (a_ b_ (a_ b_ (a_ b_ (a_ b_ c_)))))) (eG fA (eG gC (pv 2) b_) b_)))
  (eh (eO (eM fc (eG fA (eG gC (pv 2) b_) b_) b_ (eK _)) (eh (eN 3 nd b_)
  (eA (eN 4 nd (fM (Ej rfl) (by rfl) T.GI boot_min (a_ b_ (a_ (pv 4) c_)))))) eQ)
  (eh (sU 5 nd (eL ao hr al (a_ (pv 0) (a_ (pv 1) (a_ (pv 4) (a_ (mW za (by rfl) T.qw boot_int (a_ (ju (gU lK (pv 3) b_ (eK _)) (iO (gU lK (pv 4) b_ (eK _)))) c_)) c_))))))
  (eh (pP (eL be hr bb (a_ (pv 0) (a_ (pv 1) (a_ (pv 5) (a_ (pv 3) c_))))) (iZ rfl (gQ (fL (i:=6) nd rfl gc) (gQ (fL (i:=7) nd rfl gc) (gQ (fL (i:=8) nd rfl gc) iY)))))
  (eh (sU 9 nd (eL ax hr au (a_ (pv 0) (a_ (pv 1) (a_ (pv 5) (a_ (eG jN (pv 6) (pv 7)) c_))))))
  (eh (oH (i:=10) nd rfl gc (g:=(gS 0)) (tt:=(tB (jg _ _ _ (gy (fT 10) (gy (fT 0) iz))))) (te:=(fT 0)) (own:=["_law_row"]) rfl (i5 (N:=XA) (sc:=eS (top 59))) (j3 (pv 6)) (λ_ _ _ _ _=>(fL (i:=0) (show(XB:List Str).Nodup by decide +kernel) rfl (Or.inl rfl) (.inr rfl))) (λ_ _ _ _ _=>(lX (gx (eL ac hr ab (a_ (pv 10) (a_ (pv 0) c_)))))) (λ_ _ _ _ _=>(pv 0)))
  (eh (oH (i:=11) nd rfl gc (g:=(gS 0)) (tt:=(rq (tB (jg _ _ _ (gy (fT 10) (gy (fT 0) iz)))))) (te:=(fT 0)) (own:=["_law_row"]) rfl (i5 (N:=XA) (sc:=eS (top 59))) (j3 (pv 6)) (λ_ _ _ _ _=>(fL (i:=0) (show(XB:List Str).Nodup by decide +kernel) rfl (Or.inl rfl) (.inr rfl))) (λ_ _ _ _ _=>(lX (gW (gx (eL ac hr ab (a_ (pv 10) (a_ (pv 0) c_))))))) (λ_ _ _ _ _=>(pv 0)))
  (eh (sU 12 nd (kL (g:=(gS 0)) (tt:=kK) (te:=(rT (fT 0) (gT (i3 K) (fT 6) (tC (.int 1))))) (own:=["_law_row"]) rfl (i5 (N:=XA) (sc:=eS (top 59))) (j3 (pv 11)) (λ_ _ _ _ _=>(fL (i:=0) (show(XB:List Str).Nodup by decide +kernel) rfl (Or.inl rfl) (.inr rfl))) (λ_ _ _ _ _=>m8) (λ_ _ _ _ _=>(hZ hu (pv 0) (eI (pv 6) b_) (λ_ _=>rfl)))))
  (eh (oH (i:=13) nd rfl gc (g:=(gS 0)) (tt:=(yQ (tB (jg _ _ _ (gy (fT 10) (gy (fT 0) iz)))) (kH (gT (zu K true) (rT (fT 0) (gT (i3 K) (fT 6) (tC (.int 1)))) (fT 13))))) (te:=(fT 0)) (own:=["_law_row"]) rfl (i5 (N:=XA) (sc:=eS (top 59))) (j3 (pv 7)) (λ_ _ _ _ _=>(fL (i:=0) (show(XB:List Str).Nodup by decide +kernel) rfl (Or.inl rfl) (.inr rfl))) (λ_ _ _ _ _=>(lX (PW.pt (mP (gx (eL ac hr ab (a_ (pv 10) (a_ (pv 0) c_)))) (oh (eM zv (hZ hu (pv 0) (eI (pv 6) b_) (λ_ _=>rfl)) (pv 13) (by with_unfolding_all rfl))))))) (λ_ _ _ _ _=>(pv 0)))
  (eh (eN 14 nd (EE bT ar (hr.mono (by decide)) rfl cd ap.b .nil jh (a_ (pv 9) c_)))
  (eh (eO (PW.pt (g9 (eM (Gi (n:=2) dE) (om (pv 14) CT bt aE (hr.mono (by decide)) aC.b .nil jh (a_ (pv 5) c_)) (pv 5) (eK _)) (g9 (eM jw (EC (pv 14) CT bG aJ (hr.mono (by decide)) aH.b .nil jh) eY (eK _)) (hU (eM Jz (om (pv 14) CT bH aM (hr.mono (by decide)) aK.b .nil jh (a_ (eI (pv 5) b_) c_)) g8 (eK _)))))) (eA (eJ g8)) eQ)
  (eh (eO (gW (gx (eL J hr I (a_ (pv 5) (a_ (om (pv 14) CT bz ak (hr.mono (by decide)) aj.b .nil jh (a_ (pv 5) (a_ (pv 6) c_))) (a_ (pv 10) c_)))))) (eA (eJ g8)) eQ)
  (eh (eN 15 nd (eL aB hr aA (a_ (pv 14) (a_ (pv 5) (a_ (pv 6) (a_ (mW zx (by rfl) T.ma boot_list (a_ (pv 13) c_)) c_))))))
  (eh (eO (gW (gx (eL aa hr Y (a_ (pv 5) (a_ (pv 15) (a_ (gd (a_ eY (a_ (eL aU hr aP (a_ (pv 5) (a_ (eG jN (pv 11) (pv 13)) c_))) c_))) c_)))))) (eA (eJ g8)) eQ)
  (eh (eO (gW (gx (eL J hr I (a_ (pv 5) (a_ (om (pv 14) CT bz ak (hr.mono (by decide)) aj.b .nil jh (a_ (pv 5) (a_ (eI (pv 15) b_) c_))) (a_ (pv 13) c_)))))) (eA (eJ g8)) eQ)
  (eh (eO (gW (gx (eL aa hr Y (a_ (pv 5) (a_ (eL aB hr aA (a_ (pv 14) (a_ (pv 5) (a_ (pv 6) (a_ (mW zx (by rfl) T.ma boot_list (a_ (pv 10) c_)) c_))))) (a_ (gd (a_ eY (a_ (gG (pv 8) b_) c_))) c_)))))) (eA (eJ g8)) eQ)
  (eA (eJ (ju (eL J hr I (a_ (pv 5) (a_ (pv 6) (a_ (gG (pv 8) b_) c_)))) (iO (eL J hr I (a_ (pv 5) (a_ (pv 7) (a_ (gG (pv 8) b_) c_)))))))))))))))))))))))))),?_⟩
 ac_rfl
 refine(Zr rfl (Zr rfl ⟨a,b,ns,n,rfl,W.g,by omega,λm H1 m0 m1 cO cP=>?_⟩));have W1:=W.sb cO cP (by omega);have d0:=W.g.pos;clear cO cP W;refine(Zr rfl ⟨_,Zr rfl ⟨rfl,(by show(0:Int)<_;decide),_,Zr rfl ⟨rfl,?_⟩⟩⟩);refine⟨GJ,λp0 cQ=>?_⟩;have s0:Same H1 (upd H1 p0 (.lst [.int 1,.int 2,.int 3,.int 4,.int 12])):=Same.new cQ
 obtain⟨wd,cR,bA,bB⟩:∃wd:Nat,gv [V.int 1,.int 2,.int 3,.int 4,.int 12] (m / 55 % 5)=some (.int wd)/\1<=wd/\wd<=12:=by
  rcases(by omega:m / 55 % 5=0\/m / 55 % 5=1\/m / 55 % 5=2\/m / 55 % 5=3\/m / 55 % 5=4) with z|z|z|z|z <;> rw[z]
  . exact⟨1,gz (j:=0) rfl,by decide,by decide⟩
  . exact⟨2,gz (j:=1) rfl,by decide,by decide⟩
  . exact⟨3,gz (j:=2) rfl,by decide,by decide⟩
  . exact⟨4,gz (j:=3) rfl,by decide,by decide⟩
  . exact⟨12,gz (j:=4) rfl,by decide,by decide⟩
 refine(Zr rfl ⟨_,Zr rfl ⟨rfl,⟨by decide,by decide⟩,_,Zr rfl ⟨rfl,(by show(0:Int)<5;decide),p0,_,_,Zr rfl ⟨rfl,eB.of eF,cR,?_⟩⟩⟩⟩);have W2:=W1.same s0;generalize upd H1 p0 (.lst [.int 1,.int 2,.int 3,.int 4,.int 12])=H2 at W2;clear W1 s0 cQ;obtain⟨cw,cS⟩:∃cw:Nat,1+m % 4=(cw:Int):=⟨(1+m % 4).toNat,by omega⟩;dsimp only[gS];refine o8 (A:=j2 _ _ _) (λbi H'=>∃mn wd:Nat,bi=[some (.ref a),some (.ref b),some (.int m),some (.int mn),some (.int wd),none,none,none,none,none,none,none,none,none,none,none]/\H'=H2/\mn<=30/\1<=wd/\wd<=12) ?_ (λhB=>?_);rotate_left
 . refine(Zr rfl ⟨_,Zr rfl ⟨rfl,⟨by decide,by decide⟩,_,Zr rfl ⟨rfl,(by show(0:Int)<11;decide),rfl,Zr rfl (fW (λc=>?_) (λc=>?_))⟩⟩⟩)
   . refine(Zr rfl ⟨_,Zr rfl ?_⟩);by_cases hc:(wd:Int)<2
     . rw[if_pos hc];exact hB _ _ ⟨30,wd,rfl,rfl,by decide,bA,bB⟩
     . rw[if_neg hc];exact hB _ _ ⟨30,2,rfl,rfl,by decide,by decide,by decide⟩
   . refine hB _ _ ⟨cw,wd,?_,rfl,by omega,bA,bB⟩;rw[<-cS];rfl
 clear cR bA bB cS;intro bi H' zq;obtain⟨mn,wd,rfl,rfl,dF,bA,bB⟩:=zq
 have rk:∀d:Nat,d=0\/d=1->∀{Q':VK},(∀(pk pb:Addr) (xs:List V) (key by_:Str) (fs:Fs) (n2:Int) (H3:Hp),RW K Pt Ps Pi Po a b ns n2 H3->n2<=n+200->ph H3 pk pb key by_->H3 pb=some (.tup xs)->FA H3 xs fs->fs.dep<=2->(Kd.rows key by_ fs).W->Q' (.ref pk) H3)->uh K [.ref a,.ref b,.int wd,.int d] H' Q' E0:=λd hd Q' q'=>by
  have d4:(ck d:Int)<=12:=by rcases hd with rfl|rfl <;> decide
  have d1:(wd:Int) * ((ck d:Int)+1)<=12 * 13:=Q33 (by omega) (by omega) (by omega) (by omega)
  have go:qI K d [.ref a,.ref b,.int wd,.int d] H' Q' E0:=by
   refine⟨a,b,ns,n+1,wd,rfl,bA,bB,W2.g,by omega,λv key by_ fs n2 H3 sb dG l1 l2 hk dH dI _=>?_⟩;unfold KA at hk;obtain⟨pk,pb,xs,rfl,bU,bV,bW⟩:=hk;simp only[Kd.dep] at dH;exact q' pk pb xs key by_ fs n2 H3 (W2.sb sb dG l1) (by omega) bU bV bW (by omega) dI
  rcases hd with rfl|rfl
  . exact .inl go
  . exact .inr go
 refine o8 (A:=lH _ _) (λbi H3=>∃(pk pb:Addr) (xs:List V) (key by_:Str) (fs:Fs) (n2:Int),bi=[some (.ref a),some (.ref b),some (.int m),some (.int mn),some (.int wd),some (.ref pk),none,none,none,none,none,none,none,none,none,none]/\RW K Pt Ps Pi Po a b ns n2 H3/\n2<=n+200/\ph H3 pk pb key by_/\H3 pb=some (.tup xs)/\FA H3 xs fs/\fs.dep<=2/\(Kd.rows key by_ fs).W) ?_ (λhB=>?_);rotate_left
 . have fin:∀(pk pb:Addr) (xs:List V) (key by_:Str) (fs:Fs) (n2:Int) (H3:Hp),RW K Pt Ps Pi Po a b ns n2 H3->n2<=n+200->ph H3 pk pb key by_->H3 pb=some (.tup xs)->FA H3 xs fs->fs.dep<=2->(Kd.rows key by_ fs).W->_:=λpk pb xs key by_ fs n2 H3 h1 h2 h3 h4 h5 h6 h7=>hB _ _ ⟨pk,pb,xs,key,by_,fs,n2,rfl,h1,h2,h3,h4,h5,h6,h7⟩;refine(Zr rfl (Zr rfl (Zr rfl (Zr rfl ⟨_,Zr rfl ⟨rfl,Zr rfl (fW (λc=>(Zr rfl ⟨_,Zr rfl ⟨rfl,.inr (Zr rfl ?_)⟩⟩)) (λc=>.inr (Zr rfl ?_)))⟩⟩))))
   . dsimp only[iz];by_cases bI:(wd:Int)<12
     . rw[if_pos (decide_eq_true bI)];exact rk 1 (.inr rfl) fin
     . rw[if_neg (by rw[decide_eq_false bI];decide)];exact rk 0 (.inl rfl) fin
   . exact rk 0 (.inl rfl) fin
 intro bi H3 zq;obtain⟨pk,pb,xs,key,by_,fs,n2,rfl,W3,dJ,bU,bV,bW,cf,hW⟩:=zq;clear rk W2 bA bB;have cT:=hW;unfold Kd.W at cT;obtain⟨d5,bI,d6,bu,dL⟩:=cT;have cU:fs.dB<=12:=by have:=oN fs;omega
 have cV:iC H3 pk pb key by_ xs fs:=⟨bU,bV,bW,hW⟩;clear bU bV bW;refine(Zr rfl (Zr rfl (Zr rfl (Zr rfl ⟨a,b,ns,n2,pk,pb,xs,key,by_,fs,mn,rfl,W3,cV,cf,dF,by omega,λt tl D1 v1 ms1 f1 D2 v2 ms2 f2 D3 v3 f3 D4 v4 f4 n4 H4 W4 dM hK ht bX cg V1 V2 V3 V4 R1 R2 S1 S2=>?_⟩))));refine⟨t,Zr rfl ⟨d_.of ht,rfl,_,Zr rfl ⟨_,Zr rfl ⟨_,Zr rfl ⟨rfl,?_⟩⟩⟩⟩⟩;clear W3 cV ht;have a5:=(A3.len V1.r).1;have bv:=(A3.len V2.r).1;have dv:=R1.len;have d2:=R2.len;refine(Zr rfl (Zr rfl (Zr rfl (Zr rfl (Zr rfl ⟨D1,D2,_,Zr rfl ⟨rfl,V1.at_,V2.at_,Q0k (gE (by omega)),λDr cx=>?_⟩⟩)))));have s5:Same H4 (upd H4 Dr (.lst (v1++v2))):=Same.new cx;have W5:=W4.same s5;have ci:Dr≠b:=Ne.symm (eP W4.g.at_ cx)
 have cW:∀c∈Dr::(f1++f2).flatten,c≠b:=λc hc=>by
  rcases List.mem_cons.mp hc with e|e
  . rw[e];exact ci
  . rw[Q1q] at e;rcases List.mem_append.mp e with e|e
    . exact V1.nb c (Q0b _ e)
    . exact V2.nb c (Q0b _ e)
 refine⟨a,b,ns,n4,pk,pb,key,by_,xs,fs,Dr,v1++v2,ms1++ms2,f1++f2,rfl,W5.g,W5.v,hK.mono (Tu.of s5),cf,eF,eR.app (V2.r.sm s5) (V1.r.sm s5),cW,by rw[Q0d];omega,λm hm=>?_,by omega,λlv L n6 H6 cy cX w1 w2 cY hL=>?_⟩
 . rcases List.mem_append.mp hm with e|e
   . exact⟨(R1.ok m e).1,S1 m e⟩
   . exact⟨(R2.ok m e).1,S2 m e⟩
 have W6:=W5.fh F cy cX w1 cY;have k6:Kt b H4 H6:=(Kt.of s5).trans (ff.kt cy W5.v);have bC:=W4.g.at_;replace V1:=V1.kt k6 bC;replace V2:=V2.kt k6 bC;replace V3:=V3.kt k6 bC;replace V4:=V4.kt k6 bC;replace hK:=hK.mono (k6.tu bC);replace bX:=k6.lst cg bX;have d7:n6<=n+3000000:=by omega
 clear cy cX cY k6 bC W5 W4 s5 cW cx ci w1 w2 S1 S2 dM dJ cg;have a6:=λm hm=>(R1.ok m hm).1;have cj:=λm hm=>(R2.ok m hm).1;have dZ:=bu;refine(Zr rfl ⟨D1,rfl,⟨_,eB.of V1.at_⟩,k_ (nH (eB.of V1.at_)) (λi=>ft (lb L) (ms1.take i) (v1.take i)) (by omega) (λic cZ=>?_) (λi x hx add skip=>?_)⟩)
 case refine_2=>
  obtain⟨m,f,hm,ho⟩:=V1.r.row hx;exact⟨rfl,Zr rfl (Zr rfl ⟨lv,x,L,.eX fs,.dct m,f,rfl,hL.at_,hL.ok,ho,mK (a6 m (Q0m hm)),hL.dp,Zr rfl (fW (λc=>(Zr rfl (add _ (pj a5.symm hm hx c)))) (λc=>skip (nK a5.symm hm hx c)))⟩)⟩
 rw[pq a5.symm];have s7:Same H6 (upd H6 ic (.lst (ft (lb L) ms1 v1))):=Same.new cZ;have bO:=eF (H:=H6) (a:=ic) (o:=.lst (ft (lb L) ms1 v1));generalize upd H6 ic (.lst (ft (lb L) ms1 v1))=H7 at s7 bO;have bY:=hL.mono (Tu.of s7);have c1:=V1.r.sm s7;refine(Zr rfl ⟨D1,rfl,⟨_,eB.of (s7 _ _ V1.at_)⟩,k_ (nH (eB.of (s7 _ _ V1.at_))) (λi=>ft (fe L) (ms1.take i) (v1.take i)) (by omega) (λDh c2=>?_) (λi x hx add skip=>?_)⟩)
 case refine_2=>
  obtain⟨m,f,hm,ho⟩:=c1.row hx;exact⟨rfl,Zr rfl (Zr rfl ⟨lv,x,L,.eX fs,.dct m,f,rfl,bY.at_,bY.ok,ho,mK (a6 m (Q0m hm)),bY.dp,Zr rfl (fW (λc=>(Zr rfl (add _ (pj a5.symm hm hx c)))) (λc=>skip (nK a5.symm hm hx c)))⟩)⟩
 rw[pq a5.symm];have s8:Same H7 (upd H7 Dh (.lst (ft (fe L) ms1 v1))):=Same.new c2;have bm:=eF (H:=H7) (a:=Dh) (o:=.lst (ft (fe L) ms1 v1));generalize upd H7 Dh (.lst (ft (fe L) ms1 v1))=H8 at s8 bm;have bZ:=s7.trans s8;clear bY c1;have cz:eR H8 (ft (fe L) ms1 v1) (ms1.filter (fe L)) (ft (fe L) ms1 f1):=(V1.r.sm bZ).iw;have dw:=(A3.len cz).1;have d8:(ms1.filter (fe L)).length<=30:=Q0f (Q2d _ _) dv;have dy:∀m∈ms1.filter (fe L),fJ fs m:=λm hm=>a6 m (List.mem_filter.mp hm).1;generalize dN:ms1.filter (fe L)=mh at *;generalize dO:ft (fe L) ms1 v1=wh at *;refine(Zr rfl ⟨Dh,rfl,⟨_,eB.of bm⟩,k_ (nH (eB.of bm)) (λi=>((mh.take i).map λm=>keyOf m key).map kV) (by omega) (λDt c3=>?_) (λi x hx add skip=>?_)⟩)
 case refine_2=>
  obtain⟨m,f,hm,ho⟩:=cz.row hx;obtain⟨rr,rfl,gk⟩:=qX ho (dy m (Q0m hm)) bu;refine⟨rfl,yes (fw (Zr rfl (Zr rfl ⟨pk,_,_,Zr rfl ⟨rfl,d_.of (bZ _ _ hK.at_),rfl,rr,Zr rfl ⟨gk _ (Same.refl _),add _ ?_⟩⟩⟩)))⟩;rw[take_add hm,Q0j,Q0j];rfl
 rw[dw,Q0r];have s9:Same H8 (upd H8 Dt (.lst ((mh.map λm=>keyOf m key).map kV))):=Same.new c3;have bP:=eF (H:=H8) (a:=Dt) (o:=.lst ((mh.map λm=>keyOf m key).map kV));generalize upd H8 Dt (.lst ((mh.map λm=>keyOf m key).map kV))=H9 at s9 bP;have bq:=bZ.trans s9;have b1:=hL.mono (Tu.of bq);have c4:=V2.r.sm bq;refine(Zr rfl ⟨D2,rfl,⟨_,eB.of (bq _ _ V2.at_)⟩,k_ (nH (eB.of (bq _ _ V2.at_))) (λi=>ft (gN L key (mh.map λm=>keyOf m key)) (ms2.take i) (v2.take i)) (by omega) (λDe c5=>?_) (λi x hx add skip=>?_)⟩)
 case refine_2=>
  obtain⟨m,f,hm,ho⟩:=c4.row hx;obtain⟨rr,rfl,gk⟩:=qX ho (cj m (Q0m hm)) bu;refine⟨rfl,Zr rfl (Zr rfl ⟨lv,.ref rr,L,.eX fs,.dct m,f,rfl,b1.at_,b1.ok,ho,mK (cj m (Q0m hm)),b1.dp,Zr rfl (fW (λc=>?_) (λc=>e_ (skip (nK bv.symm hm hx λz=>c (Bool.and_eq_true_iff.mp z).1))))⟩)⟩;refine(Zr rfl (Zr rfl ⟨pk,_,_,Zr rfl ⟨rfl,d_.of (bq _ _ hK.at_),rfl,rr,Zr rfl ⟨gk _ (Same.refl _),Zr rfl ⟨Dt,Zr rfl ⟨.inl (eB.of bP),uc _,flat_keys,Zr rfl (fW (λcc=>(Zr rfl (add _ (pj bv.symm hm hx ?_)))) (λcc=>skip (nK bv.symm hm hx λz=>cc (Bool.and_eq_true_iff.mp z).2)))⟩⟩⟩⟩⟩));exact Bool.and_eq_true_iff.mpr ⟨c,cc⟩
 rw[pq bv.symm];have bJ:Same H9 (upd H9 De (.lst (ft (gN L key (mh.map λm=>keyOf m key)) ms2 v2))):=Same.new c5;have br:=eF (H:=H9) (a:=De) (o:=.lst (ft (gN L key (mh.map λm=>keyOf m key)) ms2 v2));generalize upd H9 De (.lst (ft (gN L key (mh.map λm=>keyOf m key)) ms2 v2))=dP at bJ br;have c6:=bq.trans bJ;have c7:=(s8.trans s9).trans bJ;have c8:=s9.trans bJ;refine(Zr rfl ?_);intro v dx hv c9 _;refine⟨v,dx,lv,rfl,eF,λda keep hV=>⟨rfl,?_⟩⟩;have bK:Same dP da:=λc o e=>keep c o (eP e hv) (by rw[eE (eP e hv),eE (eP e c9)];exact e);have sA:=c6.trans bK;subst dN;subst dO;have X:RS K Pt Ps Pi Po a b ns n6 C v dx pk pb key by_ xs fs lv L D1 v1 ms1 f1 D2 v2 ms2 f2 D3 v3 f3 D4 v4 f4 tl ic Dh De da:=⟨W6.same sA,hK.mono (Tu.of sA),hL.mono (Tu.of sA),hV,sA _ _ V1.at_,V1.r.sm sA,sA _ _ V2.at_,V2.r.sm sA,sA _ _ V3.at_,V3.r.sm sA,sA _ _ V4.at_,V4.r.sm sA,sA _ _ bX,bK _ _ (c7 _ _ bO),bK _ _ (c8 _ _ bm),bK _ _ br⟩;clear keep hv c9 hV bK sA c6 c7 c8 bJ bq s9 bZ s8 s7 cZ c2 c3 c5 bO bm bP br b1 c4 cz W6 V1 V2 V3 V4 hK hL bX;dsimp only[gS];refine o8 (A:=j2 _ _ _) (λbi H'=>bi=[some (.ref a),some (.ref b),some (.int m),some (.int mn),some (.int wd),some (.ref pk),some (.ref D1),some (.ref D2),some (.ref tl),some lv,some (.ref ic),some (.ref Dh),some (.ref Dt),some (.ref De),some (.ref v),none]/\RS K Pt Ps Pi Po a b ns n6 C v dx pk pb key by_ xs fs lv L D1 v1 ms1 f1 D2 v2 ms2 f2 D3 v3 f3 D4 v4 f4 tl ic Dh De H') ?_ (λhB=>?_);rotate_left
 . refine(Zr rfl ⟨v,dx,Zr rfl ⟨X.v,rfl,Zr rfl ⟨v,dx,pk,pb,key,by_,xs,fs,lv,L,rfl,X.v,X.k,X.l,λdQ dR=>?_⟩⟩⟩);replace X:=X.same dR;refine(Zr rfl ⟨pk,pk,_,_,λ_=>true,rfl,rfl,JF,.inr ⟨d_.of X.k.at_,d_.of X.k.at_,Zr rfl (e_ ?_)⟩⟩);refine(Zr rfl ⟨v,dx,Zr rfl ⟨X.v,rfl,.ref v,rfl,rfl,Zr rfl (kJ rfl ?_)⟩⟩);exact(Zr rfl ⟨v,dx,Zr rfl ⟨X.v,rfl,Zr rfl ⟨pk,_,_,Zr rfl ⟨rfl,d_.of X.k.at_,rfl,.ref v,.str key,rfl,rfl,rfl,Zr rfl (e_ (hB _ _ ⟨rfl,X⟩))⟩⟩⟩⟩)
 clear X;rintro bi dQ ⟨rfl,X⟩;have cA:Rr key by_ fs (ms1.filter (lb L)):=R1.iw;have bL:Rr key by_ fs (ms2.filter (gN L key ((ms1.filter (fe L)).map λm=>keyOf m key))):=R2.iw;have db:=JI (L:=L) R1 R2;have cm:∀m∈ms2.filter (gN L key ((ms1.filter (fe L)).map λm=>keyOf m key)),lb L m=true:=λm hm=>(Bool.and_eq_true_iff.mp (List.mem_filter.mp hm).2).1;have dz:=λm hm=>(bL.ok m hm).1;have lE:=bL.len;have bn:∀{H},eR H v2 ms2 f2->eR H (ft (gN L key ((ms1.filter (fe L)).map λm=>keyOf m key)) ms2 v2) (ms2.filter (gN L key ((ms1.filter (fe L)).map λm=>keyOf m key))) (ft (gN L key ((ms1.filter (fe L)).map λm=>keyOf m key)) ms2 f2):=λh=>h.iw;have bw:∀{l:List Ds},Rr key by_ fs l->Rs 15 (.rows key by_ fs) (.lst (gm l)) none:=λh=>nM.rs (N:=12) (h.ms cU) bI;have bD:=bw R1;have cC:=bw R2;have b2:=bw cA;have b3:=bw bL
 have dA:∀m∈ms1.filter (fe L),lb L m=false:=λm hm=>by
  have:=(List.mem_filter.mp hm).2;unfold fe at this;unfold lb
  cases e:L.b (.dct m) with
  |false=>rfl
  |true=>rw[e] at this;cases this
 refine(Zr rfl (Zr rfl ⟨v,dx,Zr rfl ⟨X.v,rfl,Zr rfl (Zr rfl ⟨v,dx,.ref pk,D1,v1,ms1,f1,fs,lv,L,rfl,X.v,X.l,X.a1,X.r1,by omega,a6,λT1 d9 dc _ dd=>?_⟩)⟩⟩));replace X:=X.same dc;refine(Zr rfl ⟨.ref pk,.ref T1,.ref ic,.rows key by_ fs,.lst (gm (ms1.filter (lb L))),_,Zr rfl ⟨X.k.ka,hW,jc dd X.r1.iw,jc X.s X.r1.iw,b2.1,b2.2.1,b2.2.2,λb4 de=>⟨true,rfl,e_ ?_⟩⟩⟩);replace X:=X.same de;clear dc de dd;refine(Zr rfl (Zr rfl (Zr rfl (Zr rfl ⟨De,Zr rfl ⟨.inl (eB.of X.e),λl1 df=>?_⟩⟩))));have cD:Same b4 (upd b4 l1 (.lst (ft (gN L key ((ms1.filter (fe L)).map λm=>keyOf m key)) ms2 v2))):=Same.new df;have cE:=eF (H:=b4) (a:=l1) (o:=.lst (ft (gN L key ((ms1.filter (fe L)).map λm=>keyOf m key)) ms2 v2));generalize upd b4 l1 (.lst (ft (gN L key ((ms1.filter (fe L)).map λm=>keyOf m key)) ms2 v2))=ea at cD cE;replace X:=X.same cD;clear cD df;refine⟨v,dx,pk,pb,key,by_,xs,fs,lv,L,D1,v1,ms1,f1,l1,_,_,Zr rfl ⟨⟨X.v,X.k,X.l,X.a1,X.r1,by omega,a6,cE,bn X.r2,by rw[(A3.len (bn X.r2)).1];exact lE,dz,b3,cm,db⟩,X.w.i,λDn vn fn tq b5 cn co aF ah aG=>?_⟩⟩;replace X:=X.ki F cn co;clear cn co cE;refine(Zr rfl (Zr rfl (Zr rfl (Zr rfl (Zr rfl ⟨Dh,De,_,Zr rfl ⟨rfl,X.h,X.e,Q0k (gE ?_),λl2 dg=>?_⟩⟩)))))
 . have a1:=(A3.len (X.r1.iw (p:=fe L))).1;have a2:=(A3.len (bn X.r2)).1;omega
 have bE:Same b5 (upd b5 l2 (.lst (ft (fe L) ms1 v1++ft (gN L key ((ms1.filter (fe L)).map λm=>keyOf m key)) ms2 v2))):=Same.new dg;have cF:=eF (H:=b5) (a:=l2) (o:=.lst (ft (fe L) ms1 v1++ft (gN L key ((ms1.filter (fe L)).map λm=>keyOf m key)) ms2 v2));generalize upd b5 l2 (.lst (ft (fe L) ms1 v1++ft (gN L key ((ms1.filter (fe L)).map λm=>keyOf m key)) ms2 v2))=dS at bE cF;replace X:=X.same bE;replace aF:=bE _ _ aF;replace ah:=ah.sm bE;replace aG:=bE _ _ aG;clear bE dg;have bQ:eR dS _ (ms1.filter (fe L)++ms2.filter (gN L key ((ms1.filter (fe L)).map λm=>keyOf m key))) _:=eR.app (bn X.r2) (X.r1.iw (p:=fe L));have dC:=(A3.len bQ).1
 have b6:∀m∈ms1.filter (fe L)++ms2.filter (gN L key ((ms1.filter (fe L)).map λm=>keyOf m key)),kr fs m:=λm hm=>by
  rcases List.mem_append.mp hm with e|e
  . exact R1.iw.ok m e
  . exact bL.ok m e
 have b7:((ms1.filter (fe L)++ms2.filter (gN L key ((ms1.filter (fe L)).map λm=>keyOf m key))).map λm=>keyOf m key).Nodup:=(List.perm_append_comm.map _).nodup_iff.mpr db;have cG:(ms1.filter (fe L)++ms2.filter (gN L key ((ms1.filter (fe L)).map λm=>keyOf m key))).length<=60:=by rw[Q0d];omega
 have b8:Rs 15 (.rows key by_ fs) (.lst (gm (gw key by_ (ms1.filter (fe L)++ms2.filter (gN L key ((ms1.filter (fe L)).map λm=>keyOf m key)))))) none:=nM.rs (N:=12) (JG b6 b7 cG cU) bI;have dh:=swap_eq (by_:=by_) b7;have bR:=JH (hd:=ms1.filter (fe L)) bL cm dA;refine⟨pk,l2,pb,key,by_,fs,_,_,Zr rfl ⟨X.k.at_,cF,bQ,by omega,X.w.o,λm hm=>(b6 m hm).1,bu,dL,b7,λDz vz fz b9 bS cp _ di dj _=>?_⟩⟩;have bx:=Kn.ja bS X.w.o;replace X:=X.ko F bS cp;replace aF:=bx.lst aF;replace ah:=ah.kn bx;replace aG:=bx.tu _ _ aG;clear bS cp bx cF bQ dC;rw[dh] at ah bR;refine⟨gh,λtz bM=>?_⟩;have bj:Same b9 (upd b9 tz (.tup [.str "done",.ref Dz])):=Same.new bM;have cH:=eF (H:=b9) (a:=tz) (o:=.tup [.str "done",.ref Dz]);generalize upd b9 tz (.tup [.str "done",.ref Dz])=eb at bj cH;replace X:=X.same bj;replace aF:=bj _ _ aF;replace ah:=ah.sm bj;replace aG:=bj _ _ aG;refine⟨.ref pk,tq,tz,.rows key by_ fs,.ref Dn,.ref Dz,_,_,Zr rfl ⟨X.k.ka,hW,aG,cH,jc aF ah,jc (bj _ _ di) (dj.sm bj),b8.1,b8.2.1,b8.2.2,λec bN=>⟨true,rfl,e_ ?_⟩⟩⟩;replace X:=X.same bN;replace aF:=bN _ _ aF;replace ah:=ah.sm bN;replace aG:=bN _ _ aG;clear bj bN cH di dj bM;have cI:=iM key by_ (ms1.filter (fe L)++ms2.filter (gN L key ((ms1.filter (fe L)).map λm=>keyOf m key)));have dU:(gw key by_ (ms1.filter (fe L)++ms2.filter (gN L key ((ms1.filter (fe L)).map λm=>keyOf m key)))).length<=60:=by rw[cI.length_eq];exact cG
 have cq:=λm hm=>(b6 m (cI.mem_iff.mp hm)).1;clear cI b6 b7 cG dh;generalize gw key by_ (ms1.filter (fe L)++ms2.filter (gN L key ((ms1.filter (fe L)).map λm=>keyOf m key)))=mB at *;have dD:=(A3.len ah).1;refine(Zr rfl (Zr rfl ⟨v,dx,Zr rfl ⟨X.v,rfl,Zr rfl (Zr rfl ⟨tq,_,_,Zr rfl ⟨rfl,d_.of aG,rfl,v,dx,.ref pk,Dn,vn,mB,fn,fs,lv,L,rfl,X.v,X.l,aF,ah,by omega,cq,λT2 dV cJ _ dk=>?_⟩⟩)⟩⟩));replace X:=X.same cJ
 have cr:eR dV (ft (lb L) mB vn) (ms2.filter (gN L key ((ms1.filter (fe L)).map λm=>keyOf m key))) (ft (lb L) mB fn):=by
  have:=(ah.sm cJ).iw (p:=lb L)
  rwa [bR] at this
 refine(Zr rfl ⟨.ref pk,.ref T2,.ref De,.rows key by_ fs,.lst (gm (ms2.filter (gN L key ((ms1.filter (fe L)).map λm=>keyOf m key)))),_,Zr rfl ⟨X.k.ka,hW,jc dk cr,jc X.e (bn X.r2),b3.1,b3.2.1,b3.2.2,λca dm=>⟨true,rfl,e_ ?_⟩⟩⟩);replace X:=X.same dm;clear cJ dm dk cr aF ah aG dD cq dU bR b8;refine(Zr rfl (Zr rfl (Zr rfl (Zr rfl (Zr rfl ⟨ic,Zr rfl ⟨.inl (eB.of X.s),λl3 dn=>?_⟩⟩)))));have cK:Same ca (upd ca l3 (.lst (ft (lb L) ms1 v1))):=Same.new dn;have cL:=eF (H:=ca) (a:=l3) (o:=.lst (ft (lb L) ms1 v1));generalize upd ca l3 (.lst (ft (lb L) ms1 v1))=ed at cK cL;replace X:=X.same cK;clear cK dn;have lS:=cA.len;refine⟨v,dx,pk,pb,key,by_,xs,fs,lv,L,D1,v1,ms1,f1,l3,_,_,Zr rfl ⟨⟨X.v,X.k,X.l,X.a1,X.r1,by omega,a6,cL,X.r1.iw,by rw[(A3.len (X.r1.iw (p:=lb L))).1];exact lS,λm hm=>(cA.ok m hm).1,b2,λm hm=>(List.mem_filter.mp hm).2,JJ R1⟩,X.w.i,λDm vm fm tp cb cs cu dq cM dt=>?_⟩⟩;replace X:=X.ki F cs cu;rw[back_eq R1] at cM;clear cs cu cL;refine(Zr rfl ⟨tl,_,_,Zr rfl ⟨rfl,eB.of X.t,gz (j:=0) rfl,gh,λtz bM=>?_⟩⟩);have bF:Same cb (upd cb tz (.tup [.str "done",.ref D3])):=Same.new bM;have cN:=eF (H:=cb) (a:=tz) (o:=.tup [.str "done",.ref D3]);generalize upd cb tz (.tup [.str "done",.ref D3])=ee at bF cN;replace X:=X.same bF;refine⟨.ref pk,tp,tz,.rows key by_ fs,.ref Dm,.ref D3,.lst (gm ms1),_,Zr rfl ⟨X.k.ka,hW,bF _ _ dt,cN,jc (bF _ _ dq) (cM.sm bF),jc X.a3 X.r3,bD.1,bD.2.1,bD.2.2,λef du=>⟨true,rfl,e_ ?_⟩⟩⟩;replace X:=X.same du;clear bF du cN dq cM dt bM;refine(Zr rfl (Zr rfl (Zr rfl ⟨tl,_,_,Zr rfl ⟨rfl,eB.of X.t,gz (j:=0) rfl,.ref pk,.ref D1,.ref D3,.rows key by_ fs,.lst (gm ms1),_,Zr rfl ⟨X.k.ka,hW,jc X.a1 X.r1,jc X.a3 X.r3,bD.1,bD.2.1,bD.2.2,λeg dW=>⟨true,rfl,fw ?_⟩⟩⟩⟩)));replace X:=X.same dW;exact(Zr rfl (Zr rfl (Zr rfl ⟨tl,_,_,Zr rfl ⟨rfl,eB.of X.t,gz (j:=1) rfl,.ref pk,.ref D2,.ref D4,.rows key by_ fs,.lst (gm ms2),_,Zr rfl ⟨X.k.ka,hW,jc X.a2 X.r2,jc X.a4 X.r4,cC.1,cC.2.1,cC.2.2,λdX dY=>q _ dX (X.same dY).w (by omega)⟩⟩⟩)))
end
theorem iU.JM {K:W.Frag}{H H':Hp}{a:Addr}{ns:List Int}(h:iU K H a ns)(s:Same H H'):iU K H' a ns:=by
 rcases h with⟨o,h⟩|h
 . exact .inl ⟨o,s _ _ h⟩
 . exact .inr h
def ui (K:W.Frag) (Pt Ps Pi Po:Addr):Sp:=λvs H Q _=>∃(a:Addr) (ns:List Int),vs=[.ref a]/\iU K H a ns/\ns.length<=63/\eU Pt gH gI H/\eU Ps mF mG H/\eU Pi jX jY H/\eU Po nF nG H/\∀H',Q (.bl true) H'
section
variable {P:Program}{w:World}{K:W.Frag}{mg:Str->Option Value}{base:Heap}
variable {Pt Ps Pi Po:Addr}
theorem JN:fv ["_law_script","_law_at","_law_k"] ["_law_script"] (eS (top 60)):=fC
theorem JO (T:Tb mg)(aa:Dn K mg "law" ["_law_script"] (top 60) ab ac)(I:Dn K mg "_law_round" fg (top 59) J U)(Y:en P w K mg base eu (132) J U fg (CO K Pt Ps Pi Po)):en P w K mg base eu (133) ab ac ["_law_script"] (ui K Pt Ps Pi Po):=by
 refine aa.F.ok JN λvs H Q E h=>?_;obtain⟨a,ns,rfl,hS,af,h1,h2,h3,h4,q⟩:=h;refine⟨rfl,λah A outer s nd hr hu=>?_⟩
 refine⟨_,(eh (eN 1 nd (gi (a_ b_ c_)))
  (eh (hX PassesOwn.never rfl (ky rfl T.kU (a_ (eG iH b_ (eG gC (fM gY (by rfl) T.gM PySem.boot_len (a_ (ot EY (pv 0) oo (oq b_)) c_)) b_)) c_)) (fL (i:=2) nd rfl gc) (eA (eO (gW (gx (eL Y hr I (a_ (pv 0) (a_ (pv 1) c_))))) (eA (eJ g8)) eQ)))
  (eA (eJ g8)))),?_⟩
 ac_rfl
 refine⟨iN,λb hb=>?_⟩;have s0:Same H (upd H b (.lst [.int 0])):=Same.new hb;have W0:RW K Pt Ps Pi Po a b ns 0 (upd H b (.lst [.int 0])):=⟨⟨iU.JM hS s0,af,eF,by decide⟩,h1.same s0,h2.same s0,h3.same s0,h4.same s0⟩;refine(Zr rfl (Zr rfl ⟨a,Zr rfl ⟨W0.g.iB.sq,λp hp=>?_⟩⟩));have ae:=zo (ns.map V.int) none (some 60);rw[Q04] at ae;refine⟨p,Zr rfl ⟨.inl (eB.of eF),_,Zr rfl ⟨rfl,⟨by decide,by decide⟩,_,Zr rfl ⟨rfl,Zr rfl ⟨?_,?_,?_⟩⟩⟩⟩⟩
 . omega
 . omega
 have W1:=W0.same (Same.new hp (o:=.lst (mY (ns.map V.int) none (some 60))));generalize hc:(1+((mY (ns.map V.int) none (some 60)).length:Int) / 40).toNat=cnt;have ag:cnt<=3:=by omega
 refine kE (n:=cnt) (λi σ H'=>∃(x:Option V) (n:Int),σ=[some (.ref a),some (.ref b),x]/\RW K Pt Ps Pi Po a b ns n H'/\n<=10000000 * i) ?_ ?_ ?_
 . exact⟨_,0,rfl,W1,by omega⟩
 . rintro i σ H' hi ⟨x,n,rfl,W,hn⟩;exact(Zr rfl (Zr rfl ⟨a,b,ns,n,rfl,W,by omega,λn' H2 W2 ai=>⟨true,rfl,e_ ⟨_,n',rfl,W2,by omega⟩⟩⟩))
 . rintro σ H' ⟨x,n,rfl,_⟩;exact q _
end
end Pb
namespace Pb
open L2
abbrev CP (K:W.Frag) (x Y:Str) (st:Stmt) (f:Addr):Prop:=∃(oc:Value) (od:Option Addr) (kV J pm:Value) (an:Option Addr) (I ct:Value) (U:Array (Option Value)),K.lookup f=some ⟨oc,od,.func (W.fnOf x Y (h_ st) (g6 st) (eS st) .none kV J pm an I ct),U⟩/\W.codeIn K I Y=true/\W.keepIn K (.ref f)=true
abbrev fV (K:W.Frag) (x:Str) (st:Stmt):Prop:=∃f,W.nsIn K mainGlobals x=some (some (.ref f))/\CP K x x st f
abbrev HB (x U:Str) (ps:List Str) (st:Stmt):Prop:=∀(kV I Y:Value) (an:Option Addr) (J ct:Value) (us:List Value),us.length=ps.length->bindArgs (W.fnOf x U (h_ st) (g6 st) (eS st) .none kV I Y an J ct) ⟨us,[]⟩=pure (ps.zip us)
theorem f6 {K:W.Frag}{mg:Str->Option Value}{h:Heap}{x:Str}{ps:List Str}{st:Stmt}(X:K.In h)(G:h.Ns mainGlobals mg)(a:fV K x st)(U:HB x x ps st):∃f d,Dn K mg x ps st f d/\∀us:List Value,us.length=ps.length->bindArgs d ⟨us,[]⟩=pure (ps.zip us):=by
 obtain⟨f,a,oc,od,kV,I,Y,an,J,ct,aa,l,c,k⟩:=a;have F:=oF (st:=st) l c k;exact⟨f,_,⟨F,F.binds U,W.mg_of X G a⟩,U kV I Y an J ct⟩
abbrev iD (K:W.Frag) (C ns:Addr) (x I:Str) (st:Stmt) (f:Addr):Prop:=W.nsIn K ns x=some (some (.ref f))/\CP K x I st f/\W.isFn K (.ref f)=true/\W.findIn K (.ref C) x=some (some (.ref f))
theorem nN {K:W.Frag}{C ns:Addr}{x I:Str}{ps:List Str}{st:Stmt}{f:Addr}(a:iD K C ns x I st f)(hb:HB x I ps st):∃d,Dm K x I ps st f d:=by
 obtain⟨_,⟨oc,od,kV,J,pm,an,U,ct,Y,l,c,k⟩,_,_⟩:=a;have F:jO K x I st f _:=⟨⟨oc,od,kV,J,pm,an,U,ct,Y,rfl,l,c⟩,k⟩;exact⟨_,F,F.binds hb⟩
theorem JP {K:W.Frag}{x:Str}{st:Stmt}{f:Addr}{Y:Value}{od an:Option Addr}{kV J pm I ct:Value}{U:Array (Option Value)}(a:W.nsIn K mainGlobals x=some (some (.ref f)))(l:K.lookup f=some ⟨Y,od,.func (W.fnOf x x (h_ st) (g6 st) (eS st) .none kV J pm an I ct),U⟩)(c:W.codeIn K I x=true)(k:W.keepIn K (.ref f)=true):fV K x st:=⟨f,a,Y,od,kV,J,pm,an,I,ct,U,l,c,k⟩
theorem JQ {K:W.Frag}{C ns:Addr}{x Y:Str}{st:Stmt}{f:Addr}{oc:Value}{od an:Option Addr}{kV J pm I ct:Value}{U:Array (Option Value)}(a:W.nsIn K ns x=some (some (.ref f)))(l:K.lookup f=some ⟨oc,od,.func (W.fnOf x Y (h_ st) (g6 st) (eS st) .none kV J pm an I ct),U⟩)(c:W.codeIn K I Y=true)(k:W.keepIn K (.ref f)=true)(h:W.isFn K (.ref f)=true)(g:W.findIn K (.ref C) x=some (some (.ref f))):iD K C ns x Y st f:=⟨a,⟨oc,od,kV,J,pm,an,I,ct,U,l,c,k⟩,h,g⟩
theorem iD.meth {K:W.Frag}{C ns:Addr}{x I:Str}{st:Stmt}{f:Addr}(a:iD K C ns x I st f):Meth K C x f:=by
 obtain⟨_,⟨_,_,_,_,_,_,_,_,_,_,_,k⟩,h1,h2⟩:=a;exact⟨h2,h1,k⟩
abbrev JR (K:W.Frag) (C:Addr):Prop:=W.plainGet K C Str.empty=true/\W.hasDictIn K C=true/\W.plainOver K C=true/\W.findIn K (.ref C) "__setattr__"=some (some (.builtin "object.__setattr__"))/\W.makesIn K C=true/\W.keepIn K (.ref C)=true
theorem len1 {α:Type}{l:List α}(h:l.length=1):∃a,l=[a]:=match l,h with|[a],_=>⟨a,rfl⟩
theorem len2 {α:Type}{l:List α}(h:l.length=2):∃a b,l=[a,b]:=match l,h with|[a,b],_=>⟨a,b,rfl⟩
theorem nO {α:Type}{l:List α}(h:l.length=3):∃a b c,l=[a,b,c]:=match l,h with|[a,b,c],_=>⟨a,b,c,rfl⟩
theorem jo {α:Type}{l:List α}(h:l.length=4):∃a b c d,l=[a,b,c,d]:=match l,h with|[a,b,c,d],_=>⟨a,b,c,d,rfl⟩
theorem JS {α:Type}{l:List α}(h:l.length=5):∃a b c d e,l=[a,b,c,d,e]:=match l,h with|[a,b,c,d,e],_=>⟨a,b,c,d,e,rfl⟩
theorem all_mk {l:W.OpenLaw}{w:World}{K:W.Frag}{h:Heap}{mg:Str->Option Value}{fa:Addr}(X:K.In h)(G:h.Ns mainGlobals mg)(cg:mg "law"=some (.ref fa))
 (uk:fV K "is_plain" (top 5))
 (um:fV K "kind_at" (top 6))
 (uo:fV K "misfit" (top 8))
 (uq:fV K "record_misfit" (top 9))
 (ur:fV K "has_just" (top 10))
 (uu:fV K "rows_misfit" (top 11))
 (uv:fV K "is_pair" (top 12))
 (uw:fV K "tree_misfit" (top 13))
 (ux:fV K "either_misfit" (top 14))
 (uy:fV K "rank" (top 15))
 (uz:fV K "by_key" (top 17))
 (uA:fV K "ask_fit" (top 19))
 (uB:fV K "ask_stands" (top 20))
 (uC:fV K "unsound" (top 23))
 (uD:fV K "inner_place" (top 24))
 (uE:fV K "kind_along" (top 25))
 (uF:fV K "stands_on" (top 26))
 (uG:fV K "holds" (top 27))
 (uH:fV K "value_along" (top 28))
 (uI:fV K "holds_of" (top 29))
 (uJ:fV K "_law_next" (top 33))
 (uK:fV K "_law_number" (top 34))
 (uL:fV K "_law_word" (top 35))
 (uM:fV K "_law_names" (top 36))
 (uN:fV K "_law_plain" (top 37))
 (uO:fV K "_law_fields" (top 38))
 (uP:fV K "_law_rows_kind" (top 39))
 (uQ:fV K "_law_kind" (top 40))
 (uR:fV K "_law_rank" (top 41))
 (uS:fV K "_law_value" (top 43))
 (uT:fV K "_law_alike" (top 44))
 (uU:fV K "_law_way" (top 45))
 (uV:fV K "_law_along" (top 46))
 (uW:fV K "_law_places" (top 47))
 (uX:fV K "_law_thing" (top 48))
 (uY:fV K "_law_simple" (top 49))
 (uZ:fV K "_law_look" (top 50))
 (u0:fV K "_law_true" (top 51))
 (u5:fV K "_law_pool" (top 52))
 (u6:fV K "_law_put" (top 54))
 (u7:fV K "_law_same_end" (top 55))
 (u9:fV K "_law_look_for" (top 56))
 (u_:fV K "_law_case" (top 58))
 (va:fV K "_law_round" (top 59))
 (vb:fV K "law" (top 60))
 {fR:Addr} {ci:Value} {cj bD:Option Addr} {bE bF bG bz bH:Value} {cm:Array (Option Value)} (aR:W.nsIn K mainGlobals "_law_rows"=some (some (.ref fR))) (lR:K.lookup fR=some ⟨ci,cj,.func (W.fnOf "_law_rows" "_law_rows" (h_ (top 42)) (g6 (top 42)) (eS (top 42)) .none bE bF bG bD bz bH),cm⟩) (vc:W.codeIn K bz "_law_rows"=true) (kR:W.keepIn K (.ref fR)=true)
 {fS:Addr} {cn:Value} {co bI:Option Addr} {bJ bK bL bA bM:Value} {cp:Array (Option Value)} (aS:W.nsIn K mainGlobals "_law_some"=some (some (.ref fS))) (lS:K.lookup fS=some ⟨cn,co,.func (W.fnOf "_law_some" "_law_some" (h_ (top 53)) (g6 (top 53)) (eS (top 53)) .none bJ bK bL bI bA bM),cp⟩) (vd:W.codeIn K bA "_law_some"=true) (kS:W.keepIn K (.ref fS)=true)
 {fN:Addr} {cq:Value} {cr bN:Option Addr} {bO bP bQ bB bR:Value} {cs:Array (Option Value)} (aN:W.nsIn K mainGlobals "in_order"=some (some (.ref fN))) (lN:K.lookup fN=some ⟨cq,cr,.func (W.fnOf "in_order" "in_order" (h_ (top 16)) (g6 (top 16)) (eS (top 16)) .none bO bP bQ bN bB bR),cs⟩) (ve:W.codeIn K bB "in_order"=true) (kN:W.keepIn K (.ref fN)=true)
 {fO:Addr} {cu:Value} {cw bS:Option Addr} {bT bU bV bC bW:Value} {cx:Array (Option Value)} (aO:W.nsIn K mainGlobals "_law_sorted"=some (some (.ref fO))) (lO:K.lookup fO=some ⟨cu,cw,.func (W.fnOf "_law_sorted" "_law_sorted" (h_ (top 57)) (g6 (top 57)) (eS (top 57)) .none bT bU bV bS bC bW),cx⟩) (vf:W.codeIn K bC "_law_sorted"=true) (kO:W.keepIn K (.ref fO)=true)
 (zz:∀x∈(["len","isinstance","sorted","all","range","enumerate","zip","int","bool","str","list","tuple","dict","min"]:List Str),W.nsIn K mainGlobals x=some none)
 {Y af:Addr} {bo:Value} {bp:Option Addr} {bq:Array (Option Value)} {bc:ClassData}
 (vg:W.nsIn K mainGlobals "Keep"=some (some (.ref Y))) (CQ:K.lookup Y=some ⟨bo,bp,.cls bc,bq⟩) (CS:bc.ns=af)
 {ab bd:Addr} {be:Value} {bf:Option Addr} {bg:Array (Option Value)} {aV:ClassData}
 (vh:W.nsIn K mainGlobals "CantPut"=some (some (.ref ab))) (CU:K.lookup ab=some ⟨be,bf,.cls aV,bg⟩) (CV:aV.ns=bd)
 {aj:Addr} (qY:iD K Y af "__init__" "Keep.__init__" (fE 31 0) aj)
 {ap:Addr} (qZ:iD K Y af "behind" "Keep.behind" (fE 31 1) ap)
 {aW:Addr} (q9:iD K Y af "see" "Keep.see" (fE 31 2) aW)
 {aX:Addr} (q_:iD K Y af "put" "Keep.put" (fE 31 3) aX)
 {ay:Addr} (ra:iD K Y af "grade" "Keep.grade" (fE 31 4) ay)
 {az:Addr} (rb:iD K Y af "keeps" "Keep.keeps" (fE 31 5) az)
 (vi:W.findIn K (.ref Y) "look"=some none)
 (vj:W.typeIn K (.ref ab)=some (.type "type"))
 (vk:(W.clsIn K ab).isSome=true)
 (vo:W.subIn K (.ref ab) (.type "BaseException")=some true)
 (vp:JR K Y)
 {cR PR:Addr} {b1:Value} {b2:Option Addr} {br:Array Value} {b3:Array (Option Value)} (vq:bz=.ref cR) (CY:K.lookup cR=some ⟨b1,b2,.fields br,b3⟩) (CZ:br[11]? =some (.ref PR)) (vv:W.codeHdIn K cR PR=true)
 {cS PS:Addr} {b4:Value} {b5:Option Addr} {bt:Array Value} {b6:Array (Option Value)} (vw:bA=.ref cS) (C0:K.lookup cS=some ⟨b4,b5,.fields bt,b6⟩) (C1:bt[11]? =some (.ref PS)) (vx:W.codeHdIn K cS PS=true)
 {cN PN:Addr} {b7:Value} {b8:Option Addr} {bu:Array Value} {b9:Array (Option Value)} (vy:bB=.ref cN) (C2:K.lookup cN=some ⟨b7,b8,.fields bu,b9⟩) (C3:bu[11]? =some (.ref PN)) (vA:W.codeHdIn K cN PN=true)
 {cO PO:Addr} {ca:Value} {cb:Option Addr} {bv:Array Value} {cc:Array (Option Value)} (vB:bC=.ref cO) (C4:K.lookup cO=some ⟨ca,cb,.fields bv,cc⟩) (C5:bv[11]? =some (.ref PO)) (vC:W.codeHdIn K cO PO=true)
 (jV:Fr PR PS PN PO)
 :∃fd:FuncData,(∀(s:Shared) (v:Value),BindsTo s fd ⟨[v],[]⟩ [("_law_script",v)])/\∀base:Heap,K.In base->base.Ns mainGlobals mg->BM mg base->en l.prog w K mg base eu 133 fa fd ["_law_script"] (ui K PR PS PN PO):=by
 have zz:=λx hx=>W.mg_none_of X G (zz x hx);have T:Tb mg:=⟨zz _ (by simp),zz _ (by simp),zz _ (by simp),zz _ (by simp),zz _ (by simp),zz _ (by simp),zz _ (by simp),zz _ (by simp),zz _ (by simp),zz _ (by simp),zz _ (by simp),zz _ (by simp),zz _ (by simp),zz _ (by simp)⟩;obtain⟨_,_,aY,_⟩:=f6 (ps:=["kind"]) X G uk (λ_ _ _ _ _ _ _ h=>by obtain⟨_,rfl⟩:=len1 h;rfl);obtain⟨_,_,am,_⟩:=f6 (ps:=["fields","name"]) X G um (λ_ _ _ _ _ _ _ h=>by obtain⟨_,_,rfl⟩:=len2 h;rfl);obtain⟨_,_,aQ,_⟩:=f6 (ps:=["kind","value"]) X G uo (λ_ _ _ _ _ _ _ h=>by obtain⟨_,_,rfl⟩:=len2 h;rfl);obtain⟨_,_,aT,_⟩:=f6 (ps:=XO) X G uq (λ_ _ _ _ _ _ _ h=>by obtain⟨_,_,rfl⟩:=len2 h;rfl);obtain⟨_,_,bh,_⟩:=f6 (ps:=XO) X G ur (λ_ _ _ _ _ _ _ h=>by obtain⟨_,_,rfl⟩:=len2 h;rfl);obtain⟨_,_,a5,_⟩:=f6 (ps:=XU) X G uu (λ_ _ _ _ _ _ _ h=>by obtain⟨_,_,rfl⟩:=len2 h;rfl);obtain⟨_,_,bj,_⟩:=f6 (ps:=["value"]) X G uv (λ_ _ _ _ _ _ _ h=>by obtain⟨_,rfl⟩:=len1 h;rfl);obtain⟨_,_,a6,_⟩:=f6 (ps:=["kind","tree"]) X G uw (λ_ _ _ _ _ _ _ h=>by obtain⟨_,_,rfl⟩:=len2 h;rfl);obtain⟨_,_,aU,_⟩:=f6 (ps:=["fields","value"]) X G ux (λ_ _ _ _ _ _ _ h=>by obtain⟨_,_,rfl⟩:=len2 h;rfl);obtain⟨_,_,bb,_⟩:=f6 (ps:=["kind","row"]) X G uy (λ_ _ _ _ _ _ _ h=>by obtain⟨_,_,rfl⟩:=len2 h;rfl);obtain⟨_,_,ba,_⟩:=f6 (ps:=XU) X G uz (λ_ _ _ _ _ _ _ h=>by obtain⟨_,_,rfl⟩:=len2 h;rfl);obtain⟨_,_,a3,_⟩:=f6 (ps:=["kind","seen"]) X G uA (λ_ _ _ _ _ _ _ h=>by obtain⟨_,_,rfl⟩:=len2 h;rfl);obtain⟨_,_,aA,_⟩:=f6 (ps:=["stands"]) X G uB (λ_ _ _ _ _ _ _ h=>by obtain⟨_,rfl⟩:=len1 h;rfl);obtain⟨_,_,a4,_⟩:=f6 (ps:=["look","kind"]) X G uC (λ_ _ _ _ _ _ _ h=>by obtain⟨_,_,rfl⟩:=len2 h;rfl);obtain⟨_,_,a7,_⟩:=f6 (ps:=Xm) X G uD (λ_ _ _ _ _ _ _ h=>by obtain⟨_,_,_,rfl⟩:=nO h;rfl);obtain⟨_,_,aB,_⟩:=f6 (ps:=["path","kind"]) X G uE (λ_ _ _ _ _ _ _ h=>by obtain⟨_,_,rfl⟩:=len2 h;rfl);obtain⟨_,_,aE,_⟩:=f6 (ps:=Xh) X G uF (λ_ _ _ _ _ _ _ h=>by obtain⟨_,_,rfl⟩:=len2 h;rfl);obtain⟨_,_,a2,_⟩:=f6 (ps:=["look","value"]) X G uG (λ_ _ _ _ _ _ _ h=>by obtain⟨_,_,rfl⟩:=len2 h;rfl);obtain⟨_,_,a8,_⟩:=f6 (ps:=["path","value"]) X G uH (λ_ _ _ _ _ _ _ h=>by obtain⟨_,_,rfl⟩:=len2 h;rfl);obtain⟨_,_,bi,_⟩:=f6 (ps:=Xh) X G uI (λ_ _ _ _ _ _ _ h=>by obtain⟨_,_,rfl⟩:=len2 h;rfl);obtain⟨_,_,I,_⟩:=f6 (ps:=XD) X G uJ (λ_ _ _ _ _ _ _ h=>by obtain⟨_,_,rfl⟩:=len2 h;rfl);obtain⟨_,_,aq,_⟩:=f6 (ps:=XD) X G uK (λ_ _ _ _ _ _ _ h=>by obtain⟨_,_,rfl⟩:=len2 h;rfl);obtain⟨_,_,aF,_⟩:=f6 (ps:=XD) X G uL (λ_ _ _ _ _ _ _ h=>by obtain⟨_,_,rfl⟩:=len2 h;rfl);obtain⟨_,_,ac,_⟩:=f6 (ps:=Xc) X G uM (λ_ _ _ _ _ _ _ h=>by obtain⟨_,_,_,rfl⟩:=nO h;rfl);obtain⟨_,_,ae,_⟩:=f6 (ps:=XD) X G uN (λ_ _ _ _ _ _ _ h=>by obtain⟨_,_,rfl⟩:=len2 h;rfl);obtain⟨_,_,a9,_⟩:=f6 (ps:=XI) X G uO (λ_ _ _ _ _ _ _ h=>by obtain⟨_,_,_,_,rfl⟩:=jo h;rfl);obtain⟨_,_,U,_⟩:=f6 (ps:=XI) X G uP (λ_ _ _ _ _ _ _ h=>by obtain⟨_,_,_,_,rfl⟩:=jo h;rfl);obtain⟨_,_,an,_⟩:=f6 (ps:=Xb) X G uQ (λ_ _ _ _ _ _ _ h=>by obtain⟨_,_,_,rfl⟩:=nO h;rfl);obtain⟨_,_,aa,_⟩:=f6 (ps:=Xa) X G uR (λ_ _ _ _ _ _ _ h=>by obtain⟨_,_,rfl⟩:=len2 h;rfl);obtain⟨_,_,J,_⟩:=f6 (ps:=XJ) X G uS (λ_ _ _ _ _ _ _ h=>by obtain⟨_,_,_,_,rfl⟩:=jo h;rfl);obtain⟨_,_,ah,_⟩:=f6 (ps:=XG) X G uT (λ_ _ _ _ _ _ _ h=>by obtain⟨_,_,_,rfl⟩:=nO h;rfl);obtain⟨_,_,bx,_⟩:=f6 (ps:=["_law_found","_law_due"]) X G uU (λ_ _ _ _ _ _ _ h=>by obtain⟨_,_,rfl⟩:=len2 h;rfl);obtain⟨_,_,ai,_⟩:=f6 (ps:=Xi) X G uV (λ_ _ _ _ _ _ _ h=>by obtain⟨_,_,rfl⟩:=len2 h;rfl);obtain⟨_,_,ar,_⟩:=f6 (ps:=Xk) X G uW (λ_ _ _ _ _ _ _ h=>by obtain⟨_,_,rfl⟩:=len2 h;rfl);obtain⟨_,_,aC,_⟩:=f6 (ps:=XT) X G uX (λ_ _ _ _ _ _ _ h=>by obtain⟨_,_,_,_,rfl⟩:=jo h;rfl);obtain⟨_,_,au,_⟩:=f6 (ps:=XR) X G uY (λ_ _ _ _ _ _ _ h=>by obtain⟨_,_,_,_,rfl⟩:=jo h;rfl);obtain⟨_,_,aG,_⟩:=f6 (ps:=XY) X G uZ (λ_ _ _ _ _ _ _ h=>by obtain⟨_,_,_,_,rfl⟩:=jo h;rfl);obtain⟨_,_,aH,_⟩:=f6 (ps:=Xd) X G u0 (λ_ _ _ _ _ _ _ h=>by obtain⟨_,_,rfl⟩:=len2 h;rfl);obtain⟨_,_,aI,_⟩:=f6 (ps:=XF) X G u5 (λ_ _ _ _ _ _ _ h=>by obtain⟨_,_,_,_,rfl⟩:=jo h;rfl);obtain⟨_,_,aZ,_⟩:=f6 (ps:=XS) X G u6 (λ_ _ _ _ _ _ _ h=>by obtain⟨_,_,_,_,rfl⟩:=jo h;rfl);obtain⟨_,_,ak,_⟩:=f6 (ps:=XG) X G u7 (λ_ _ _ _ _ _ _ h=>by obtain⟨_,_,_,rfl⟩:=nO h;rfl);obtain⟨_,_,al,_⟩:=f6 (ps:=XN) X G u9 (λ_ _ _ _ _ _ _ h=>by obtain⟨_,_,_,_,rfl⟩:=jo h;rfl);obtain⟨_,_,aJ,_⟩:=f6 (ps:=XF) X G u_ (λ_ _ _ _ _ _ _ h=>by obtain⟨_,_,_,_,rfl⟩:=jo h;rfl);obtain⟨_,_,aD,_⟩:=f6 (ps:=XD) X G va (λ_ _ _ _ _ _ _ h=>by obtain⟨_,_,rfl⟩:=len2 h;rfl);obtain⟨_,_,bn,hB⟩:=f6 (ps:=["_law_script"]) X G vb (λ_ _ _ _ _ _ _ h=>by obtain⟨_,rfl⟩:=len1 h;rfl);subst vq
 have aK:Dn K mg "_law_rows" gZ (top 42) fR (W.fnOf "_law_rows" "_law_rows" (h_ (top 42)) (g6 (top 42)) (eS (top 42)) .none bE bF bG bD (.ref cR) bH):=by
  have F:=oF (st:=(top 42)) lR vc kR;exact⟨F,F.binds (λ_ _ _ _ _ _ _ h=>by obtain⟨_,_,_,_,rfl⟩:=jo h;rfl),W.mg_of X G aR⟩
 subst vw
 have aL:Dn K mg "_law_some" oV (top 53) fS (W.fnOf "_law_some" "_law_some" (h_ (top 53)) (g6 (top 53)) (eS (top 53)) .none bJ bK bL bI (.ref cS) bM):=by
  have F:=oF (st:=(top 53)) lS vd kS;exact⟨F,F.binds (λ_ _ _ _ _ _ _ h=>by obtain⟨_,_,_,_,_,rfl⟩:=JS h;rfl),W.mg_of X G aS⟩
 subst vy
 have a1:Dn K mg "in_order" iT (top 16) fN (W.fnOf "in_order" "in_order" (h_ (top 16)) (g6 (top 16)) (eS (top 16)) .none bO bP bQ bN (.ref cN) bR):=by
  have F:=oF (st:=(top 16)) lN ve kN;exact⟨F,F.binds (λ_ _ _ _ _ _ _ h=>by obtain⟨_,_,rfl⟩:=len2 h;rfl),W.mg_of X G aN⟩
 subst vB
 have av:Dn K mg "_law_sorted" oU (top 57) fO (W.fnOf "_law_sorted" "_law_sorted" (h_ (top 57)) (g6 (top 57)) (eS (top 57)) .none bT bU bV bS (.ref cO) bW):=by
  have F:=oF (st:=(top 57)) lO vf kO;exact⟨F,F.binds (λ_ _ _ _ _ _ _ h=>by obtain⟨_,_,rfl⟩:=len2 h;rfl),W.mg_of X G aO⟩
 obtain⟨_,ag⟩:=nN (ps:=Xn) qY (λ_ _ _ _ _ _ _ h=>by obtain⟨_,_,rfl⟩:=len2 h;rfl);obtain⟨_,ao⟩:=nN (ps:=["self","kind"]) qZ (λ_ _ _ _ _ _ _ h=>by obtain⟨_,_,rfl⟩:=len2 h;rfl);obtain⟨_,aM⟩:=nN (ps:=XZ) q9 (λ_ _ _ _ _ _ _ h=>by obtain⟨_,_,_,rfl⟩:=nO h;rfl);obtain⟨_,aP⟩:=nN (ps:=Xj) q_ (λ_ _ _ _ _ _ _ h=>by obtain⟨_,_,_,_,rfl⟩:=jo h;rfl);obtain⟨_,aw⟩:=nN (ps:=["self"]) ra (λ_ _ _ _ _ _ _ h=>by obtain⟨_,rfl⟩:=len1 h;rfl);obtain⟨_,ax⟩:=nN (ps:=Xo) rb (λ_ _ _ _ _ _ _ h=>by obtain⟨_,_,rfl⟩:=len2 h;rfl);have e:=cg.symm.trans bn.m
 cases e;refine⟨_,λs v=>.of_eq (hB [v] rfl),λbase X1 _ bm=>?_⟩;have bw:=W.codeHd_of_K X1 vv;have cd:=W.codeHd_of_K X1 vx;have ce:=W.codeHd_of_K X1 vA;have cf:=W.codeHd_of_K X1 vC;obtain⟨t1,t2,t3,t4,t5,t6⟩:=vp;have MI:=iD.meth qY;have OF:mJ K mg Y aj ap aW aX ay az:=⟨⟨t1,t2,t3,t4⟩,vi,⟨t5,MI.1,MI.2,t6⟩,W.mg_of X G vg,iD.meth qZ,iD.meth q9,iD.meth q_,iD.meth ra,iD.meth rb⟩;have XC:Cs K mg ab:=⟨W.mg_of X G vh,vj,vk,vo⟩;have N0:=mw (P:=l.prog) (w:=w) (base:=base) T I;have N:=nz N0;have Nm:=AU T ac I N;have Pl:=sW T ae I N;have bX:=λd=>kind_all (P:=l.prog) (w:=w) (base:=base) T an I ae ac a9 U d;have cy:=sY 0 T U ac Nm I N ae Pl an (bX 0);have cz:=sY 1 T U ac Nm I N ae Pl an (bX 1);have cA:en l.prog w K mg base eu 7 _ _ _ (uh K):=(cy.mono (by decide)).or cz;have V_:=tF (P:=l.prog) (w:=w) T J aK rfl bw bm I aq aF aa 60;have M:=Ci (P:=l.prog) (w:=w) (base:=base) T aQ aT bh a5 bb a6 bj aU am;have cC:=tF (P:=l.prog) (w:=w) T J aK rfl bw bm I aq aF aa 20;have AA:=Ca (P:=l.prog) (w:=w) (base:=base) T ah 15;have Ka:=B0 (P:=l.prog) (w:=w) (base:=base) T am;have Rk:=A6 (P:=l.prog) (w:=w) (base:=base) T bb;have bY:=A5 (P:=l.prog) (w:=w) (base:=base) T aa;have IO:=HI T a1 rfl ce bm bb Rk;have LS:=HJ T av rfl cf bm aa bY;have SO:=HM 60 T aL rfl cd bm I N0 aa bY J V_;have PO:=IC 60 T aI J V_;have IP:=IM (P:=l.prog) (w:=w) (base:=base) T aY;have AS:=IS (P:=l.prog) (w:=w) (base:=base) T aA;have AL:=Bo (P:=l.prog) (w:=w) (base:=base) T ai;have TH:=Hs T aC I N J cC;have SI:=Hv T au I N aC TH ai AL;have bZ:=Bq (P:=l.prog) (w:=w) (base:=base) T a2 a8 bi 3;have TR:=Br (P:=l.prog) (w:=w) (base:=base) T aH ai 3;have LO:=Bv (P:=l.prog) (w:=w) (base:=base) (K:=K) T aG I 2;have PC:=Bw (P:=l.prog) (w:=w) (base:=base) (K:=K) T ar 3;have KG:=IU T aB am Ka;have ST:=IW 14 60 T aE am Ka aY IP aQ (M 15).1;have UN:=Cr 64 (by decide) T a4 a7 aE ST aB KG 3;have KI:=Jb (P:=l.prog) (w:=w) (base:=base) T OF ag;have GR:=Jd (P:=l.prog) (w:=w) (base:=base) T aw;have KK:=Jf (P:=l.prog) (w:=w) (base:=base) T ax;have KB:=Jh 70 T OF ao aA AS a4 UN (by decide);have KS:=Jj T OF aM a2 bZ;have BY:=Jl (P:=l.prog) (w:=w) (base:=base) T ba;have AF:=Jn 15 63 T a3 aQ (M 15).1;have KP:=Ju 15 64 T OF aP a3 AF a2 bZ ba BY a1 IO (by decide);have LP:=Jw 15 65 T OF XC aZ aP KP;have SE:=Jy 15 T ak ah AA;have cD:=JC T al I N ar PC J V_ au SI aG LO;have cE:=JE jV T aJ aI (PO.mono (by decide)) aL (SO.mono (by decide));have RO:=JL jV T OF aD I N U cA aJ cE al cD aH TR ag KI ao (KB.mono (by decide)) aw GR ax KK aM KS ah AA av LS ak SE aZ (LP.mono (by decide));exact JO T bn aD RO
theorem JT {K:W.Frag}{x:Str}{f c P:Addr}{oc J:Value}{od U:Option Addr}{fd:FuncData}{sl Y:Array (Option Value)}{I:Array Value}(a:W.nsIn K mainGlobals x=some (some (.ref f)))(l:K.lookup f=some ⟨oc,od,.func fd,sl⟩)(hc:fd.code=.ref c)
 (lc:K.lookup c=some ⟨J,U,.fields I,Y⟩) (hP:I[11]? =some (.ref P)):W.tabIn K x=some (c,P):=by
 unfold W.tabIn;rw[a];dsimp only;rw[l];dsimp only;rw[hc];dsimp only;rw[lc];dsimp only;rw[hP]
def JU (K:W.Frag) (I:List (Addr × Addr)):Sp:=λvs H Q _=>∃(a:Addr) (ns:List Int),vs=[.ref a]/\iU K H a ns/\ns.length<=63/\(∀q∈I,H q.2=some (.gA #[]))/\∀H',Q (.bl true) H'
theorem iU.ofT {K:W.Frag}{H:Hp}{a:Addr}{ns:List Int}{I:List Addr}(o:qi I H)(h:eB K H a (ns.map V.int)):iU K H a ns:=by
 rcases h with(h|h)|h
 . rcases o a with z|⟨J,xs,z⟩|⟨_,z⟩ <;> rw[h] at z <;> cases z
 . exact .inl h
 . exact .inr h
theorem walk {l:W.OpenLaw}{q:Program}{loose:List Str}{XP:(Str->Option Value)->Heap->Prop}{YP:World->Heap->Prop}{d:DefRec}{K:Params->W.Frag}(hn:l.most=some 63)(aa:d.params.defaults=[])
 (hY:∀(w:World) (h:Heap),YP w h->(K w.params).In h) (ab:∀w:World,W.noTabs (K w.params)=true) (Y:∀y∈(Xl:List Str),∃d',(PyProof.Rows.recsOf q).find? (λe=>e.name == y)=some d')
 (F:∀w:World,∃c Pt c2 J c3 P3 c4 U:Addr,W.tabIn (K w.params) "_law_rows"=some (c,Pt)/\W.tabIn (K w.params) "_law_some"=some (c2,J)/\W.tabIn (K w.params) "in_order"=some (c3,P3)/\W.tabIn (K w.params) "_law_sorted"=some (c4,U)/\∀(mg:Str->Option Value) (fa:Addr) (h:Heap),(K w.params).In h->h.Ns mainGlobals mg->mg d.name=some (.ref fa)->
   ∃fd:FuncData,(∀(s:Shared) (u:Value),BindsTo s fd ⟨[u],[]⟩ [("_law_script",u)])/\∀base:Heap,(K w.params).In base->base.Ns mainGlobals mg->BM mg base->en l.prog w (K w.params) mg base eu 133 fa fd ["_law_script"] (ui (K w.params) Pt J P3 U)):
 W.WalkO q loose XP YP l.row.toRowW d [] (λf vs=>PySem.call f vs):=
 L2.Gp (n:=63) (k:=133) (x:="_law_script") (names:=Xl) (sp:=λw I=>JU (K w.params) I) hn (by decide) aa ⟨rfl,by decide,by decide⟩ hY ab (λw=>by
   obtain⟨c,Pt,c2,J,c3,P3,c4,U,ht,jD,oZ,vD,F⟩:=F w;refine⟨[(c,Pt),(c2,J),(c3,P3),(c4,U)],λq' hq=>?_,λmg fa h X G hm=>?_⟩
   . simp only[Q2e,Q2f,or_false] at hq;rcases hq with e|e|e|e
     . exact⟨"_law_rows",by simp,by rw[e];exact ht⟩
     . exact⟨"_law_some",by simp,by rw[e];exact jD⟩
     . exact⟨"in_order",by simp,by rw[e];exact oZ⟩
     . exact⟨"_law_sorted",by simp,by rw[e];exact vD⟩
   obtain⟨fd,hb,hF⟩:=F mg fa h X G hm;exact⟨fd,hb,λbase X1 G1 B=>(hF base X1 G1 B).imp λvs H Q E ⟨a,ns,e,hS,hl,hT,q⟩=>⟨a,ns,e,hS,hl,.inl (hT (c,Pt) (by simp)),.inl (hT (c2,J) (by simp)),.inl (hT (c3,P3) (by simp)),.inl (hT (c4,U) (by simp)),q⟩⟩)
   Y λw I H a ns hl hO ac ae=>⟨a,ns,rfl,iU.ofT hO ae,hl,ac,λ_=>rfl⟩
end Pb
open W PyProof.Rows
set_option maxRecDepth 100000 in
set_option maxHeartbeats 0 in
theorem PySem.Challenge.cw_putback_k40_keep_holds : PySem.Challenge.rw_putback_k40_keep.Holds := by
 w_on
 refine holds_law Pb.said λsaid=>?_;refine holds_open (q:=Pb.qv) (loose:=[]) (Xt:=λs=>xlAt Pb.qv [] s && recOk (RowW.records (PySem.W.OpenRow.toRowW (PySem.W.OpenLaw.row PySem.Challenge.rw_putback_k40_keep))) s) (XP:=XL Pb.qv []) (Yf:=Hook.obs (PySem.W.kmHook Pb.KK Pb.ku Pb.lz [135,372,469,476,488])) (Ya:=Hook.val (PySem.W.kmHook Pb.KK Pb.ku Pb.lz [135,372,469,476,488])) (YP:=Hook.says (PySem.W.kmHook Pb.KK Pb.ku Pb.lz [135,372,469,476,488])) (N:=11013) ?hl (Hook.of (PySem.W.kmHook Pb.KK Pb.ku Pb.lz [135,372,469,476,488])) (Hook.keeps (PySem.W.kmHook Pb.KK Pb.ku Pb.lz [135,372,469,476,488])) (λs e=>xl_of s (Bool.and_eq_true_iff.mp e).1) XL.keeps (by rfl) (by rfl) (by rfl) (λs e=>recFacts_of (Bool.and_eq_true_iff.mp e).2) (by rfl) (by first|assumption|decide +kernel) (by decide +kernel) ⟨rfl,rfl,rfl,rfl,rfl,by decide +kernel⟩ ?hw ?hc
 case hl=>exact Pb.C7 (by rfl) (by rfl) (λs=>rfl) (by rfl) (List.take_append_drop 24 Pb.rj).symm (λP=>by kernel_rfl) Pb.Dj (Pb.C8 Pb.Dk (Pb.C9 Pb.Dl Pb.Dq Pb.Du))
 (case hw=>w_witness2)
 k_fill
 refine Pb.walk (l:=PySem.Challenge.rw_putback_k40_keep) rfl rfl (λw h Y=>PySem.W.km_in_of Y) (λw=>by kernel_rfl) ?HR ?F
 case HR=>intro y hy;simp only[Q2e,Q2f,or_false] at hy;rcases hy with rfl|rfl|rfl|rfl <;> exact⟨_,rfl⟩
 case F=>
  intro w
  refine' ⟨_,_,_,_,_,_,_,_,?ht,?jD,?oZ,?vD,?GG⟩
  case ht|jD|oZ|vD=>
   refine' Pb.JT ?ta ?tl ?tc ?JV ?tP
   (case ta=>k_is);(case tl=>k_is);(case tc=>rfl);(case JV=>k_is);(case tP=>rfl)
  case GG=>
   intro mg fa h KX G hmg
   refine' Pb.all_mk KX G hmg ?uk ?um ?uo ?uq ?ur ?uu ?uv ?uw ?ux ?uy ?uz ?uA ?uB ?uC ?uD ?uE ?uF ?uG ?uH ?uI ?uJ ?uK ?uL ?uM ?uN ?uO ?uP ?uQ ?uR ?uS ?uT ?uU ?uV ?uW ?uX ?uY ?uZ ?u0 ?u5 ?u6 ?u7 ?u9 ?u_ ?va ?vb ?aR ?lR ?vc ?kR ?aS ?lS ?vd ?kS ?aN ?lN ?ve ?kN ?aO ?lO ?vf ?kO ?zz ?vg ?CQ ?CS ?vh ?CU ?CV ?qY ?qZ ?q9 ?q_ ?ra ?rb ?vi ?vj ?vk ?vo ?vp ?vq ?CY ?CZ ?vv ?vw ?C0 ?C1 ?vx ?vy ?C2 ?C3 ?vA ?vB ?C4 ?C5 ?vC ?jV
   case uk|um|uo|uq|ur|uu|uv|uw|ux|uy|uz|uA|uB|uC|uD|uE|uF|uG|uH|uI|uJ|uK|uL|uM|uN|uO|uP|uQ|uR|uS|uT|uU|uV|uW|uX|uY|uZ|u0|u5|u6|u7|u9|u_|va|vb=>
    refine' Pb.JP ?a ?l ?c ?k
    (case a=>k_is);(case l=>k_is);(case c=>k_is);(case k=>k_is)
   (case aR=>k_is);(case lR=>k_is);(case vc=>k_is);(case kR=>k_is)
   (case aS=>k_is);(case lS=>k_is);(case vd=>k_is);(case kS=>k_is)
   (case aN=>k_is);(case lN=>k_is);(case ve=>k_is);(case kN=>k_is)
   (case aO=>k_is);(case lO=>k_is);(case vf=>k_is);(case kO=>k_is)
   case zz=>intro x hx;simp only[Q2e,Q2f,or_false] at hx;rcases hx with rfl|rfl|rfl|rfl|rfl|rfl|rfl|rfl|rfl|rfl|rfl|rfl|rfl|rfl <;> k_is
   (case vg=>k_is);(case CQ=>k_is);(case CS=>rfl)
   (case vh=>k_is);(case CU=>k_is);(case CV=>rfl)
   case qY|qZ|q9|q_|ra|rb=>
    refine' Pb.JQ ?a ?l ?c ?k ?f ?g
    (case a=>k_is);(case l=>k_is);(case c=>k_is);(case k=>k_is);(case f=>kernel_rfl);(case g=>kernel_rfl)
   case vi|vj|vk|vo=>kernel_rfl
   case vp=>refine⟨?_,?_,?_,?_,?_,?_⟩ <;> kernel_rfl
   (case vq=>rfl);(case CY=>k_is);(case CZ=>rfl);(case vv=>kernel_rfl)
   (case vw=>rfl);(case C0=>k_is);(case C1=>rfl);(case vx=>kernel_rfl)
   (case vy=>rfl);(case C2=>k_is);(case C3=>rfl);(case vA=>kernel_rfl)
   (case vB=>rfl);(case C4=>k_is);(case C5=>rfl);(case vC=>kernel_rfl)
   (case jV=>exact⟨by decide,by decide,by decide,by decide,by decide,by decide⟩)
